import PyProof.Rows.All
import Wide.All
import OpenK.AllK
import Wide.FinOn
import PyProof.EqAt
import PyProof.EqKinds
import PyProof.TupleCall
import HandS.ForExc
import HandS.ForMost
import HandS.StrMore
import HandS.ForDict
import HandS.ClsMeth
import HandS.NoneIn
import HandS.IsInst
import HandS.Style
import HandS.Wide
import HandS.Codes
import HandS.Walk
import HandS.More
import HandS.DictComp
import HandS.SortRule
import PySem.Challenge.RW_likerun_k15_reach_and_graph
import HandS.SlotsOwn
import HandS.Text
import Open.SpecLaws
import KE.OsGo
set_option Elab.async false
set_option linter.all false
set_option maxRecDepth 100000
namespace D0
open PySem PySem.Spec PyProof.Rows L2
def top (i : Nat) : Stmt := PySem.Challenge.pw_likerun_k15_reach_and_graph.main.body.getD i (.Pass ⟨0, 0, 0, 0⟩)
abbrev s__wall : Stmt := top 0
abbrev n__wall : List Str := ["k"]
abbrev p__wall : List Str := ["k"]
theorem sc__wall : FnScope n__wall p__wall (defScope s__wall) := ⟨rfl, rfl, rfl, by decide +kernel, rfl, by decide +kernel, by decide +kernel⟩
abbrev s_Thing___init__ : Stmt := inClass (top 2) 0
abbrev n_Thing___init__ : List Str := ["self", "kind", "tag", "slots"]
abbrev p_Thing___init__ : List Str := ["self", "kind", "tag", "slots"]
theorem sc_Thing___init__ : FnScope n_Thing___init__ p_Thing___init__ (defScope s_Thing___init__) := ⟨rfl, rfl, rfl, by decide +kernel, rfl, by decide +kernel, by decide +kernel⟩
abbrev s_Store___init__ : Stmt := inClass (top 3) 1
abbrev n_Store___init__ : List Str := ["self"]
abbrev p_Store___init__ : List Str := ["self"]
theorem sc_Store___init__ : FnScope n_Store___init__ p_Store___init__ (defScope s_Store___init__) := ⟨rfl, rfl, rfl, by decide +kernel, rfl, by decide +kernel, by decide +kernel⟩
abbrev s_Store___len__ : Stmt := inClass (top 3) 2
abbrev n_Store___len__ : List Str := ["self"]
abbrev p_Store___len__ : List Str := ["self"]
theorem sc_Store___len__ : FnScope n_Store___len__ p_Store___len__ (defScope s_Store___len__) := ⟨rfl, rfl, rfl, by decide +kernel, rfl, by decide +kernel, by decide +kernel⟩
abbrev s_Store_make : Stmt := inClass (top 3) 3
abbrev n_Store_make : List Str := ["self", "kind", "tag", "slots", "address"]
abbrev p_Store_make : List Str := ["self", "kind", "tag", "slots"]
theorem sc_Store_make : FnScope n_Store_make p_Store_make (defScope s_Store_make) := ⟨rfl, rfl, rfl, by decide +kernel, rfl, by decide +kernel, by decide +kernel⟩
abbrev s_Store_kind_of : Stmt := inClass (top 3) 4
abbrev n_Store_kind_of : List Str := ["self", "value"]
abbrev p_Store_kind_of : List Str := ["self", "value"]
theorem sc_Store_kind_of : FnScope n_Store_kind_of p_Store_kind_of (defScope s_Store_kind_of) := ⟨rfl, rfl, rfl, by decide +kernel, rfl, by decide +kernel, by decide +kernel⟩
abbrev s_Store_tag_of : Stmt := inClass (top 3) 5
abbrev n_Store_tag_of : List Str := ["self", "value"]
abbrev p_Store_tag_of : List Str := ["self", "value"]
theorem sc_Store_tag_of : FnScope n_Store_tag_of p_Store_tag_of (defScope s_Store_tag_of) := ⟨rfl, rfl, rfl, by decide +kernel, rfl, by decide +kernel, by decide +kernel⟩
abbrev s_Store_slots_of : Stmt := inClass (top 3) 6
abbrev n_Store_slots_of : List Str := ["self", "value"]
abbrev p_Store_slots_of : List Str := ["self", "value"]
theorem sc_Store_slots_of : FnScope n_Store_slots_of p_Store_slots_of (defScope s_Store_slots_of) := ⟨rfl, rfl, rfl, by decide +kernel, rfl, by decide +kernel, by decide +kernel⟩
abbrev s_Store_slot : Stmt := inClass (top 3) 7
abbrev n_Store_slot : List Str := ["self", "value", "index"]
abbrev p_Store_slot : List Str := ["self", "value", "index"]
theorem sc_Store_slot : FnScope n_Store_slot p_Store_slot (defScope s_Store_slot) := ⟨rfl, rfl, rfl, by decide +kernel, rfl, by decide +kernel, by decide +kernel⟩
abbrev s_Store_set_slot : Stmt := inClass (top 3) 8
abbrev n_Store_set_slot : List Str := ["self", "value", "index", "entry"]
abbrev p_Store_set_slot : List Str := ["self", "value", "index", "entry"]
theorem sc_Store_set_slot : FnScope n_Store_set_slot p_Store_set_slot (defScope s_Store_set_slot) := ⟨rfl, rfl, rfl, by decide +kernel, rfl, by decide +kernel, by decide +kernel⟩
abbrev s_Store_change : Stmt := inClass (top 3) 9
abbrev n_Store_change : List Str := ["self", "value", "tag", "slots", "thing"]
abbrev p_Store_change : List Str := ["self", "value", "tag", "slots"]
theorem sc_Store_change : FnScope n_Store_change p_Store_change (defScope s_Store_change) := ⟨rfl, rfl, rfl, by decide +kernel, rfl, by decide +kernel, by decide +kernel⟩
abbrev s_Store_reach : Stmt := inClass (top 3) 10
abbrev n_Store_reach : List Str := ["self", "entries", "met", "order", "at"]
abbrev p_Store_reach : List Str := ["self", "entries"]
theorem sc_Store_reach : FnScope n_Store_reach p_Store_reach (defScope s_Store_reach) := ⟨rfl, rfl, rfl, by decide +kernel, rfl, by decide +kernel, by decide +kernel⟩
abbrev s_Store_meet_all : Stmt := inClass (top 3) 11
abbrev n_Store_meet_all : List Str := ["self", "entries", "met", "order", "entry", "address"]
abbrev p_Store_meet_all : List Str := ["self", "entries", "met", "order"]
theorem sc_Store_meet_all : FnScope n_Store_meet_all p_Store_meet_all (defScope s_Store_meet_all) := ⟨rfl, rfl, rfl, by decide +kernel, rfl, by decide +kernel, by decide +kernel⟩
abbrev s_Store_graph : Stmt := inClass (top 3) 12
abbrev n_Store_graph : List Str := ["self", "entries", "order", "address", "numbers", "tops", "objects", "thing", "slots", "number", "entry"]
abbrev p_Store_graph : List Str := ["self", "entries"]
theorem sc_Store_graph : FnScope n_Store_graph p_Store_graph (defScope s_Store_graph) := ⟨rfl, rfl, rfl, by decide +kernel, rfl, by decide +kernel, by decide +kernel⟩
abbrev s_address_of : Stmt := top 4
abbrev n_address_of : List Str := ["entry", "word"]
abbrev p_address_of : List Str := ["entry"]
theorem sc_address_of : FnScope n_address_of p_address_of (defScope s_address_of) := ⟨rfl, rfl, rfl, by decide +kernel, rfl, by decide +kernel, by decide +kernel⟩
abbrev s_moved : Stmt := top 5
abbrev n_moved : List Str := ["entry", "table", "word"]
abbrev p_moved : List Str := ["entry", "table"]
theorem sc_moved : FnScope n_moved p_moved (defScope s_moved) := ⟨rfl, rfl, rfl, by decide +kernel, rfl, by decide +kernel, by decide +kernel⟩
abbrev s_Heap___init__ : Stmt := inClass (top 7) 0
abbrev n_Heap___init__ : List Str := ["self"]
abbrev p_Heap___init__ : List Str := ["self"]
theorem sc_Heap___init__ : FnScope n_Heap___init__ p_Heap___init__ (defScope s_Heap___init__) := ⟨rfl, rfl, rfl, by decide +kernel, rfl, by decide +kernel, by decide +kernel⟩
abbrev s_Heap___len__ : Stmt := inClass (top 7) 1
abbrev n_Heap___len__ : List Str := ["self"]
abbrev p_Heap___len__ : List Str := ["self"]
theorem sc_Heap___len__ : FnScope n_Heap___len__ p_Heap___len__ (defScope s_Heap___len__) := ⟨rfl, rfl, rfl, by decide +kernel, rfl, by decide +kernel, by decide +kernel⟩
abbrev s_Heap_young : Stmt := inClass (top 7) 2
abbrev n_Heap_young : List Str := ["self"]
abbrev p_Heap_young : List Str := ["self"]
theorem sc_Heap_young : FnScope n_Heap_young p_Heap_young (defScope s_Heap_young) := ⟨rfl, rfl, rfl, by decide +kernel, rfl, by decide +kernel, by decide +kernel⟩
abbrev s_Heap_old : Stmt := inClass (top 7) 3
abbrev n_Heap_old : List Str := ["self"]
abbrev p_Heap_old : List Str := ["self"]
theorem sc_Heap_old : FnScope n_Heap_old p_Heap_old (defScope s_Heap_old) := ⟨rfl, rfl, rfl, by decide +kernel, rfl, by decide +kernel, by decide +kernel⟩
abbrev s_Heap_remembered : Stmt := inClass (top 7) 4
abbrev n_Heap_remembered : List Str := ["self"]
abbrev p_Heap_remembered : List Str := ["self"]
theorem sc_Heap_remembered : FnScope n_Heap_remembered p_Heap_remembered (defScope s_Heap_remembered) := ⟨rfl, rfl, rfl, by decide +kernel, rfl, by decide +kernel, by decide +kernel⟩
abbrev s_Heap_make : Stmt := inClass (top 7) 5
abbrev n_Heap_make : List Str := ["self", "kind", "tag", "slots", "address"]
abbrev p_Heap_make : List Str := ["self", "kind", "tag", "slots"]
theorem sc_Heap_make : FnScope n_Heap_make p_Heap_make (defScope s_Heap_make) := ⟨rfl, rfl, rfl, by decide +kernel, rfl, by decide +kernel, by decide +kernel⟩
abbrev s_Heap_set_slot : Stmt := inClass (top 7) 6
abbrev n_Heap_set_slot : List Str := ["self", "value", "index", "entry"]
abbrev p_Heap_set_slot : List Str := ["self", "value", "index", "entry"]
theorem sc_Heap_set_slot : FnScope n_Heap_set_slot p_Heap_set_slot (defScope s_Heap_set_slot) := ⟨rfl, rfl, rfl, by decide +kernel, rfl, by decide +kernel, by decide +kernel⟩
abbrev s_Heap_change : Stmt := inClass (top 7) 7
abbrev n_Heap_change : List Str := ["self", "value", "tag", "slots", "thing"]
abbrev p_Heap_change : List Str := ["self", "value", "tag", "slots"]
theorem sc_Heap_change : FnScope n_Heap_change p_Heap_change (defScope s_Heap_change) := ⟨rfl, rfl, rfl, by decide +kernel, rfl, by decide +kernel, by decide +kernel⟩
abbrev s_Heap_remember : Stmt := inClass (top 7) 8
abbrev n_Heap_remember : List Str := ["self", "address", "entries"]
abbrev p_Heap_remember : List Str := ["self", "address", "entries"]
theorem sc_Heap_remember : FnScope n_Heap_remember p_Heap_remember (defScope s_Heap_remember) := ⟨rfl, rfl, rfl, by decide +kernel, rfl, by decide +kernel, by decide +kernel⟩
abbrev s_Heap_collect : Stmt := inClass (top 7) 9
abbrev n_Heap_collect : List Str := ["self", "entries", "full"]
abbrev p_Heap_collect : List Str := ["self", "entries", "full"]
theorem sc_Heap_collect : FnScope n_Heap_collect p_Heap_collect (defScope s_Heap_collect) := ⟨rfl, rfl, rfl, by decide +kernel, rfl, by decide +kernel, by decide +kernel⟩
abbrev s_Heap_move_all : Stmt := inClass (top 7) 10
abbrev n_Heap_move_all : List Str := ["self", "entries"]
abbrev p_Heap_move_all : List Str := ["self", "entries"]
theorem sc_Heap_move_all : FnScope n_Heap_move_all p_Heap_move_all (defScope s_Heap_move_all) := ⟨rfl, rfl, rfl, by decide +kernel, rfl, by decide +kernel, by decide +kernel⟩
abbrev s_Heap_move_young : Stmt := inClass (top 7) 11
abbrev n_Heap_move_young : List Str := ["self", "entries"]
abbrev p_Heap_move_young : List Str := ["self", "entries"]
theorem sc_Heap_move_young : FnScope n_Heap_move_young p_Heap_move_young (defScope s_Heap_move_young) := ⟨rfl, rfl, rfl, by decide +kernel, rfl, by decide +kernel, by decide +kernel⟩
abbrev s_Heap_place : Stmt := inClass (top 7) 12
abbrev n_Heap_place : List Str := ["self", "thing", "address"]
abbrev p_Heap_place : List Str := ["self", "thing"]
theorem sc_Heap_place : FnScope n_Heap_place p_Heap_place (defScope s_Heap_place) := ⟨rfl, rfl, rfl, by decide +kernel, rfl, by decide +kernel, by decide +kernel⟩
abbrev s_Heap_readdress : Stmt := inClass (top 7) 13
abbrev n_Heap_readdress : List Str := ["self", "address", "table"]
abbrev p_Heap_readdress : List Str := ["self", "address", "table"]
theorem sc_Heap_readdress : FnScope n_Heap_readdress p_Heap_readdress (defScope s_Heap_readdress) := ⟨rfl, rfl, rfl, by decide +kernel, rfl, by decide +kernel, by decide +kernel⟩
abbrev s_Heap_reached_young : Stmt := inClass (top 7) 14
abbrev n_Heap_reached_young : List Str := ["self", "entries"]
abbrev p_Heap_reached_young : List Str := ["self", "entries"]
theorem sc_Heap_reached_young : FnScope n_Heap_reached_young p_Heap_reached_young (defScope s_Heap_reached_young) := ⟨rfl, rfl, rfl, by decide +kernel, rfl, by decide +kernel, by decide +kernel⟩
abbrev s_Heap_faults : Stmt := inClass (top 7) 15
abbrev n_Heap_faults : List Str := ["self", "entries"]
abbrev p_Heap_faults : List Str := ["self", "entries"]
theorem sc_Heap_faults : FnScope n_Heap_faults p_Heap_faults (defScope s_Heap_faults) := ⟨rfl, rfl, rfl, by decide +kernel, rfl, by decide +kernel, by decide +kernel⟩
abbrev s_is_young : Stmt := top 8
abbrev n_is_young : List Str := ["address"]
abbrev p_is_young : List Str := ["address"]
theorem sc_is_young : FnScope n_is_young p_is_young (defScope s_is_young) := ⟨rfl, rfl, rfl, by decide +kernel, rfl, by decide +kernel, by decide +kernel⟩
abbrev s_refers_to_young : Stmt := top 9
abbrev n_refers_to_young : List Str := ["entries", "entry", "address"]
abbrev p_refers_to_young : List Str := ["entries"]
theorem sc_refers_to_young : FnScope n_refers_to_young p_refers_to_young (defScope s_refers_to_young) := ⟨rfl, rfl, rfl, by decide +kernel, rfl, by decide +kernel, by decide +kernel⟩
abbrev s__law_cell : Stmt := top 11
abbrev n__law_cell : List Str := ["script", "k"]
abbrev p__law_cell : List Str := ["script", "k"]
theorem sc__law_cell : FnScope n__law_cell p__law_cell (defScope s__law_cell) := ⟨rfl, rfl, rfl, by decide +kernel, rfl, by decide +kernel, by decide +kernel⟩
abbrev s__law_box : Stmt := top 12
abbrev n__law_box : List Str := ["script", "k", "cell"]
abbrev p__law_box : List Str := ["script", "k"]
theorem sc__law_box : FnScope n__law_box p__law_box (defScope s__law_box) := ⟨rfl, rfl, rfl, by decide +kernel, rfl, by decide +kernel, by decide +kernel⟩
abbrev s__law_take : Stmt := top 13
abbrev n__law_take : List Str := ["box", "many", "digit", "first", "second"]
abbrev p__law_take : List Str := ["box", "many"]
theorem sc__law_take : FnScope n__law_take p__law_take (defScope s__law_take) := ⟨rfl, rfl, rfl, by decide +kernel, rfl, by decide +kernel, by decide +kernel⟩
abbrev s__law_same : Stmt := top 14
abbrev n__law_same : List Str := ["told", "due", "k"]
abbrev p__law_same : List Str := ["told", "due"]
theorem sc__law_same : FnScope n__law_same p__law_same (defScope s__law_same) := ⟨rfl, rfl, rfl, by decide +kernel, rfl, by decide +kernel, by decide +kernel⟩
abbrev s__law_word : Stmt := top 15
abbrev n__law_word : List Str := ["box", "menu", "letters", "k"]
abbrev p__law_word : List Str := ["box"]
theorem sc__law_word : FnScope n__law_word p__law_word (defScope s__law_word) := ⟨rfl, rfl, rfl, by decide +kernel, rfl, by decide +kernel, by decide +kernel⟩
abbrev s__law_name : Stmt := top 16
abbrev n__law_name : List Str := ["box", "letters", "k"]
abbrev p__law_name : List Str := ["box"]
theorem sc__law_name : FnScope n__law_name p__law_name (defScope s__law_name) := ⟨rfl, rfl, rfl, by decide +kernel, rfl, by decide +kernel, by decide +kernel⟩
abbrev s__law_plain : Stmt := top 17
abbrev n__law_plain : List Str := ["box", "way", "menu", "words"]
abbrev p__law_plain : List Str := ["box"]
theorem sc__law_plain : FnScope n__law_plain p__law_plain (defScope s__law_plain) := ⟨rfl, rfl, rfl, by decide +kernel, rfl, by decide +kernel, by decide +kernel⟩
abbrev s__law_pending : Stmt := top 18
abbrev n__law_pending : List Str := ["box", "pool", "errors", "way", "reasons"]
abbrev p__law_pending : List Str := ["box", "pool", "errors"]
theorem sc__law_pending : FnScope n__law_pending p__law_pending (defScope s__law_pending) := ⟨rfl, rfl, rfl, by decide +kernel, rfl, by decide +kernel, by decide +kernel⟩
abbrev s__law_marked : Stmt := top 19
abbrev n__law_marked : List Str := ["box", "pool", "errors", "way"]
abbrev p__law_marked : List Str := ["box", "pool", "errors", "way"]
theorem sc__law_marked : FnScope n__law_marked p__law_marked (defScope s__law_marked) := ⟨rfl, rfl, rfl, by decide +kernel, rfl, by decide +kernel, by decide +kernel⟩
abbrev s__law_entry : Stmt := top 20
abbrev n__law_entry : List Str := ["box", "pool", "errors", "marks", "way"]
abbrev p__law_entry : List Str := ["box", "pool", "errors", "marks"]
theorem sc__law_entry : FnScope n__law_entry p__law_entry (defScope s__law_entry) := ⟨rfl, rfl, rfl, by decide +kernel, rfl, by decide +kernel, by decide +kernel⟩
abbrev s__law_kinds : Stmt := top 21
abbrev n__law_kinds : List Str := ["first"]
abbrev p__law_kinds : List Str := []
theorem sc__law_kinds : FnScope n__law_kinds p__law_kinds (defScope s__law_kinds) := ⟨rfl, rfl, rfl, by decide +kernel, rfl, by decide +kernel, by decide +kernel⟩
abbrev s__law_kind : Stmt := top 22
abbrev n__law_kind : List Str := ["box", "menu"]
abbrev p__law_kind : List Str := ["box"]
theorem sc__law_kind : FnScope n__law_kind p__law_kind (defScope s__law_kind) := ⟨rfl, rfl, rfl, by decide +kernel, rfl, by decide +kernel, by decide +kernel⟩
abbrev s__law_marks : Stmt := top 23
abbrev n__law_marks : List Str := ["kind"]
abbrev p__law_marks : List Str := ["kind"]
theorem sc__law_marks : FnScope n__law_marks p__law_marks (defScope s__law_marks) := ⟨rfl, rfl, rfl, by decide +kernel, rfl, by decide +kernel, by decide +kernel⟩
abbrev s__law_tag : Stmt := top 24
abbrev n__law_tag : List Str := ["box", "kind", "many", "name", "words", "k"]
abbrev p__law_tag : List Str := ["box", "kind", "many"]
theorem sc__law_tag : FnScope n__law_tag p__law_tag (defScope s__law_tag) := ⟨rfl, rfl, rfl, by decide +kernel, rfl, by decide +kernel, by decide +kernel⟩
abbrev s__law_form : Stmt := top 25
abbrev n__law_form : List Str := ["box", "kind", "pool", "errors", "many", "k", "rest", "tag", "first", "pairs", "entry"]
abbrev p__law_form : List Str := ["box", "kind", "pool", "errors"]
theorem sc__law_form : FnScope n__law_form p__law_form (defScope s__law_form) := ⟨rfl, rfl, rfl, by decide +kernel, rfl, by decide +kernel, by decide +kernel⟩
abbrev s__law_free : Stmt := top 26
abbrev n__law_free : List Str := ["node", "k"]
abbrev p__law_free : List Str := ["node"]
theorem sc__law_free : FnScope n__law_free p__law_free (defScope s__law_free) := ⟨rfl, rfl, rfl, by decide +kernel, rfl, by decide +kernel, by decide +kernel⟩
abbrev s__law_target : Stmt := top 27
abbrev n__law_target : List Str := ["entry"]
abbrev p__law_target : List Str := ["entry"]
theorem sc__law_target : FnScope n__law_target p__law_target (defScope s__law_target) := ⟨rfl, rfl, rfl, by decide +kernel, rfl, by decide +kernel, by decide +kernel⟩
abbrev s__law_moved : Stmt := top 28
abbrev n__law_moved : List Str := ["entry", "table"]
abbrev p__law_moved : List Str := ["entry", "table"]
theorem sc__law_moved : FnScope n__law_moved p__law_moved (defScope s__law_moved) := ⟨rfl, rfl, rfl, by decide +kernel, rfl, by decide +kernel, by decide +kernel⟩
abbrev s__law_sent : Stmt := top 29
abbrev n__law_sent : List Str := ["entries", "table", "entry"]
abbrev p__law_sent : List Str := ["entries", "table"]
theorem sc__law_sent : FnScope n__law_sent p__law_sent (defScope s__law_sent) := ⟨rfl, rfl, rfl, by decide +kernel, rfl, by decide +kernel, by decide +kernel⟩
abbrev s__law_walk : Stmt := top 30
abbrev n__law_walk : List Str := ["entries", "nodes", "found", "seen", "rows", "place", "entry", "target"]
abbrev p__law_walk : List Str := ["entries", "nodes"]
theorem sc__law_walk : FnScope n__law_walk p__law_walk (defScope s__law_walk) := ⟨rfl, rfl, rfl, by decide +kernel, rfl, by decide +kernel, by decide +kernel⟩
abbrev s__law_graph : Stmt := top 31
abbrev n__law_graph : List Str := ["entries", "nodes", "found", "places", "k", "rows", "node"]
abbrev p__law_graph : List Str := ["entries", "nodes", "found"]
theorem sc__law_graph : FnScope n__law_graph p__law_graph (defScope s__law_graph) := ⟨rfl, rfl, rfl, by decide +kernel, rfl, by decide +kernel, by decide +kernel⟩
abbrev s__law_nodes : Stmt := top 32
abbrev n__law_nodes : List Str := ["script", "many", "tall", "k", "boxes", "kinds", "pool", "errors", "nodes", "form", "box"]
abbrev p__law_nodes : List Str := ["script", "many", "tall"]
theorem sc__law_nodes : FnScope n__law_nodes p__law_nodes (defScope s__law_nodes) := ⟨rfl, rfl, rfl, by decide +kernel, rfl, by decide +kernel, by decide +kernel⟩
abbrev s__law_bare : Stmt := top 33
abbrev n__law_bare : List Str := ["entry"]
abbrev p__law_bare : List Str := ["entry"]
theorem sc__law_bare : FnScope n__law_bare p__law_bare (defScope s__law_bare) := ⟨rfl, rfl, rfl, by decide +kernel, rfl, by decide +kernel, by decide +kernel⟩
abbrev s__law_order : Stmt := top 34
abbrev n__law_order : List Str := ["box", "many", "tall", "way", "ranks", "k", "rank"]
abbrev p__law_order : List Str := ["box", "many", "tall", "way"]
theorem sc__law_order : FnScope n__law_order p__law_order (defScope s__law_order) := ⟨rfl, rfl, rfl, by decide +kernel, rfl, by decide +kernel, by decide +kernel⟩
abbrev s__law_built : Stmt := top 35
abbrev n__law_built : List Str := ["box", "bank", "nodes", "order", "step", "table", "made", "k", "value", "way", "at", "entry"]
abbrev p__law_built : List Str := ["box", "bank", "nodes", "order", "step"]
theorem sc__law_built : FnScope n__law_built p__law_built (defScope s__law_built) := ⟨rfl, rfl, rfl, by decide +kernel, rfl, by decide +kernel, by decide +kernel⟩
abbrev s__law_asked : Stmt := top 36
abbrev n__law_asked : List Str := ["bank", "nodes", "table", "entries", "found", "due", "handed", "kept", "row", "k"]
abbrev p__law_asked : List Str := ["bank", "nodes", "table", "entries"]
theorem sc__law_asked : FnScope n__law_asked p__law_asked (defScope s__law_asked) := ⟨rfl, rfl, rfl, by decide +kernel, rfl, by decide +kernel, by decide +kernel⟩
abbrev s__law_all : Stmt := top 37
abbrev n__law_all : List Str := ["banks", "tables", "nodes", "entries", "singles", "side", "k"]
abbrev p__law_all : List Str := ["banks", "tables", "nodes", "entries", "singles"]
theorem sc__law_all : FnScope n__law_all p__law_all (defScope s__law_all) := ⟨rfl, rfl, rfl, by decide +kernel, rfl, by decide +kernel, by decide +kernel⟩
abbrev s__law_set : Stmt := top 38
abbrev n__law_set : List Str := ["box", "banks", "tables", "nodes", "pool", "errors", "holders", "node", "places", "at", "entry", "row", "side", "table", "k"]
abbrev p__law_set : List Str := ["box", "banks", "tables", "nodes", "pool", "errors"]
theorem sc__law_set : FnScope n__law_set p__law_set (defScope s__law_set) := ⟨rfl, rfl, rfl, by decide +kernel, rfl, by decide +kernel, by decide +kernel⟩
abbrev s_law : Stmt := top 39
abbrev n_law : List Str := ["script", "head", "many", "turns", "tall", "nodes", "pool", "errors", "entries", "banks", "steps", "tables", "side", "box", "table", "singles", "turn", "k"]
abbrev p_law : List Str := ["script"]
theorem sc_law : FnScope n_law p_law (defScope s_law) := ⟨rfl, rfl, rfl, by decide +kernel, rfl, by decide +kernel, by decide +kernel⟩
end D0
namespace D0
open PySem PySem.Spec PyProof.Rows L2 SX
theorem _root_.L2.Fun.lk {K : PySem.W.Frag} {x q : Str} {st : Stmt} {f : Addr} {fd : FuncData} (F : Fun K x q st f fd) : ∃ oc od osl, K.lookup f = some ⟨oc, od, .func fd, osl⟩ := by
  obtain ⟨oc, od, kV, doc, pm, an, cdv, ct, osl, e, lk, _⟩ := F.ex
  exact ⟨oc, od, osl, lk⟩
/-- the def named x keeps the promise sp -/
def OkD (P : Program) (w : World) (K : PySem.W.Frag) (mg : Str → Option Value) (base : Heap) (CX : CXT) (k : Nat) (x : Str) (ps : List Str) (sp : Sp) : Prop :=
  ∃ f fd, mg x = some (.ref f) ∧ PySem.W.keepIn K (.ref f) = true ∧ Binds K fd ps [] ∧ (∃ oc od osl, K.lookup f = some ⟨oc, od, .func fd, osl⟩) ∧ FnOk P w K mg base CX k f fd ps sp
theorem OkD.mono {P w K mg base CX j k x ps sp} (O : OkD P w K mg base CX j x ps sp) (h : j ≤ k) : OkD P w K mg base CX k x ps sp := by
  obtain ⟨f, fd, a, b, c, d, F⟩ := O
  exact ⟨f, fd, a, b, c, d, F.mono h⟩
/-- the def named x stands in the text as st -/
def Gv (K : PySem.W.Frag) (mg : Str → Option Value) (x : Str) (st : Stmt) (ps : List Str) : Prop :=
  ∃ f fd, Fun K x x st f fd ∧ mg x = some (.ref f) ∧ Binds K fd ps []
section
variable {X : Cx} {CX : CXT} {k j : Nat} {ps : List Str} {sp : Sp} {E : XK} {x : Str} {p pos : Pos} {e : Expr} {es : List Expr} {t : TA}
theorem pcallE (O : OkD X.prog X.w X.K X.mg X.base CX k x ps sp) (hr : Room j X.A) (hx : Passes CX X E) (ha : PA X (e :: es) t) (hj : k ≤ j := by first | decide | omega) (hg : Gl X x := by rfl)
    (hdb : (x == ("__debug__" : Str)) = false := by decide) (he : starEach (e :: es) X.env = (false, eval e X.env) :: starEach es X.env := by rfl) (hpl : (backTo pos (starEach es X.env)).any (·.1) = false := by rfl) :
    PE X (.Call (.Name x p) (e :: es) [] pos) (tCall sp [] E t) := by
  obtain ⟨f, fd, hm, hk, hb, _, F⟩ := O
  exact pe_call F (hr.mono hj) hg hm hk hb .nil hx ha hdb he hpl
theorem pcall (O : OkD X.prog X.w X.K X.mg X.base CX0 k x ps sp) (hr : Room j X.A) (ha : PA X (e :: es) t) (hj : k ≤ j := by first | decide | omega) (hg : Gl X x := by rfl)
    (hdb : (x == ("__debug__" : Str)) = false := by decide) (he : starEach (e :: es) X.env = (false, eval e X.env) :: starEach es X.env := by rfl) (hpl : (backTo pos (starEach es X.env)).any (·.1) = false := by rfl) :
    PE X (.Call (.Name x p) (e :: es) [] pos) (tCall sp [] E0 t) := pcallE O hr pass0 ha hj hg hdb he hpl
theorem pcall0 (O : OkD X.prog X.w X.K X.mg X.base CX0 k x ps sp) (hr : Room j X.A) (hj : k ≤ j := by first | decide | omega) (hg : Gl X x := by rfl)
    (hdb : (x == ("__debug__" : Str)) = false := by decide) :
    PE X (.Call (.Name x p) [] [] pos) (tCall sp [] E0 tNil) := by
  obtain ⟨f, fd, hm, hk, hb, _, F⟩ := O
  exact pe_call0 F (hr.mono hj) hg hm hk hb .nil pass0 hdb
end
section
variable {P : Program} {w : World} {K : PySem.W.Frag} {mg : Str → Option Value} {base : Heap}
theorem Gv.ok {x : Str} {st : Stmt} {N ps : List Str} {k : Nat} {sp : Sp} (G : Gv K mg x st ps) (S : FnScope N ps (defScope st)) (len : ∀ vs H Q E, sp vs H Q E → vs.length = ps.length)
    (hbody : ∀ (f : Addr) (cdv : Value) (A : Around) (outer : List Env) (s : Shared) (H : Hp) (vs : List V) (Q : VK) (E : XK), Room k (A.deeper (envOfC x (defScope st) s.heap.objs.size f cdv)) → sp vs H Q E →
      ∃ t, PSs (cxOf CX0 P w K mg base N x (defScope st) f cdv A outer s H E).nox (defBody st) t ∧ t { nx := fun _ H' => Q .non H', rt := Q } (start N vs) H) : OkD P w K mg base CX0 (k + 1) x ps sp := by
  obtain ⟨f, fd, F, hm, hb⟩ := G
  exact ⟨f, fd, hm, F.kp, hb, F.lk, F.ok S len (hbody f)⟩
theorem Gv.okX {x : Str} {st : Stmt} {N ps : List Str} {k : Nat} {sp : Sp} (G : Gv K mg x st ps) (S : FnScope N ps (defScope st)) (len : ∀ vs H Q E, sp vs H Q E → vs.length = ps.length)
    (hbody : ∀ (f : Addr) (cdv : Value) (A : Around) (outer : List Env) (s : Shared) (H : Hp) (vs : List V) (Q : VK) (E : XK), Room k (A.deeper (envOfC x (defScope st) s.heap.objs.size f cdv)) → sp vs H Q E →
      ∃ t, PSs (cxOf (L2.CX P w) P w K mg base N x (defScope st) f cdv A outer s H E) (defBody st) t ∧ t { nx := fun _ H' => Q .non H', rt := Q } (start N vs) H) : OkD P w K mg base (L2.CX P w) (k + 1) x ps sp := by
  obtain ⟨f, fd, F, hm, hb⟩ := G
  exact ⟨f, fd, hm, F.kp, hb, F.lk, F.okX S len (hbody f)⟩
end
theorem pe_gI {X : Cx} {x : Str} {n : Int} {pos : Pos} (h : ∃ t, X.mg x = some (.int n t)) (hg : Gl X x := by rfl) (hd : (x == ("__debug__" : Str)) = false := by decide) : PE X (.Name x pos) (tC (.int n)) := by
  obtain ⟨t, h⟩ := h
  exact pe_glob hg h (show RelV (.int n) _ from ⟨t, rfl⟩) hd
/-- is True, is False: of any value -/
theorem op_isTF {X : Cx} : OpR X (compareOp .Is) (fun x y H Q => ∃ b, y = .bl b ∧ Q (.bl (decide (x = .bl b))) H) := by
  intro pins s σ H x y v u Q I rx ry h
  obtain ⟨b, rfl, q⟩ := h
  cases (show u = Value.bool b from ry)
  by_cases e : x = .bl b
  · subst e
    cases (show v = Value.bool b from rx)
    exact wpAny_is_self rfl ⟨.bl true, H, I, rfl, by simpa using q⟩
  · have hp : plainIs v (Value.bool b) = true ∧ v ≠ Value.bool b := by
      cases x with
      | bl c => cases (show v = Value.bool c from rx); exact ⟨rfl, fun z => e (by cases z; rfl)⟩
      | non => cases (show v = Value.none from rx); exact ⟨rfl, fun z => nomatch z⟩
      | ref a => cases (show v = Value.ref a from rx); exact ⟨rfl, fun z => nomatch z⟩
      | ty n => cases (show v = Value.type n from rx); exact ⟨rfl, fun z => nomatch z⟩
      | int i => obtain ⟨t, rfl⟩ := rx; exact ⟨rfl, fun z => nomatch z⟩
      | str i => obtain ⟨t, rfl⟩ := rx; exact ⟨rfl, fun z => nomatch z⟩
      | byt i => obtain ⟨t, rfl⟩ := rx; exact ⟨rfl, fun z => nomatch z⟩
      | flt i => obtain ⟨t, rfl⟩ := rx; exact ⟨rfl, fun z => nomatch z⟩
    exact wpAny_is_other hp.1 hp.2 ⟨.bl false, H, I, rfl, by simpa [e] using q⟩
section
variable {P : Program} {w : World} {K : PySem.W.Frag} {mg : Str → Option Value} {base : Heap}
/-- the method m of the class C keeps the promise sp -/
def OkM (P : Program) (w : World) (K : PySem.W.Frag) (mg : Str → Option Value) (base : Heap) (C : Addr) (CX : CXT) (k : Nat) (m : Str) (ps : List Str) (sp : Sp) : Prop :=
  ∃ f fd, Meth K C m f ∧ Binds K fd ps [] ∧ FnOk P w K mg base CX k f fd ps sp
def Gvm (K : PySem.W.Frag) (C : Addr) (m q : Str) (st : Stmt) (ps : List Str) : Prop := ∃ f fd, Fun K m q st f fd ∧ Meth K C m f ∧ Binds K fd ps []
theorem OkM.mono {C : Addr} {CX j k x ps sp} (O : OkM P w K mg base C CX j x ps sp) (h : j ≤ k) : OkM P w K mg base C CX k x ps sp := by
  obtain ⟨f, fd, a, b, F⟩ := O
  exact ⟨f, fd, a, b, F.mono h⟩
theorem Gvm.ok {C : Addr} {x q : Str} {st : Stmt} {N ps : List Str} {k : Nat} {sp : Sp} (G : Gvm K C x q st ps) (S : FnScope N ps (defScope st)) (len : ∀ vs H Q E, sp vs H Q E → vs.length = ps.length)
    (hbody : ∀ (f : Addr) (cdv : Value) (A : Around) (outer : List Env) (s : Shared) (H : Hp) (vs : List V) (Q : VK) (E : XK), Room k (A.deeper (envOfC q (defScope st) s.heap.objs.size f cdv)) → sp vs H Q E →
      ∃ t, PSs (cxOf CX0 P w K mg base N q (defScope st) f cdv A outer s H E).nox (defBody st) t ∧ t { nx := fun _ H' => Q .non H', rt := Q } (start N vs) H) : OkM P w K mg base C CX0 (k + 1) x ps sp := by
  obtain ⟨f, fd, F, hm, hb⟩ := G
  exact ⟨f, fd, hm, hb, F.ok S len (hbody f)⟩
theorem Gvm.okX {C : Addr} {x q : Str} {st : Stmt} {N ps : List Str} {k : Nat} {sp : Sp} (G : Gvm K C x q st ps) (S : FnScope N ps (defScope st)) (len : ∀ vs H Q E, sp vs H Q E → vs.length = ps.length)
    (hbody : ∀ (f : Addr) (cdv : Value) (A : Around) (outer : List Env) (s : Shared) (H : Hp) (vs : List V) (Q : VK) (E : XK), Room k (A.deeper (envOfC q (defScope st) s.heap.objs.size f cdv)) → sp vs H Q E →
      ∃ t, PSs (cxOf (L2.CX P w) P w K mg base N q (defScope st) f cdv A outer s H E) (defBody st) t ∧ t { nx := fun _ H' => Q .non H', rt := Q } (start N vs) H) : OkM P w K mg base C (L2.CX P w) (k + 1) x ps sp := by
  obtain ⟨f, fd, F, hm, hb⟩ := G
  exact ⟨f, fd, hm, hb, F.okX S len (hbody f)⟩
end
section
variable {X : Cx} {CX : CXT} {k j : Nat} {ps : List Str} {sp : Sp} {E : XK} {x m : Str} {p pos apos : Pos} {o e : Expr} {es : List Expr} {ta : TE} {t : TA} {C : Addr} {pl : Sem Bool}
theorem pmethE (O : OkM X.prog X.w X.K X.mg X.base C CX k m ps sp) (cl : Cls X.K C) (hr : Room j X.A) (hx : Passes CX X E) (ho : PE X o ta) (ha : PA X (e :: es) t) (hj : k ≤ j := by first | decide | omega)
    (he : starEach (e :: es) X.env = (false, eval e X.env) :: starEach es X.env := by rfl) (hpl : (backTo pos (starEach es X.env)).any (·.1) = false := by rfl)
    (hm : eval (.Call (.Attribute o m apos) (e :: es) [] pos) X.env = (do
      let ov ← eval o X.env
      standAt apos.atName
      let (f, first) ← holding [ov] (getMethod ov m pl)
      callWith pos f first (backTo pos (starEach (e :: es) X.env)) (backToKw pos (keywordEach [] X.env))) := by rfl) :
    PE X (.Call (.Attribute o m apos) (e :: es) [] pos) (tMeth C m sp [] E ta t) := by
  obtain ⟨f, fd, hm', hb, F⟩ := O
  exact pe_meth ho cl hm' F (hr.mono hj) hb .nil hx ha he hpl hm
theorem pmeth0 (O : OkM X.prog X.w X.K X.mg X.base C CX k m ps sp) (cl : Cls X.K C) (hr : Room j X.A) (hx : Passes CX X E) (ho : PE X o ta) (hj : k ≤ j := by first | decide | omega)
    (hm : eval (.Call (.Attribute o m apos) [] [] pos) X.env = (do
      let ov ← eval o X.env
      standAt apos.atName
      let (f, first) ← holding [ov] (getMethod ov m pl)
      callWith pos f first (backTo pos (starEach [] X.env)) (backToKw pos (keywordEach [] X.env))) := by rfl) :
    PE X (.Call (.Attribute o m apos) [] [] pos) (tMeth C m sp [] E ta tNil) := by
  obtain ⟨f, fd, hm', hb, F⟩ := O
  exact pe_meth0 ho cl hm' F (hr.mono hj) hb .nil hx hm
end
end D0
namespace D0
open PySem PySem.Spec PyProof.Rows L2 SX
/-- THE TEXT -/
structure Txt (K : PySem.W.Frag) (w : World) (mg : Str → Option Value) : Prop where
  z_bool : mg "bool" = none
  z_enumerate : mg "enumerate" = none
  z_int : mg "int" = none
  z_isinstance : mg "isinstance" = none
  z_len : mg "len" = none
  z_list : mg "list" = none
  z_min : mg "min" = none
  z_property : mg "property" = none
  z_range : mg "range" = none
  z_sorted : mg "sorted" = none
  z_str : mg "str" = none
  z_sum : mg "sum" = none
  z_tuple : mg "tuple" = none
  g__wall : Gv K mg "_wall" s__wall p__wall
  g_address_of : Gv K mg "address_of" s_address_of p_address_of
  g_moved : Gv K mg "moved" s_moved p_moved
  g_is_young : Gv K mg "is_young" s_is_young p_is_young
  g_refers_to_young : Gv K mg "refers_to_young" s_refers_to_young p_refers_to_young
  g__law_cell : Gv K mg "_law_cell" s__law_cell p__law_cell
  g__law_box : Gv K mg "_law_box" s__law_box p__law_box
  g__law_take : Gv K mg "_law_take" s__law_take p__law_take
  g__law_same : Gv K mg "_law_same" s__law_same p__law_same
  g__law_word : Gv K mg "_law_word" s__law_word p__law_word
  g__law_name : Gv K mg "_law_name" s__law_name p__law_name
  g__law_plain : Gv K mg "_law_plain" s__law_plain p__law_plain
  g__law_pending : Gv K mg "_law_pending" s__law_pending p__law_pending
  g__law_marked : Gv K mg "_law_marked" s__law_marked p__law_marked
  g__law_entry : Gv K mg "_law_entry" s__law_entry p__law_entry
  g__law_kinds : Gv K mg "_law_kinds" s__law_kinds p__law_kinds
  g__law_kind : Gv K mg "_law_kind" s__law_kind p__law_kind
  g__law_marks : Gv K mg "_law_marks" s__law_marks p__law_marks
  g__law_tag : Gv K mg "_law_tag" s__law_tag p__law_tag
  g__law_form : Gv K mg "_law_form" s__law_form p__law_form
  g__law_free : Gv K mg "_law_free" s__law_free p__law_free
  g__law_target : Gv K mg "_law_target" s__law_target p__law_target
  g__law_moved : Gv K mg "_law_moved" s__law_moved p__law_moved
  g__law_sent : Gv K mg "_law_sent" s__law_sent p__law_sent
  g__law_walk : Gv K mg "_law_walk" s__law_walk p__law_walk
  g__law_graph : Gv K mg "_law_graph" s__law_graph p__law_graph
  g__law_nodes : Gv K mg "_law_nodes" s__law_nodes p__law_nodes
  g__law_bare : Gv K mg "_law_bare" s__law_bare p__law_bare
  g__law_order : Gv K mg "_law_order" s__law_order p__law_order
  g__law_built : Gv K mg "_law_built" s__law_built p__law_built
  g__law_asked : Gv K mg "_law_asked" s__law_asked p__law_asked
  g__law_all : Gv K mg "_law_all" s__law_all p__law_all
  g__law_set : Gv K mg "_law_set" s__law_set p__law_set
  g_law : Gv K mg "law" s_law p_law
structure ThT (K : PySem.W.Frag) (mg : Str → Option Value) (C : Addr) : Prop where
  cl : Cls K C
  gl : mg "Thing" = some (.ref C)
  n_kind : NoAttr K C "kind"
  n_tag : NoAttr K C "tag"
  n_slots : NoAttr K C "slots"
  n_age : NoAttr K C "age"
  ini : ∃ fI fd, Mk K C fI ∧ Binds K fd p_Thing___init__ [] ∧ Fun K "__init__" "Thing.__init__" s_Thing___init__ fI fd
/-- a bank's class: what Store and Heap share -/
structure BkT (K : PySem.W.Frag) (C : Addr) : Prop where
  cl : Cls K C
  n_things : NoAttr K C "things"
  g_reach : Gvm K C "reach" "Store.reach" s_Store_reach p_Store_reach
  g_meet_all : Gvm K C "meet_all" "Store.meet_all" s_Store_meet_all p_Store_meet_all
  g_graph : Gvm K C "graph" "Store.graph" s_Store_graph p_Store_graph
structure StT (K : PySem.W.Frag) (mg : Str → Option Value) (C : Addr) : Prop where
  bk : BkT K C
  gl : mg "Store" = some (.ref C)
  ini : ∃ fI fd, Mk K C fI ∧ Binds K fd p_Store___init__ [] ∧ Fun K "__init__" "Store.__init__" s_Store___init__ fI fd
  g_make : Gvm K C "make" "Store.make" s_Store_make p_Store_make
  g_set_slot : Gvm K C "set_slot" "Store.set_slot" s_Store_set_slot p_Store_set_slot
  g_change : Gvm K C "change" "Store.change" s_Store_change p_Store_change
structure HeT (K : PySem.W.Frag) (mg : Str → Option Value) (C : Addr) : Prop where
  bk : BkT K C
  gl : mg "Heap" = some (.ref C)
  n_young_many : NoAttr K C "young_many"
  n_old_many : NoAttr K C "old_many"
  n_marked : NoAttr K C "marked"
  ini : ∃ fI fd, Mk K C fI ∧ Binds K fd p_Heap___init__ [] ∧ Fun K "__init__" "Heap.__init__" s_Heap___init__ fI fd
  g_make : Gvm K C "make" "Heap.make" s_Heap_make p_Heap_make
  g_set_slot : Gvm K C "set_slot" "Heap.set_slot" s_Heap_set_slot p_Heap_set_slot
  g_change : Gvm K C "change" "Heap.change" s_Heap_change p_Heap_change
  g_remember : Gvm K C "remember" "Heap.remember" s_Heap_remember p_Heap_remember
end D0
namespace D0
open PySem PySem.Spec PyProof.Rows L2 SX
theorem same_new {H : Hp} {p : Addr} (h : H p = none) (o : HO) : Same H (upd H p o) := fun b u q => by rw [upd_ne (ne_of_none q h)]; exact q
theorem split_at {X : Cx} {body : List Stmt} (n : Nat) {F : TS → Prop} (G : TS → Prop) (h1 : ∃ t, PSs X (body.drop n) t ∧ G t) (h2 : ∀ t, PSs X (body.drop n) t → G t → ∃ u, PSs X body u ∧ F u) : ∃ u, PSs X body u ∧ F u := by
  obtain ⟨t, a, b⟩ := h1
  exact h2 t a b
theorem str_dec (a b : List Nat) : decide (V.str (S a) = V.str (S b)) = decide (a = b) := by
  by_cases h : a = b
  · subst h; rw [decide_eq_true rfl, decide_eq_true rfl]
  · rw [decide_eq_false h, decide_eq_false]
    intro z; exact h (S_inj (V.str.inj z))
theorem int_dec {a b : Nat} : decide (V.int (a : Int) = V.int (b : Int)) = decide (a = b) := by
  by_cases h : a = b
  · subst h; rw [decide_eq_true rfl, decide_eq_true rfl]
  · rw [decide_eq_false h, decide_eq_false (fun z => h (by have := V.int.inj z; omega))]
theorem lt_dec {a b : Nat} : decide ((a : Int) < (b : Int)) = decide (a < b) := by
  by_cases h : a < b
  · rw [decide_eq_true h, decide_eq_true (by omega)]
  · rw [decide_eq_false h, decide_eq_false (by omega)]
/-- frozen data -/
inductive D where
  | non | bl (b : Bool) | int (i : Int) | str (l : List Nat) | tup (l : List D)
mutual
def dep : D → Nat
  | .tup l => 1 + deps l
  | _ => 0
def deps : List D → Nat
  | [] => 0
  | d :: r => max (dep d) (deps r)
end
theorem dep_tup (l : List D) : dep (.tup l) = 1 + deps l := by unfold dep; rfl
theorem deps_mem : ∀ {l : List D} {n : Nat}, deps l ≤ n → ∀ d ∈ l, dep d ≤ n
  | d :: r, n, h, e, hm => by
    unfold deps at h
    rcases List.mem_cons.mp hm with rfl | hm
    · omega
    · exact deps_mem (by omega) e hm
theorem deps_of : ∀ {l : List D} {n : Nat}, (∀ d ∈ l, dep d ≤ n) → deps l ≤ n
  | [], _, _ => by unfold deps; omega
  | d :: r, n, h => by
    unfold deps
    have h1 := h d (List.mem_cons_self ..)
    have h2 := deps_of (n := n) fun e he => h e (List.mem_cons_of_mem _ he)
    omega
/-- the tuples of H stand in H' -/
def Tups (H H' : Hp) : Prop := ∀ a vs, H a = some (.tup vs) → H' a = some (.tup vs)
theorem Tups.refl {H : Hp} : Tups H H := fun _ _ h => h
theorem Tups.trans {H H1 H2 : Hp} (x : Tups H H1) (y : Tups H1 H2) : Tups H H2 := fun a vs h => y a vs (x a vs h)
theorem Tups.same {H H' : Hp} (s : Same H H') : Tups H H' := fun a vs h => s a _ h
theorem Tups.new {H : Hp} {p : Addr} {o : HO} (h : H p = none) : Tups H (upd H p o) := fun a vs e => by rw [upd_ne (ne_of_none e h)]; exact e
theorem Tups.at {H : Hp} {p : Addr} {o o' : HO} (h : H p = some o) (n : ∀ vs, o ≠ .tup vs) : Tups H (upd H p o') := fun a vs e => by
  rw [upd_ne (fun z => by rw [z, h] at e; exact n vs (Option.some.inj e))]; exact e
mutual
/-- the value v is the datum d -/
inductive Rep (H : Hp) : V → D → Prop
  | non : Rep H .non .non
  | bl (b : Bool) : Rep H (.bl b) (.bl b)
  | int (i : Int) : Rep H (.int i) (.int i)
  | str (l : List Nat) : Rep H (.str (S l)) (.str l)
  | tup {a : Addr} {vs : List V} {ds : List D} (h : H a = some (.tup vs)) (hl : vs.length ≤ 2000) (r : Reps H vs ds) : Rep H (.ref a) (.tup ds)
inductive Reps (H : Hp) : List V → List D → Prop
  | nil : Reps H [] []
  | cons {v : V} {d : D} {vs : List V} {ds : List D} (h : Rep H v d) (r : Reps H vs ds) : Reps H (v :: vs) (d :: ds)
end
mutual
theorem Rep.mono {H H' : Hp} {v : V} {d : D} (s : Tups H H') : Rep H v d → Rep H' v d
  | .non => .non
  | .bl b => .bl b
  | .int i => .int i
  | .str l => .str l
  | .tup h hl r => .tup (s _ _ h) hl (Reps.mono s r)
theorem Reps.mono {H H' : Hp} {vs : List V} {ds : List D} (s : Tups H H') : Reps H vs ds → Reps H' vs ds
  | .nil => .nil
  | .cons h r => .cons (Rep.mono s h) (Reps.mono s r)
end
theorem Reps.len {H : Hp} : ∀ {vs : List V} {ds : List D}, Reps H vs ds → vs.length = ds.length
  | _, _, .nil => rfl
  | _, _, .cons _ r => congrArg Nat.succ r.len
theorem Reps.get {H : Hp} : ∀ {vs : List V} {ds : List D} {i : Nat} {v : V}, Reps H vs ds → vs[i]? = some v → ∃ d, ds[i]? = some d ∧ Rep H v d
  | _, _, _, _, .nil, h => by simp at h
  | _, _, 0, v, .cons (d := d) h r, e => by simp at e; subst e; exact ⟨d, rfl, h⟩
  | _, _, i + 1, v, .cons h r, e => by obtain ⟨d, e1, e2⟩ := Reps.get (i := i) r (by simpa using e); exact ⟨d, by simpa using e1, e2⟩
theorem Reps.at {H : Hp} : ∀ {vs : List V} {ds : List D} {i : Nat} {d : D}, Reps H vs ds → ds[i]? = some d → ∃ v, vs[i]? = some v ∧ Rep H v d
  | _, _, _, _, .nil, h => by simp at h
  | _, _, 0, d, .cons (v := v) h r, e => by simp at e; subst e; exact ⟨v, rfl, h⟩
  | _, _, i + 1, d, .cons h r, e => by obtain ⟨v, e1, e2⟩ := Reps.at (i := i) r (by simpa using e); exact ⟨v, by simpa using e1, e2⟩
theorem Reps.app {H : Hp} : ∀ {vs ws : List V} {ds es : List D}, Reps H vs ds → Reps H ws es → Reps H (vs ++ ws) (ds ++ es)
  | _, _, _, _, .nil, s => s
  | _, _, _, _, .cons h r, s => .cons h (r.app s)
theorem Reps.one {H : Hp} {v : V} {d : D} (h : Rep H v d) : Reps H [v] [d] := .cons h .nil
theorem Reps.set {H : Hp} : ∀ {vs : List V} {ds : List D} {i : Nat} {v : V} {d : D}, Reps H vs ds → Rep H v d → Reps H (vs.set i v) (ds.set i d)
  | _, _, _, _, _, .nil, _ => .nil
  | _, _, 0, _, _, .cons h r, e => .cons e r
  | _, _, i + 1, _, _, .cons h r, e => .cons h (Reps.set (i := i) r e)
def tyD : D → String
  | .non => "NoneType" | .bl _ => "bool" | .int _ => "int" | .str _ => "str" | .tup _ => "tuple"
theorem Rep.ty {K : PySem.W.Frag} {H : Hp} {v : V} {d : D} (r : Rep H v d) : TyX K H v (.type (tyD d)) := by
  cases r with
  | non => exact .base .non
  | bl b => exact .base (.bl b)
  | int i => exact .base (.int i)
  | str l => exact .base (.str _)
  | tup h hl r => exact .base (.tup h)
def isInt : D → Bool | .int _ => true | .bl _ => true | _ => false
def isStr : D → Bool | .str _ => true | _ => false
def isBl : D → Bool | .bl _ => true | _ => false
def isTup : D → Bool | .tup _ => true | _ => false
theorem kit_i : ∀ d : D, kitB (tyD d) "int" = some (isInt d)
  | .non => (by decide +kernel : kitB "NoneType" "int" = some false)
  | .bl _ => (by decide +kernel : kitB "bool" "int" = some true)
  | .int _ => (by decide +kernel : kitB "int" "int" = some true)
  | .str _ => (by decide +kernel : kitB "str" "int" = some false)
  | .tup _ => (by decide +kernel : kitB "tuple" "int" = some false)
theorem kit_s : ∀ d : D, kitB (tyD d) "str" = some (isStr d)
  | .non => (by decide +kernel : kitB "NoneType" "str" = some false)
  | .bl _ => (by decide +kernel : kitB "bool" "str" = some false)
  | .int _ => (by decide +kernel : kitB "int" "str" = some false)
  | .str _ => (by decide +kernel : kitB "str" "str" = some true)
  | .tup _ => (by decide +kernel : kitB "tuple" "str" = some false)
theorem kit_b : ∀ d : D, kitB (tyD d) "bool" = some (isBl d)
  | .non => (by decide +kernel : kitB "NoneType" "bool" = some false)
  | .bl _ => (by decide +kernel : kitB "bool" "bool" = some true)
  | .int _ => (by decide +kernel : kitB "int" "bool" = some false)
  | .str _ => (by decide +kernel : kitB "str" "bool" = some false)
  | .tup _ => (by decide +kernel : kitB "tuple" "bool" = some false)
theorem kit_t : ∀ d : D, kitB (tyD d) "tuple" = some (isTup d)
  | .non => (by decide +kernel : kitB "NoneType" "tuple" = some false)
  | .bl _ => (by decide +kernel : kitB "bool" "tuple" = some false)
  | .int _ => (by decide +kernel : kitB "int" "tuple" = some false)
  | .str _ => (by decide +kernel : kitB "str" "tuple" = some false)
  | .tup _ => (by decide +kernel : kitB "tuple" "tuple" = some true)
theorem kit_l : ∀ d : D, kitB (tyD d) "list" = some false
  | .non => (by decide +kernel : kitB "NoneType" "list" = some false)
  | .bl _ => (by decide +kernel : kitB "bool" "list" = some false)
  | .int _ => (by decide +kernel : kitB "int" "list" = some false)
  | .str _ => (by decide +kernel : kitB "str" "list" = some false)
  | .tup _ => (by decide +kernel : kitB "tuple" "list" = some false)
end D0
namespace D0
open PySem PySem.Spec PyProof.Rows L2 SX
/-! ### entries -/
def wRef : List Nat := [114, 101, 102]
def wHandled : List Nat := [104, 97, 110, 100, 108, 101, 100]
def wPending : List Nat := [112, 101, 110, 100, 105, 110, 103]
inductive En | ref (k : Nat) | hand (k : Nat) | oth (l : List Nat) (ds : List D)
inductive Ent | pl (e : En) | pend (r : Int) (e : En)
def En.d (f : Nat → Int) : En → D
  | .ref k => .tup [.str wRef, .int (f k)]
  | .hand k => .tup [.str wHandled, .int (f k)]
  | .oth l ds => .tup (.str l :: ds)
def Ent.d (f : Nat → Int) : Ent → D
  | .pl e => e.d f
  | .pend r e => .tup [.str wPending, .int r, e.d f]
def En.ok (m : Nat) : En → Prop
  | .ref k => k < m
  | .hand k => k < m
  | .oth l ds => l ≠ wRef ∧ l ≠ wHandled ∧ l ≠ wPending ∧ deps ds = 0
def Ent.ok (m : Nat) : Ent → Prop
  | .pl e => e.ok m
  | .pend _ e => e.ok m
theorem En.ok.mono {m n : Nat} (h : m ≤ n) : ∀ {e : En}, e.ok m → e.ok n
  | .ref _, x => Nat.lt_of_lt_of_le x h
  | .hand _, x => Nat.lt_of_lt_of_le x h
  | .oth _ _, x => x
theorem Ent.ok.mono {m n : Nat} (h : m ≤ n) : ∀ {e : Ent}, e.ok m → e.ok n
  | .pl _, x => En.ok.mono h x
  | .pend _ _, x => En.ok.mono h x
theorem En.dep {m : Nat} {f : Nat → Int} : ∀ {e : En}, e.ok m → D0.dep (e.d f) ≤ 1
  | .ref _, _ => by show D0.dep (.tup _) ≤ 1; rw [dep_tup]; simp [deps, D0.dep]
  | .hand _, _ => by show D0.dep (.tup _) ≤ 1; rw [dep_tup]; simp [deps, D0.dep]
  | .oth _ ds, ⟨_, _, _, h⟩ => by show D0.dep (.tup _) ≤ 1; rw [dep_tup]; simp [deps, D0.dep, h]
theorem Ent.dep {m : Nat} {f : Nat → Int} : ∀ {e : Ent}, e.ok m → D0.dep (e.d f) ≤ 2
  | .pl _, h => Nat.le_succ_of_le (En.dep h)
  | .pend _ e, h => by
    have := En.dep (f := f) (show e.ok m from h)
    show D0.dep (.tup _) ≤ 2; rw [dep_tup]; simp [deps, D0.dep]; omega
def rowD (f : Nat → Int) (es : List Ent) : List D := es.map (Ent.d f)
theorem rowD_dep {m : Nat} {f : Nat → Int} {es : List Ent} (h : ∀ e ∈ es, e.ok m) : deps (rowD f es) ≤ 2 := deps_of fun d hd => by
  obtain ⟨e, he, rfl⟩ := List.mem_map.mp hd
  exact Ent.dep (h e he)
/-- the addresses of a bank whose step is s -/
def tb (s k : Nat) : Int := ((s * k + s - 1 : Nat) : Int)
def ixD (k : Nat) : Int := (k : Nat)
structure Nd where
  kind : List Nat
  tag : D
  row : List Ent
structure Nd.ok (m : Nat) (n : Nd) : Prop where
  tag : D0.dep n.tag ≤ 3
  row : ∀ e ∈ n.row, e.ok m
  len : n.row.length ≤ 100
theorem Nd.ok.mono {m n : Nat} {x : Nd} (h : m ≤ n) (o : x.ok m) : x.ok n := ⟨o.tag, fun e he => (o.row e he).mono h, o.len⟩
/-! ### a bank, a book -/
/-- all but the addresses of F stays; tuples stay -/
structure Chg (F : List Addr) (H H' : Hp) : Prop where
  keep : ∀ a o, a ∉ F → H a = some o → H' a = some o
  tups : Tups H H'
  live : ∀ a, H' a = none → H a = none
theorem live_same {H H' : Hp} (s : Same H H') : ∀ a, H' a = none → H a = none := fun a h => by
  cases e : H a with
  | none => rfl
  | some o => rw [s a o e] at h; cases h
theorem live_upd {H : Hp} {p : Addr} {o : HO} : ∀ a, L2.upd H p o a = none → H a = none := fun a h => by
  by_cases e : a = p
  · rw [e, upd_same] at h; cases h
  · rw [upd_ne e] at h; exact h
theorem Chg.refl {F : List Addr} {H : Hp} : Chg F H H := ⟨fun _ _ _ h => h, .refl, fun _ h => h⟩
theorem Chg.trans {F : List Addr} {H H1 H2 : Hp} (x : Chg F H H1) (y : Chg F H1 H2) : Chg F H H2 := ⟨fun a o n h => y.keep a o n (x.keep a o n h), x.tups.trans y.tups, fun a h => x.live a (y.live a h)⟩
theorem Chg.mono {F G : List Addr} {H H' : Hp} (x : Chg F H H') (s : ∀ a ∈ F, a ∈ G) : Chg G H H' := ⟨fun a o n h => x.keep a o (fun m => n (s a m)) h, x.tups, x.live⟩
theorem Chg.same {F : List Addr} {H H' : Hp} (s : Same H H') : Chg F H H' := ⟨fun a o _ h => s a o h, .same s, live_same s⟩
theorem Chg.upd {F : List Addr} {H : Hp} {p : Addr} {o o' : HO} (h : H p = some o) (n : ∀ vs, o ≠ .tup vs) (m : p ∈ F) : Chg F H (L2.upd H p o') :=
  ⟨fun a u k e => by rw [upd_ne (fun z => k (by rw [z]; exact m))]; exact e, .at h n, live_upd⟩
theorem Chg.new {F : List Addr} {H : Hp} {p : Addr} {o : HO} (h : H p = none) : Chg F H (L2.upd H p o) :=
  ⟨fun a u k e => by rw [upd_ne (ne_of_none e h)]; exact e, .new h, live_upd⟩
/-- what is changed is new or of F: seen from an earlier heap -/
theorem Chg.trans2 {F G : List Addr} {H H1 H2 : Hp} (x : Chg F H H1) (y : Chg G H1 H2) (g : ∀ a ∈ G, a ∈ F ∨ H a = none) : Chg F H H2 :=
  ⟨fun a o n h => y.keep a o (fun m => by rcases g a m with z | z; exact n z; rw [z] at h; cases h) (x.keep a o n h), x.tups.trans y.tups, fun a h => x.live a (y.live a h)⟩
def fThings : Str := "things"
def fKind : Str := "kind"
def fTag : Str := "tag"
def fSlots : Str := "slots"
def fAge : Str := "age"
def fYM : Str := "young_many"
def fOM : Str := "old_many"
def fMk : Str := "marked"
theorem tb_inj {st i j : Nat} (h : 1 ≤ st) (e : tb st i = tb st j) : i = j := by
  unfold tb at e
  rcases Nat.lt_trichotomy i j with l | l | l
  · have := Nat.mul_lt_mul_of_pos_left l (show 0 < st by omega); omega
  · exact l
  · have := Nat.mul_lt_mul_of_pos_left l (show 0 < st by omega); omega
/-- the lists of a book are different ones -/
structure NdB (nb : Addr) (as rs : List Addr) : Prop where
  n1 : nb ∉ as
  n2 : nb ∉ rs
  na : as.Nodup
  nr : rs.Nodup
  dj : ∀ a ∈ as, a ∉ rs
theorem nodup_snoc {l : List Addr} {x : Addr} (h : l.Nodup) (n : x ∉ l) : (l ++ [x]).Nodup :=
  List.nodup_append.mpr ⟨h, List.pairwise_singleton _ _, fun a ha b hb z => n (by rw [List.mem_singleton.mp hb] at z; rw [← z]; exact ha)⟩
theorem nodup_put {l : List Addr} {x : Addr} {k : Nat} (h : l.Nodup) (n : x ∉ l) : (l.set k x).Nodup := by
  refine List.pairwise_iff_getElem.mpr fun i j hi hj hij z => ?_
  have z' : (l.set k x)[i]? = (l.set k x)[j]? := by rw [List.getElem?_eq_getElem hi, List.getElem?_eq_getElem hj]; exact congrArg some z
  rw [List.length_set] at hi hj
  rw [List.getElem?_set, List.getElem?_set] at z'
  by_cases e1 : k = i
  · rw [if_pos e1, if_neg (show ¬ k = j by omega), if_pos (show k < l.length by omega)] at z'
    exact n (List.mem_of_getElem? z'.symm)
  · rw [if_neg e1] at z'
    by_cases e2 : k = j
    · rw [if_pos e2, if_pos (show k < l.length by omega)] at z'
      exact n (List.mem_of_getElem? z')
    · rw [if_neg e2] at z'
      have e3 : l[i] = l[j] := by
        rw [List.getElem?_eq_getElem hi, List.getElem?_eq_getElem hj] at z'
        exact Option.some.inj z'
      have := (List.getElem_inj h).mp e3
      omega
theorem NdB.more {nb a r : Addr} {as rs : List Addr} (N : NdB nb as rs) (h1 : a ∉ as) (h2 : a ∉ rs) (h3 : a ≠ nb) (h4 : r ∉ as) (h5 : r ∉ rs) (h6 : r ≠ nb) (h7 : a ≠ r) : NdB nb (as ++ [a]) (rs ++ [r]) := by
  refine ⟨fun m => ?_, fun m => ?_, nodup_snoc N.na h1, nodup_snoc N.nr h5, fun x hx m => ?_⟩
  · rcases List.mem_append.mp m with m | m
    · exact N.n1 m
    · exact h3 (List.mem_singleton.mp m).symm
  · rcases List.mem_append.mp m with m | m
    · exact N.n2 m
    · exact h6 (List.mem_singleton.mp m).symm
  · rcases List.mem_append.mp hx with hx | hx
    · rcases List.mem_append.mp m with m | m
      · exact N.dj x hx m
      · rw [List.mem_singleton.mp m] at hx; exact h4 hx
    · rw [List.mem_singleton.mp hx] at m
      rcases List.mem_append.mp m with m | m
      · exact h2 m
      · exact h7 (List.mem_singleton.mp m)
theorem NdB.put {nb a r : Addr} {as rs : List Addr} {k : Nat} (N : NdB nb as rs) (h1 : a ∉ as) (h2 : a ∉ rs) (h3 : a ≠ nb) (h4 : r ∉ as) (h5 : r ∉ rs) (h6 : r ≠ nb) (h7 : a ≠ r) : NdB nb (as.set k a) (rs.set k r) := by
  refine ⟨fun m => ?_, fun m => ?_, nodup_put N.na h1, nodup_put N.nr h5, fun x hx m => ?_⟩
  · rcases List.mem_or_eq_of_mem_set m with m | m
    · exact N.n1 m
    · exact h3 m.symm
  · rcases List.mem_or_eq_of_mem_set m with m | m
    · exact N.n2 m
    · exact h6 m.symm
  · rcases List.mem_or_eq_of_mem_set hx with hx | hx
    · rcases List.mem_or_eq_of_mem_set m with m | m
      · exact N.dj x hx m
      · rw [m] at hx; exact h4 hx
    · rw [hx] at m
      rcases List.mem_or_eq_of_mem_set m with m | m
      · exact h2 m
      · exact h7 m
/-- the book -/
structure BoA (H : Hp) (nb : Addr) (as rs : List Addr) (nds : List Nd) : Prop where
  la : as.length = nds.length
  lr : rs.length = nds.length
  h0 : H nb = some (.lst (as.map V.ref))
  hN : ∀ (k : Nat) (a r : Addr) (n : Nd), as[k]? = some a → rs[k]? = some r → nds[k]? = some n → ∃ tv, H a = some (.lst [.str (S n.kind), tv, .ref r]) ∧ Rep H tv n.tag
  hR : ∀ (k : Nat) (r : Addr) (n : Nd), rs[k]? = some r → nds[k]? = some n → ∃ vs, H r = some (.lst vs) ∧ Reps H vs (rowD ixD n.row)
  nd : NdB nb as rs
def FN (nb : Addr) (as rs : List Addr) : List Addr := nb :: (as ++ rs)
theorem ne_ob {H : Hp} {a b : Addr} {o u : HO} (h : H a = some o) (k : H b = some u) (n : o ≠ u) : a ≠ b := fun z => by rw [z, k] at h; exact n (Option.some.inj h).symm
theorem inj_nodup {l : List Addr} (h : l.Nodup) {i j : Nat} {a : Addr} (h1 : l[i]? = some a) (h2 : l[j]? = some a) : i = j := by
  obtain ⟨hi, e1⟩ := List.getElem?_eq_some_iff.mp h1
  obtain ⟨hj, e2⟩ := List.getElem?_eq_some_iff.mp h2
  exact (List.getElem_inj h).mp (e1.trans e2.symm)
end D0
namespace D0
open PySem PySem.Spec PyProof.Rows L2 SX
/-! ### a bank -/
structure Th where
  key : Int
  t : Addr
  s : Addr
  kind : List Nat
  tag : D
  row : List D
  age : Int
def thF (x : Th) (tv : V) : List (Str × V) := [(fKind, .str (S x.kind)), (fTag, tv), (fSlots, .ref x.s), (fAge, .int x.age)]
def Th.kv (x : Th) : Key × V := (.inl x.key, .ref x.t)
def kvL (L : List Th) : List (Key × V) := L.map Th.kv
theorem kvL_len (L : List Th) : (kvL L).length = L.length := by unfold kvL; rw [List.length_map]
theorem kvL_get : ∀ {L : List Th} {x : Th}, (L.map Th.key).Nodup → x ∈ L → valV (kvL L) (.inl x.key) = some (.ref x.t)
  | y :: r, x, hn, hm => by
    rw [List.map_cons, List.nodup_cons] at hn
    unfold kvL valV
    rw [List.map_cons]
    rcases List.mem_cons.mp hm with rfl | hm
    · rw [List.find?_cons_of_pos (by unfold Th.kv; simp)]; rfl
    · have ih := kvL_get hn.2 hm
      rw [List.find?_cons_of_neg]
      · exact ih
      · intro z
        have z2 : (Sum.inl y.key : Key) = .inl x.key := of_decide_eq_true z
        exact hn.1 (by rw [Sum.inl.inj z2]; exact List.mem_map_of_mem hm)
theorem kvL_none : ∀ {L : List Th} {i : Int}, i ∉ L.map Th.key → valV (kvL L) (.inl i) = none
  | [], _, _ => rfl
  | y :: r, i, h => by
    rw [List.map_cons, List.mem_cons, not_or] at h
    unfold kvL valV
    rw [List.map_cons, List.find?_cons_of_neg]
    · exact kvL_none h.2
    · intro z
      have z2 : (Sum.inl y.key : Key) = .inl i := of_decide_eq_true z
      exact h.1 (Sum.inl.inj z2).symm
theorem kvL_put {L : List Th} {x : Th} (h : x.key ∉ L.map Th.key) : putK (kvL L) (.inl x.key) (.ref x.t) = kvL (L ++ [x]) := by
  unfold putK
  rw [if_neg]
  · unfold kvL; rw [List.map_append]; rfl
  · intro z
    obtain ⟨kv, h1, h2⟩ := List.any_eq_true.mp z
    obtain ⟨y, hy, rfl⟩ := List.mem_map.mp h1
    have h2 : (Sum.inl y.key : Key) = .inl x.key := of_decide_eq_true h2
    exact h (by rw [← Sum.inl.inj h2]; exact List.mem_map_of_mem hy)
theorem key_inj : ∀ {L : List Th} {x y : Th}, (L.map Th.key).Nodup → x ∈ L → y ∈ L → x.key = y.key → x = y
  | z :: r, x, y, hn, hx, hy, e => by
    rw [List.map_cons, List.nodup_cons] at hn
    rcases List.mem_cons.mp hx with k1 | k1 <;> rcases List.mem_cons.mp hy with k2 | k2
    · rw [k1, k2]
    · exact absurd (List.mem_map_of_mem (f := Th.key) k2) (by rw [← e, k1]; exact hn.1)
    · exact absurd (List.mem_map_of_mem (f := Th.key) k1) (by rw [e, k2]; exact hn.1)
    · exact key_inj hn.2 k1 k2 e
/-- the thing of x's key is x -/
def putT (x : Th) (L : List Th) : List Th := L.map fun y => if y.key = x.key then x else y
theorem putT_len (x : Th) (L : List Th) : (putT x L).length = L.length := by unfold putT; rw [List.length_map]
theorem putT_keys (x : Th) (L : List Th) : (putT x L).map Th.key = L.map Th.key := by
  unfold putT
  rw [List.map_map]
  refine List.map_congr_left fun y _ => ?_
  show (if y.key = x.key then x else y).key = y.key
  split
  · rename_i h; exact h.symm
  · rfl
theorem mem_putT {x y : Th} {L : List Th} (h : y ∈ putT x L) : y = x ∨ (y ∈ L ∧ y.key ≠ x.key) := by
  obtain ⟨z, hz, e⟩ := List.mem_map.mp h
  by_cases k : z.key = x.key
  · rw [if_pos k] at e; exact .inl e.symm
  · rw [if_neg k] at e; subst e; exact .inr ⟨hz, k⟩
theorem putT_mem {x y : Th} {L : List Th} (h : y ∈ L) (n : y.key ≠ x.key) : y ∈ putT x L := List.mem_map.mpr ⟨y, h, by rw [if_neg n]⟩
theorem putT_self {x x0 : Th} {L : List Th} (h : x0 ∈ L) (e : x0.key = x.key) : x ∈ putT x L := List.mem_map.mpr ⟨x0, h, by rw [if_pos e]⟩
theorem putT_kv {x x0 : Th} {L : List Th} (hn : (L.map Th.key).Nodup) (h : x0 ∈ L) (e : x0.key = x.key) (et : x0.t = x.t) : kvL (putT x L) = kvL L := by
  unfold putT kvL
  rw [List.map_map]
  refine List.map_congr_left fun y hy => ?_
  show (if y.key = x.key then x else y).kv = y.kv
  split
  · rename_i k
    have := key_inj hn hy h (k.trans e.symm)
    subst this
    unfold Th.kv; rw [← e, ← et]
  · rfl
structure BkA (K : PySem.W.Frag) (C CT : Addr) (H : Hp) (B td : Addr) (more : List (Str × V)) (L : List Th) : Prop where
  hB : ∃ dx, H B = some (.ins C dx ((fThings, .ref td) :: more))
  hD : H td = some (.dK (kvL L))
  hT : ∀ x ∈ L, ∃ dx tv, H x.t = some (.ins CT dx (thF x tv)) ∧ Rep H tv x.tag
  hS : ∀ x ∈ L, ∃ vs, H x.s = some (.lst vs) ∧ Reps H vs x.row
  nk : (L.map Th.key).Nodup
  nt : ∀ x ∈ L, ∀ y ∈ L, x.t = y.t → x.key = y.key
  ns : ∀ x ∈ L, ∀ y ∈ L, x.s = y.s → x.key = y.key
def FB (B td : Addr) (L : List Th) : List Addr := B :: td :: (L.map Th.t ++ L.map Th.s)
theorem fb_t {B td : Addr} {L : List Th} {x : Th} (h : x ∈ L) : x.t ∈ FB B td L := by
  have := List.mem_map_of_mem (f := Th.t) h
  unfold FB; simp [this]
theorem fb_s {B td : Addr} {L : List Th} {x : Th} (h : x ∈ L) : x.s ∈ FB B td L := by
  have := List.mem_map_of_mem (f := Th.s) h
  unfold FB; simp [this]
theorem fb_cases {B td a : Addr} {L : List Th} (h : a ∈ FB B td L) : a = B ∨ a = td ∨ (∃ x ∈ L, a = x.t) ∨ ∃ x ∈ L, a = x.s := by
  unfold FB at h
  simp only [List.mem_cons, List.mem_append, List.mem_map] at h
  rcases h with h | h | ⟨x, hx, h⟩ | ⟨x, hx, h⟩
  · exact .inl h
  · exact .inr (.inl h)
  · exact .inr (.inr (.inl ⟨x, hx, h.symm⟩))
  · exact .inr (.inr (.inr ⟨x, hx, h.symm⟩))
theorem ne_TK : fThings ≠ fKind := by decide
section
variable {K : PySem.W.Frag} {C CT : Addr} {H H' : Hp} {B td : Addr} {more : List (Str × V)} {L : List Th}
theorem BkA.frame (X : BkA K C CT H B td more L) {F : List Addr} (c : Chg F H H') (d : ∀ a ∈ FB B td L, a ∉ F) : BkA K C CT H' B td more L := by
  refine ⟨?_, c.keep _ _ (d _ (by simp [FB])) X.hD, fun x hx => ?_, fun x hx => ?_, X.nk, X.nt, X.ns⟩
  · obtain ⟨dx, h⟩ := X.hB
    exact ⟨dx, c.keep _ _ (d _ (by simp [FB])) h⟩
  · obtain ⟨dx, tv, h, r⟩ := X.hT x hx
    exact ⟨dx, tv, c.keep _ _ (d _ (fb_t hx)) h, r.mono c.tups⟩
  · obtain ⟨vs, h, r⟩ := X.hS x hx
    exact ⟨vs, c.keep _ _ (d _ (fb_s hx)) h, r.mono c.tups⟩
theorem BkA.same (X : BkA K C CT H B td more L) (s : Same H H') : BkA K C CT H' B td more L := X.frame (F := []) (.same s) (fun _ _ h => by cases h)
theorem BkA.here (X : BkA K C CT H B td more L) : ∀ a ∈ FB B td L, H a ≠ none := by
  intro a h
  rcases fb_cases h with rfl | rfl | ⟨x, hx, rfl⟩ | ⟨x, hx, rfl⟩
  · obtain ⟨dx, h⟩ := X.hB; rw [h]; exact fun z => nomatch z
  · rw [X.hD]; exact fun z => nomatch z
  · obtain ⟨dx, tv, g, _⟩ := X.hT x hx; rw [g]; exact fun z => nomatch z
  · obtain ⟨vs, g, _⟩ := X.hS x hx; rw [g]; exact fun z => nomatch z
theorem ins_ne {fs more : List (Str × V)} {C CT dx dx2 : Addr} {tv : V} {x : Th} : HO.ins C dx ((fThings, .ref td) :: more) ≠ .ins CT dx2 (thF x tv) := fun z => by
  injection z with _ _ z
  have : fThings = fKind := by
    unfold thF at z
    simp only [List.cons.injEq, Prod.mk.injEq] at z
    exact z.1.1
  exact ne_TK this
/-- the row of x is another -/
theorem BkA.setRow (X : BkA K C CT H B td more L) {x : Th} {vs : List V} {row : List D} (hx : x ∈ L) (hr : Reps H vs row) :
    BkA K C CT (upd H x.s (.lst vs)) B td more (putT { x with row := row } L) ∧ Chg [x.s] H (upd H x.s (.lst vs)) := by
  obtain ⟨vs0, h0, _⟩ := X.hS x hx
  have c : Chg [x.s] H (upd H x.s (.lst vs)) := .upd h0 (fun _ z => by cases z) (List.mem_singleton_self _)
  have nl : ∀ {a : Addr} {o : HO}, H a = some o → (∀ ws, o ≠ .lst ws) → upd H x.s (.lst vs) a = some o := fun h n => by rw [upd_ne (fun z => by rw [z, h0] at h; exact n _ (Option.some.inj h).symm)]; exact h
  have old : ∀ y ∈ putT { x with row := row } L, ∃ z ∈ L, z.key = y.key ∧ z.t = y.t ∧ z.s = y.s := fun y hy => by
    rcases mem_putT hy with rfl | ⟨h, _⟩
    · exact ⟨x, hx, rfl, rfl, rfl⟩
    · exact ⟨y, h, rfl, rfl, rfl⟩
  refine ⟨⟨?_, ?_, fun y hy => ?_, fun y hy => ?_, by rw [putT_keys]; exact X.nk, fun y hy z hz e => ?_, fun y hy z hz e => ?_⟩, c⟩
  · obtain ⟨dx, h⟩ := X.hB
    exact ⟨dx, nl h (fun _ z => by cases z)⟩
  · rw [putT_kv (x := { x with row := row }) X.nk hx rfl rfl]; exact nl X.hD (fun _ z => by cases z)
  · rcases mem_putT hy with rfl | ⟨h, _⟩
    · obtain ⟨dx, tv, h, r⟩ := X.hT x hx
      exact ⟨dx, tv, nl h (fun _ z => by cases z), r.mono c.tups⟩
    · obtain ⟨dx, tv, h, r⟩ := X.hT y h
      exact ⟨dx, tv, nl h (fun _ z => by cases z), r.mono c.tups⟩
  · rcases mem_putT hy with rfl | ⟨h, n⟩
    · exact ⟨vs, upd_same, hr.mono c.tups⟩
    · obtain ⟨ws, h1, r⟩ := X.hS y h
      exact ⟨ws, by rw [upd_ne (fun z => n (X.ns y h x hx z))]; exact h1, r.mono c.tups⟩
  · obtain ⟨y', h1, h2, h3, _⟩ := old y hy
    obtain ⟨z', g1, g2, g3, _⟩ := old z hz
    rw [← h2, ← g2]; exact X.nt _ h1 _ g1 (by rw [h3, g3]; exact e)
  · obtain ⟨y', h1, h2, _, h3⟩ := old y hy
    obtain ⟨z', g1, g2, _, g3⟩ := old z hz
    rw [← h2, ← g2]; exact X.ns _ h1 _ g1 (by rw [h3, g3]; exact e)
/-- tag, row, age of x are others, its slots a new list -/
theorem BkA.setAll (X : BkA K C CT H B td more L) {x x' : Th} {vs : List V} {tv : V} {dx : Addr} (hx : x ∈ L) (ek : x.key = x'.key) (et : x.t = x'.t) (f : H x'.s = none)
    (c : Chg [x.t] H H') (h1 : H' x.t = some (.ins CT dx (thF x' tv))) (h2 : H' x'.s = some (.lst vs)) (r1 : Rep H' tv x'.tag) (r2 : Reps H' vs x'.row) :
    BkA K C CT H' B td more (putT x' L) := by
  obtain ⟨dx0, tv0, g0, _⟩ := X.hT x hx
  have kp : ∀ {a : Addr} {o : HO}, H a = some o → a ≠ x.t → H' a = some o := fun h n => c.keep _ _ (by simpa using n) h
  have fr : ∀ y ∈ L, y.s ≠ x'.s := fun y hy z => by
    obtain ⟨ws, h, _⟩ := X.hS y hy
    rw [z, f] at h; cases h
  refine ⟨?_, ?_, fun y hy => ?_, fun y hy => ?_, by rw [putT_keys]; exact X.nk, fun y hy z hz e => ?_, fun y hy z hz e => ?_⟩
  · obtain ⟨dx, h⟩ := X.hB
    exact ⟨dx, kp h (ne_ob h g0 (ins_ne (fs := [])))⟩
  · rw [putT_kv X.nk hx ek et]; exact kp X.hD (ne_ob X.hD g0 (fun z => by cases z))
  · rcases mem_putT hy with rfl | ⟨h, n⟩
    · exact ⟨dx, tv, by rw [← et]; exact h1, r1⟩
    · obtain ⟨dx, tv, h3, r⟩ := X.hT y h
      exact ⟨dx, tv, kp h3 (fun z => n ((X.nt y h x hx z).trans ek)), r.mono c.tups⟩
  · rcases mem_putT hy with rfl | ⟨h, n⟩
    · exact ⟨vs, h2, r2⟩
    · obtain ⟨ws, h3, r⟩ := X.hS y h
      exact ⟨ws, kp h3 (ne_ob h3 g0 (fun z => by cases z)), r.mono c.tups⟩
  · have old : ∀ y ∈ putT x' L, ∃ z ∈ L, z.key = y.key ∧ z.t = y.t := fun y hy => by
      rcases mem_putT hy with rfl | ⟨h, _⟩
      · exact ⟨x, hx, ek, et⟩
      · exact ⟨y, h, rfl, rfl⟩
    obtain ⟨y', h1, h2, h3⟩ := old y hy
    obtain ⟨z', g1, g2, g3⟩ := old z hz
    rw [← h2, ← g2]; exact X.nt _ h1 _ g1 (by rw [h3, g3]; exact e)
  · rcases mem_putT hy with rfl | ⟨h, n⟩ <;> rcases mem_putT hz with rfl | ⟨h', n'⟩
    · rfl
    · exact absurd e.symm (fr z h')
    · exact absurd e (fr y h)
    · exact X.ns _ h _ h' e
/-- one more thing -/
theorem BkA.more_ (X : BkA K C CT H B td more L) {more' : List (Str × V)} {vs : List V} {x : Th} {tv : V} {dx dx2 : Addr} (fs : H x.s = none) (ft : H x.t = none) (nk : x.key ∉ L.map Th.key)
    (c : Chg [B, td] H H') (hB : H' B = some (.ins C dx2 ((fThings, .ref td) :: more'))) (hD : H' td = some (.dK (kvL (L ++ [x]))))
    (h1 : H' x.t = some (.ins CT dx (thF x tv))) (h2 : H' x.s = some (.lst vs)) (r1 : Rep H' tv x.tag) (r2 : Reps H' vs x.row) :
    BkA K C CT H' B td more' (L ++ [x]) := by
  obtain ⟨dx0, g0⟩ := X.hB
  have kp : ∀ {a : Addr} {o : HO}, H a = some o → a ≠ B → a ≠ td → H' a = some o := fun h n m => c.keep _ _ (by simp [n, m]) h
  have cs : ∀ y ∈ L ++ [x], y ∈ L ∨ y = x := fun y hy => by
    rcases List.mem_append.mp hy with h | h
    · exact .inl h
    · exact .inr (List.mem_singleton.mp h)
  refine ⟨⟨dx2, hB⟩, hD, fun y hy => ?_, fun y hy => ?_, ?_, fun y hy z hz e => ?_, fun y hy z hz e => ?_⟩
  · rcases cs y hy with h | rfl
    · obtain ⟨dx1, tv1, g1, r⟩ := X.hT y h
      exact ⟨dx1, tv1, kp g1 (ne_ob g0 g1 (ins_ne (fs := []))).symm (ne_ob g1 X.hD (fun z => by cases z)), r.mono c.tups⟩
    · exact ⟨dx, tv, h1, r1⟩
  · rcases cs y hy with h | rfl
    · obtain ⟨ws, g1, r⟩ := X.hS y h
      exact ⟨ws, kp g1 (ne_ob g1 g0 (fun z => by cases z)) (ne_ob g1 X.hD (fun z => by cases z)), r.mono c.tups⟩
    · exact ⟨vs, h2, r2⟩
  · rw [List.map_append]
    refine List.nodup_append.mpr ⟨X.nk, List.pairwise_singleton _ _, fun a ha b hb => ?_⟩
    rw [List.mem_singleton.mp hb]
    rintro rfl
    exact nk ha
  · rcases cs y hy with h | rfl <;> rcases cs z hz with h' | rfl
    · exact X.nt _ h _ h' e
    · obtain ⟨dx1, tv1, g1, _⟩ := X.hT y h; rw [e, ft] at g1; cases g1
    · obtain ⟨dx1, tv1, g1, _⟩ := X.hT z h'; rw [← e, ft] at g1; cases g1
    · rfl
  · rcases cs y hy with h | rfl <;> rcases cs z hz with h' | rfl
    · exact X.ns _ h _ h' e
    · obtain ⟨ws, g1, _⟩ := X.hS y h; rw [e, fs] at g1; cases g1
    · obtain ⟨ws, g1, _⟩ := X.hS z h'; rw [← e, fs] at g1; cases g1
    · rfl
theorem BkA.empty {dx : Addr} (hB : H B = some (.ins C dx ((fThings, .ref td) :: more))) (hD : H td = some (.dK [])) : BkA K C CT H B td more [] :=
  ⟨⟨dx, hB⟩, hD, fun x h => (by cases h), fun x h => (by cases h), List.Pairwise.nil, fun x h => (by cases h), fun x h => (by cases h)⟩
/-- the thing of a key -/
theorem BkA.look (X : BkA K C CT H B td more L) {x : Th} (hx : x ∈ L) : ∃ dx dx2 tv vs, H B = some (.ins C dx ((fThings, .ref td) :: more)) ∧ DGet H td (.int x.key) (some (.ref x.t)) ∧
    H x.t = some (.ins CT dx2 (thF x tv)) ∧ Rep H tv x.tag ∧ H x.s = some (.lst vs) ∧ Reps H vs x.row := by
  obtain ⟨dx, hB⟩ := X.hB
  obtain ⟨dx2, tv, g, r⟩ := X.hT x hx
  obtain ⟨vs, g2, r2⟩ := X.hS x hx
  have := DGet.k (k := Sum.inl x.key) X.hD
  rw [kvL_get X.nk hx] at this
  exact ⟨dx, dx2, tv, vs, hB, this, g, r, g2, r2⟩
end
end D0
namespace D0
open PySem PySem.Spec PyProof.Rows L2 SX
/-! ### the walk by levels -/
def En.tg : En → Option Nat
  | .ref k => some k
  | .hand k => some k
  | .oth _ _ => none
def Ent.tg : Ent → Option Nat
  | .pl e => e.tg
  | .pend _ e => e.tg
def tgs (es : List Ent) : List Nat := es.filterMap Ent.tg
theorem En.tg_lt {m k : Nat} : ∀ {e : En}, e.ok m → e.tg = some k → k < m
  | .ref j, h, e => by cases e; exact h
  | .hand j, h, e => by cases e; exact h
theorem Ent.tg_lt {m k : Nat} : ∀ {e : Ent}, e.ok m → e.tg = some k → k < m
  | .pl e, h, q => En.tg_lt (e := e) h q
  | .pend _ e, h, q => En.tg_lt (e := e) h q
theorem tgs_lt {m : Nat} {es : List Ent} (h : ∀ e ∈ es, e.ok m) : ∀ k ∈ tgs es, k < m := fun k hk => by
  obtain ⟨e, he, q⟩ := List.mem_filterMap.mp hk
  exact Ent.tg_lt (h e he) q
theorem tgs_app (a b : List Ent) : tgs (a ++ b) = tgs a ++ tgs b := List.filterMap_append
def put1 (o : List Nat) (x : Nat) : List Nat := if x ∈ o then o else o ++ [x]
def meet (xs o : List Nat) : List Nat := xs.foldl put1 o
theorem meet_app (a b o : List Nat) : meet (a ++ b) o = meet b (meet a o) := List.foldl_append
theorem put1_mem {o : List Nat} {x y : Nat} : y ∈ put1 o x ↔ y ∈ o ∨ y = x := by
  unfold put1
  split
  · rename_i h
    exact ⟨.inl, fun z => z.elim id fun e => by rw [e]; exact h⟩
  · simp
theorem put1_nodup {o : List Nat} {x : Nat} (h : o.Nodup) : (put1 o x).Nodup := by
  unfold put1
  split
  · exact h
  · rename_i n
    exact List.nodup_append.mpr ⟨h, List.pairwise_singleton _ _, fun a ha b hb z => n (by rw [← List.mem_singleton.mp hb, ← z]; exact ha)⟩
theorem put1_pre {o : List Nat} {x : Nat} : ∃ r, put1 o x = o ++ r := by
  unfold put1
  split
  · exact ⟨[], by simp⟩
  · exact ⟨[x], rfl⟩
theorem meet_mem : ∀ {xs o : List Nat} {y : Nat}, y ∈ meet xs o ↔ y ∈ o ∨ y ∈ xs
  | [], o, y => by unfold meet; simp
  | x :: xs, o, y => by
    show y ∈ meet xs (put1 o x) ↔ _
    rw [meet_mem, put1_mem, List.mem_cons, or_assoc]
theorem meet_nodup : ∀ {xs o : List Nat}, o.Nodup → (meet xs o).Nodup
  | [], o, h => h
  | x :: xs, o, h => meet_nodup (xs := xs) (put1_nodup h)
theorem meet_pre : ∀ {xs o : List Nat}, ∃ r, meet xs o = o ++ r
  | [], o => ⟨[], by unfold meet; simp⟩
  | x :: xs, o => by
    obtain ⟨r, e⟩ := put1_pre (o := o) (x := x)
    obtain ⟨r2, e2⟩ := meet_pre (xs := xs) (o := put1 o x)
    exact ⟨r ++ r2, by show meet xs (put1 o x) = _; rw [e2, e, List.append_assoc]⟩
theorem nodup_le : ∀ (N : Nat) {l : List Nat}, l.Nodup → (∀ x ∈ l, x < N) → l.length ≤ N
  | 0, l, _, h => by
    cases l with
    | nil => exact Nat.le_refl _
    | cons x r => exact absurd (h x (List.mem_cons_self ..)) (Nat.not_lt_zero _)
  | N + 1, l, hn, h => by
    have h1 := nodup_le N (l := l.erase N) (hn.erase _) fun x hx => by
      have := (hn.mem_erase_iff).mp hx
      have := h x this.2
      omega
    have := List.length_erase (a := N) (l := l)
    split at this <;> omega
def bfs (sc : Nat → List Nat) : Nat → List Nat → Nat → List Nat
  | 0, o, _ => o
  | n + 1, o, k => match o[k]? with
    | none => o
    | some x => bfs sc n (meet (sc x) o) (k + 1)
theorem bfs_stop {sc : Nat → List Nat} {n k : Nat} {o : List Nat} (h : o.length ≤ k) : bfs sc n o k = o := by
  cases n with
  | zero => rfl
  | succ n => unfold bfs; rw [List.getElem?_eq_none h]
theorem bfs_step {sc : Nat → List Nat} {n k : Nat} {o : List Nat} (h : k < o.length) : bfs sc (n + 1) o k = bfs sc n (meet (sc o[k]) o) (k + 1) := by
  rw [bfs, List.getElem?_eq_getElem h]
/-- what a walk ends with -/
structure Clo (sc : Nat → List Nat) (N : Nat) (o R : List Nat) : Prop where
  nd : R.Nodup
  lt : ∀ x ∈ R, x < N
  top : ∀ x ∈ o, x ∈ R
  clo : ∀ x ∈ R, ∀ y ∈ sc x, y ∈ R
theorem bfs_clo {sc : Nat → List Nat} {N : Nat} (hs : ∀ x, x < N → ∀ y ∈ sc x, y < N) : ∀ (n : Nat) (o : List Nat) (k : Nat), o.Nodup → (∀ x ∈ o, x < N) → (∀ j x, j < k → o[j]? = some x → ∀ y ∈ sc x, y ∈ o) → N + 1 ≤ n + k → Clo sc N o (bfs sc n o k)
  | n, o, k, hn, hl, hc, hk => by
    by_cases hlt : k < o.length
    · have := nodup_le N hn hl
      cases n with
      | zero => omega
      | succ n =>
        rw [bfs_step hlt]
        have hx := List.getElem_mem hlt
        have ih := bfs_clo hs n (meet (sc o[k]) o) (k + 1) (meet_nodup hn) (fun x h => by
          rcases meet_mem.mp h with h | h
          · exact hl x h
          · exact hs _ (hl _ hx) x h) (fun j x hj e y hy => by
          obtain ⟨r, er⟩ := meet_pre (xs := sc o[k]) (o := o)
          rw [er, List.getElem?_append_left (by omega)] at e
          by_cases hjk : j < k
          · exact meet_mem.mpr (.inl (hc j x hjk e y hy))
          · have : j = k := by omega
            subst this
            rw [List.getElem?_eq_getElem hlt] at e
            rw [← Option.some.inj e] at hy
            exact meet_mem.mpr (.inr hy)) (by omega)
        exact ⟨ih.nd, ih.lt, fun x h => ih.top x (meet_mem.mpr (.inl h)), ih.clo⟩
    · rw [bfs_stop (by omega)]
      refine ⟨hn, hl, fun x h => h, fun x h y hy => ?_⟩
      obtain ⟨j, hj⟩ := List.getElem?_of_mem h
      obtain ⟨hj', _⟩ := List.getElem?_eq_some_iff.mp hj
      exact hc j x (by omega) hj y hy
/-- the targets of a node -/
def scN (nds : List Nd) (x : Nat) : List Nat := match nds[x]? with
  | some n => tgs n.row
  | none => []
theorem scN_at {nds : List Nd} {x : Nat} {n : Nd} (h : nds[x]? = some n) : scN nds x = tgs n.row := by unfold scN; rw [h]
/-- the objects that entries reach -/
def reachN (nds : List Nd) (es : List Ent) : List Nat := bfs (scN nds) (nds.length + 1) (meet (tgs es) []) 0
theorem scN_lt {nds : List Nd} (h : ∀ n ∈ nds, ∀ e ∈ n.row, e.ok nds.length) : ∀ x, x < nds.length → ∀ y ∈ scN nds x, y < nds.length := fun x hx y hy => by
  rw [scN_at (List.getElem?_eq_getElem hx)] at hy
  exact tgs_lt (h _ (List.getElem_mem hx)) y hy
theorem reachN_clo {nds : List Nd} {es : List Ent} (h : ∀ n ∈ nds, ∀ e ∈ n.row, e.ok nds.length) (he : ∀ e ∈ es, e.ok nds.length) : Clo (scN nds) nds.length (tgs es) (reachN nds es) := by
  have := bfs_clo (scN_lt h) (nds.length + 1) (meet (tgs es) []) 0 (meet_nodup List.Pairwise.nil) (fun x hx => by
    rcases meet_mem.mp hx with hx | hx
    · cases hx
    · exact tgs_lt he x hx) (fun j x hj => by omega) (by omega)
  exact ⟨this.nd, this.lt, fun x hx => this.top x (meet_mem.mpr (.inr hx)), this.clo⟩
/-- the place of x in l; -1 -/
def plc (l : List Nat) (x : Nat) : Int := if x ∈ l then ((l.idxOf x : Nat) : Int) else -1
theorem plc_at {l : List Nat} (h : l.Nodup) {j : Nat} (hj : j < l.length) : plc l l[j] = (j : Nat) := by
  unfold plc
  rw [if_pos (List.getElem_mem hj), h.idxOf_getElem j hj]
end D0
namespace D0
open PySem PySem.Spec PyProof.Rows L2 SX
def C5 (c n s t k : Int) : List V := [.int c, .int n, .int s, .int t, .int k]
/-- a box: a list of five ints -/
def Bag (H : Hp) (b : Addr) : Prop := ∃ c n s t k : Int, H b = some (.lst (C5 c n s t k))
/-- all but the box stays -/
structure Stp (b : Addr) (H H' : Hp) : Prop where
  b0 : Bag H b
  b1 : Bag H' b
  keep : ∀ a o, a ≠ b → H a = some o → H' a = some o
theorem Stp.trans {b : Addr} {H H1 H2 : Hp} (x : Stp b H H1) (y : Stp b H1 H2) : Stp b H H2 := ⟨x.b0, y.b1, fun a o n e => y.keep a o n (x.keep a o n e)⟩
theorem Stp.refl {b : Addr} {H : Hp} (x : Bag H b) : Stp b H H := ⟨x, x, fun _ _ _ e => e⟩
theorem Bag.same {b : Addr} {H H' : Hp} (x : Bag H b) (s : Same H H') : Bag H' b := by obtain ⟨c, t, n, u, v, e⟩ := x; exact ⟨c, t, n, u, v, s _ _ e⟩
theorem Stp.same {b : Addr} {H H' : Hp} (x : Bag H b) (s : Same H H') : Stp b H H' := ⟨x, x.same s, fun a o _ e => s a o e⟩
theorem Bag.ne {b a : Addr} {H : Hp} (x : Bag H b) (h : H a = none) : a ≠ b := by obtain ⟨c, t, n, _, _, e⟩ := x; exact (ne_of_none e h).symm
theorem Bag.ne_tup {b a : Addr} {H : Hp} {vs : List V} (x : Bag H b) (h : H a = some (.tup vs)) : a ≠ b := by
  obtain ⟨c, t, n, _, _, e⟩ := x
  intro z; rw [z, e] at h; cases h
theorem Stp.tups {b : Addr} {H H' : Hp} (x : Stp b H H') : Tups H H' := fun a vs h => x.keep a _ (x.b0.ne_tup h) h
theorem Stp.chg {b : Addr} {H H' : Hp} (x : Stp b H H') : Chg [b] H H' := ⟨fun a o n h => x.keep a o (fun z => n (by rw [z]; exact List.mem_singleton_self _)) h, x.tups, fun a h => by
  cases e : H a with
  | none => rfl
  | some o =>
    have n := x.b1
    obtain ⟨c1, c2, c3, c4, c5, g⟩ := n
    by_cases z : a = b
    · rw [z, g] at h; cases h
    · rw [x.keep a o z e] at h; cases h⟩
theorem Stp.new {b : Addr} {H H1 : Hp} (x : Stp b H H1) {p : Addr} {o : HO} (h : H1 p = none) : Stp b H (upd H1 p o) := x.trans (.same x.b1 (same_new h o))
/-- a list that H did not have grows -/
theorem Stp.grow {b : Addr} {H H1 : Hp} (x : Stp b H H1) {p : Addr} {o : HO} (h : H p = none) (n : p ≠ b) : Stp b H (upd H1 p o) := by
  refine ⟨x.b0, ?_, fun a u k e => ?_⟩
  · obtain ⟨c, t, m, u, v, e⟩ := x.b1; exact ⟨c, t, m, u, v, by rw [upd_ne (Ne.symm n)]; exact e⟩
  · rw [upd_ne (ne_of_none e h)]; exact x.keep a u k e
theorem ints_map : ∀ {xs : List V}, (∀ x ∈ xs, ∃ i : Int, x = V.int i) → ∃ ms : List Int, xs = ms.map V.int
  | [], _ => ⟨[], rfl⟩
  | x :: xs, h => by
    obtain ⟨i, rfl⟩ := h _ (List.mem_cons_self ..)
    obtain ⟨ms, rfl⟩ := ints_map (xs := xs) fun y hy => h y (List.mem_cons_of_mem _ hy)
    exact ⟨i :: ms, rfl⟩
def spCell (K : PySem.W.Frag) : Sp := fun vs H Q _ => ∃ (a : Addr) (ns : List Int) (k : Nat), vs = [.ref a, .int k] ∧ SqL K H a (ns.map V.int) ∧ k ≤ 60 ∧ ∀ i H', Same H H' → Q (.int i) H'
def spBox (K : PySem.W.Frag) : Sp := fun vs H Q _ => ∃ (a : Addr) (ns : List Int) (k : Nat), vs = [.ref a, .int k] ∧ SqL K H a (ns.map V.int) ∧ k ≤ 60 ∧ ∀ p H', Same H H' → H p = none → Bag H' p → Q (.ref p) H'
def spTake : Sp := fun vs H Q _ => ∃ (b : Addr) (n : Int), vs = [.ref b, .int n] ∧ Bag H b ∧ 0 < n ∧ n < 1000000000 ∧ ∀ r H', 0 ≤ r → r < n → Stp b H H' → Q (.int r) H'
section
variable {P : Program} {w : World} {K : PySem.W.Frag} {mg : Str → Option Value} {base : Heap}
theorem ok__law_cell (T : Txt K w mg) : OkD P w K mg base CX0 1 "_law_cell" p__law_cell (spCell K) := by
  refine T.g__law_cell.ok sc__law_cell (fun vs H Q E h => ?_) (fun f cdv A outer s H vs Q E hr h => ?_)
  · obtain ⟨a, ns, k, rfl, _⟩ := h; rfl
  obtain ⟨a, ns, k, rfl, hS, hk, q⟩ := h
  refine ⟨_, (pss_cons (ps_if (pt_cmpR op_lt (pv 1) (pe_callB call_len_seq (by rfl) T.z_len PySem.boot_len (pa_cons (pv 0) pa_nil)) (nomark _)) (pss_one (ps_ret (pe_callTy call_int1 (by rfl) T.z_int PyProof.Rows.boot_int (pa_cons (pe_ix ix_list (pv 0) (pv 1) (fun _ _ => rfl)) pa_nil)))) pss_nil)
      (pss_one (ps_ret (pe_op op_add (pe_op op_add (pe_op op_mul (pe_op op_add (pv 1) pe_int) (pe_op op_mod (pe_callTy call_int1 (by rfl) T.z_int PyProof.Rows.boot_int (pa_cons (pe_callB (cr_sum rfl) (by rfl) T.z_sum (by decide +kernel) (pa_cons (pe_slice sl_list (pv 0) po_none (po_some pe_int)) pa_nil)) pa_nil)) pe_int)) (pe_op op_mul pe_int (pv 1))) pe_int)))), ?_⟩
  refine ⟨_, rfl, _, rfl, a, _, rfl, .inl hS, _, _, rfl, rfl, _, rfl, ite2 (fun c => ?_) (fun c => ?_)⟩
  · have c := of_decide_eq_true c
    have c : (k : Int) < ((ns.map V.int).length : Int) := c
    rw [List.length_map] at c
    have hkl : k < ns.length := by omega
    refine ⟨_, rfl, _, rfl, a, _, _, .int ns[k], rfl, rfl, hS, atI_nat (by rw [List.getElem?_map, List.getElem?_eq_getElem hkl]; rfl), ?_⟩
    exact .inl ⟨_, rfl, q _ _ (.refl _)⟩
  · refine ⟨_, rfl, _, _, rfl, rfl, _, rfl, 1, rfl, a, _, rfl, hS, fun p hp => ?_⟩
    have mem : ∀ x ∈ cutV (ns.map V.int) none (some 1), ∃ i : Int, x = V.int i := fun x hx => by
      have : x ∈ ns.map V.int := List.mem_of_mem_drop (List.mem_of_mem_take hx)
      obtain ⟨i, _, e⟩ := List.mem_map.mp this
      exact ⟨i, e.symm⟩
    obtain ⟨ms, em⟩ := ints_map mem
    refine ⟨p, ms, rfl, SqL.of (by rw [upd_same, em]), .inl ⟨_, rfl, _, _, rfl, rfl, (by show (0 : Int) < _; decide), _, _, rfl, rfl, .inl ⟨by omega, by omega⟩, ?_⟩⟩
    refine ⟨_, rfl, _, _, rfl, rfl, .inl ⟨by decide, by decide⟩, _, _, rfl, rfl, _, _, rfl, rfl, ?_⟩
    exact q _ _ (same_new hp _)
theorem ok__law_box (T : Txt K w mg) (O : OkD P w K mg base CX0 1 "_law_cell" p__law_cell (spCell K)) : OkD P w K mg base CX0 2 "_law_box" p__law_box (spBox K) := by
  refine T.g__law_box.ok sc__law_box (fun vs H Q E h => ?_) (fun f cdv A outer s H vs Q E hr h => ?_)
  · obtain ⟨a, ns, k, rfl, _⟩ := h; rfl
  obtain ⟨a, ns, k, rfl, hS, hk, q⟩ := h
  refine ⟨_, (pss_cons (ps_set (i := 2) sc__law_box.nd rfl (.inl rfl) (pcall O hr (pa_cons (pv 0) (pa_cons (pv 1) pa_nil))))
      (pss_cons (ps_if (pt_cmpR op_ge (pv 2) (pe_op op_pow pe_int pe_int) (nomark _)) (pss_one (ps_ret (pe_lst (pa_cons (pv 2) (pa_cons pe_int (pa_cons (pv 2) (pa_cons pe_int (pa_cons (pv 1) pa_nil)))))))) pss_nil)
      (pss_one (ps_ret (pe_lst (pa_cons pe_int (pa_cons pe_int (pa_cons (pv 2) (pa_cons pe_int (pa_cons (pv 1) pa_nil)))))))))), ?_⟩
  refine ⟨_, rfl, _, rfl, a, ns, k, rfl, hS, hk, fun i H1 s1 => ?_⟩
  refine ⟨_, rfl, _, _, rfl, rfl, ⟨by decide, by decide, by decide⟩, _, _, rfl, rfl, _, rfl, ite2 (fun c => ?_) (fun c => ?_)⟩
  · refine ⟨_, rfl, _, rfl, _, rfl, by show 5 ≤ sizeLine; decide, fun z hz => ?_⟩
    exact q z _ (s1.trans (same_new hz _)) (s1.free hz) ⟨_, _, _, _, _, upd_same⟩
  · refine ⟨_, rfl, _, rfl, by show 5 ≤ sizeLine; decide, fun z hz => ?_⟩
    exact q z _ (s1.trans (same_new hz _)) (s1.free hz) ⟨_, _, _, _, _, upd_same⟩
theorem ok__law_take (T : Txt K w mg) : OkD P w K mg base CX0 1 "_law_take" p__law_take spTake := by
  refine T.g__law_take.ok sc__law_take (fun vs H Q E h => ?_) (fun f cdv A outer s H vs Q E hr h => ?_)
  · obtain ⟨b, n, rfl, _⟩ := h; rfl
  obtain ⟨b, n, rfl, ⟨c, m, sd, t, kk, hb⟩, hn0, hn1, q⟩ := h
  refine split_at 1 (fun t => t { nx := fun _ H' => Q .non H', rt := Q } [some (.ref b), some (.int n), none, none, none] H) ?_ (fun t ht hg => ?_)
  rotate_left
  · refine ⟨_, pss_cons (ps_if (PW.pt (pw_and (pt_cmpR op_gt (pe_ix ix_list (pv 0) pe_int (fun _ _ => rfl)) pe_int (nomark _)) (pw_and1 (pt_cmpR op_gt (pe_ix ix_list (pv 0) pe_int (fun _ _ => rfl)) pe_int (nomark _))))) (pss_cons (ps_set (i := 2) sc__law_take.nd rfl (.inl rfl) (pe_op op_mod (pe_callTy call_int1 (by rfl) T.z_int PyProof.Rows.boot_int (pa_cons (pe_ix ix_list (pv 0) pe_int (fun _ _ => rfl)) pa_nil)) (pv 1)))
      (pss_cons (ps_asg (pe_op op_fdiv (pe_ix ix_list (pv 0) pe_int (fun _ _ => rfl)) (pv 1)) (pg_sub (pv 0) pe_int set_list))
      (pss_cons (ps_asg (pe_op op_sub (pe_ix ix_list (pv 0) pe_int (fun _ _ => rfl)) pe_int) (pg_sub (pv 0) pe_int set_list))
      (pss_one (ps_ret (pv 2)))))) pss_nil) ht, ?_⟩
    refine ⟨_, rfl, b, _, 0, _, rfl, rfl, SqL.of hb, rfl, _, _, rfl, rfl, _, rfl, ite2 (fun _ => ?_) (fun _ => hg)⟩
    refine ⟨_, rfl, b, _, 1, _, rfl, rfl, SqL.of hb, rfl, _, _, rfl, rfl, _, rfl, ite2 (fun _ => ?_) (fun _ => hg)⟩
    refine ⟨_, rfl, b, _, 0, _, rfl, rfl, SqL.of hb, rfl, .inl ⟨_, rfl, _, rfl, _, _, rfl, rfl, hn0, ?_⟩⟩
    refine ⟨_, rfl, b, _, 0, _, rfl, rfl, SqL.of hb, rfl, _, rfl, _, _, rfl, rfl, ?_, ?_⟩
    · exact ⟨hn0, by omega⟩
    refine ⟨_, rfl, b, _, 0, 0, rfl, rfl, hb, rfl, ?_⟩
    refine ⟨_, rfl, b, _, 1, _, rfl, rfl, SqL.of upd_same, rfl, _, _, rfl, rfl, ?_⟩
    refine ⟨_, rfl, b, _, 1, 1, rfl, rfl, upd_same, rfl, ?_⟩
    refine ⟨_, rfl, ?_⟩
    rw [upd_upd]
    exact q _ _ (Int.emod_nonneg _ (by omega)) (Int.emod_lt_of_pos _ hn0) ⟨⟨_, _, _, _, _, hb⟩, ⟨_, _, _, _, _, upd_same⟩, fun a o n e => by rw [upd_ne n]; exact e⟩
  · refine ⟨_, (pss_cons (ps_asg (pe_op op_add (pe_ix ix_list (pv 0) pe_int (fun _ _ => rfl)) pe_int) (pg_sub (pv 0) pe_int set_list))
      (pss_cons (ps_set (i := 3) sc__law_take.nd rfl (.inl rfl) (pe_op op_mod (pe_callTy call_int1 (by rfl) T.z_int PyProof.Rows.boot_int (pa_cons (pe_op op_add (pe_op op_add (pe_op op_mul (pe_ix ix_list (pv 0) pe_int (fun _ _ => rfl)) pe_int) (pe_op op_mul (pe_ix ix_list (pv 0) pe_int (fun _ _ => rfl)) pe_int)) (pe_op op_mul (pe_ix ix_list (pv 0) pe_int (fun _ _ => rfl)) pe_int)) pa_nil)) pe_int))
      (pss_cons (ps_set (i := 4) sc__law_take.nd rfl (.inl rfl) (pe_op op_mod (pe_callTy call_int1 (by rfl) T.z_int PyProof.Rows.boot_int (pa_cons (pe_op op_add (pe_op op_add (pe_op op_mul (pv 3) (pv 3)) (pe_op op_mul (pe_ix ix_list (pv 0) pe_int (fun _ _ => rfl)) pe_int)) pe_int) pa_nil)) pe_int))
      (pss_one (ps_ret (pe_op op_mod (pe_callTy call_int1 (by rfl) T.z_int PyProof.Rows.boot_int (pa_cons (pe_op op_fdiv (pv 4) pe_int) pa_nil)) (pv 1))))))), ?_⟩
    refine ⟨_, rfl, b, _, 3, _, rfl, rfl, SqL.of hb, rfl, _, _, rfl, rfl, ?_⟩
    refine ⟨_, rfl, b, _, 3, 3, rfl, rfl, hb, rfl, ?_⟩
    refine ⟨_, rfl, b, _, 2, _, rfl, rfl, SqL.of upd_same, rfl, _, _, rfl, rfl, .inr ⟨by decide, by decide⟩, ?_⟩
    refine ⟨_, rfl, b, _, 3, _, rfl, rfl, SqL.of upd_same, rfl, _, _, rfl, rfl, .inr ⟨by decide, by decide⟩, _, _, rfl, rfl, ?_⟩
    refine ⟨_, rfl, b, _, 4, _, rfl, rfl, SqL.of upd_same, rfl, _, _, rfl, rfl, .inr ⟨by decide, by decide⟩, _, _, rfl, rfl, .inl ⟨_, rfl, _, _, rfl, rfl, (by show (0 : Int) < _; decide), ?_⟩⟩
    obtain ⟨f1, hf1⟩ : ∃ f1 : Int, f1 = (sd * 48271 + (t + 1) * 1103515245 + kk * 69621) % 2147483647 := ⟨_, rfl⟩
    have hf0 : 0 ≤ f1 := by rw [hf1]; exact Int.emod_nonneg _ (by decide)
    have hf2 : f1 < 2147483647 := by rw [hf1]; exact Int.emod_lt_of_pos _ (by decide)
    refine ⟨_, rfl, _, rfl, _, _, rfl, rfl, .inl ?_, ?_⟩
    · show (-(2 ^ 64) : Int) < (sd * 48271 + (t + 1) * 1103515245 + kk * 69621) % 2147483647 ∧ (sd * 48271 + (t + 1) * 1103515245 + kk * 69621) % 2147483647 < 2 ^ 64
      rw [← hf1]; omega
    refine ⟨_, rfl, b, _, 3, _, rfl, rfl, SqL.of upd_same, rfl, _, _, rfl, rfl, .inr ⟨by decide, by decide⟩, _, _, rfl, rfl, _, _, rfl, rfl, .inl ⟨_, rfl, _, _, rfl, rfl, (by show (0 : Int) < _; decide), ?_⟩⟩
    refine ⟨_, rfl, _, _, rfl, rfl, ⟨by decide, by decide⟩, .inl ⟨_, rfl, _, rfl, _, _, rfl, rfl, hn0, ?_⟩⟩
    exact q _ _ (Int.emod_nonneg _ (by omega)) (Int.emod_lt_of_pos _ hn0) ⟨⟨_, _, _, _, _, hb⟩, ⟨_, _, _, _, _, upd_same⟩, fun a o n e => by rw [upd_ne n]; exact e⟩
end
end D0
namespace D0
open PySem PySem.Spec PyProof.Rows L2 SX
/-- C.m(..), m a def of the class C -/
theorem pe_ccall {X : Cx} {CX : CXT} {k : Nat} {C f : Addr} {fd : FuncData} {ps : List Str} {mc : Value} {sp : Sp} {E : XK} {o e : Expr} {es : List Expr} {m : Str} {pos apos : Pos} {ta : TE} {t : TA} {pl : Sem Bool} (ho : PE X o ta) (r : ClX.CRead X.K C mc)
    (c : PySem.W.findCls X.K (.ref C) mc m = some (.val (.ref f))) (kp : PySem.W.keepIn X.K (.ref f) = true) (F : FnOk X.prog X.w X.K X.mg X.base CX k f fd ps sp) (hr : Room k X.A) (hb : L2.Binds X.K fd ps []) (hx : Passes CX X E) (ha : PA X (e :: es) t)
    (he : starEach (e :: es) X.env = (false, eval e X.env) :: starEach es X.env := by rfl) (hpl : (backTo pos (starEach es X.env)).any (·.1) = false := by rfl)
    (hm : eval (.Call (.Attribute o m apos) (e :: es) [] pos) X.env = (do
      let ov ← eval o X.env
      standAt apos.atName
      let (f, first) ← holding [ov] (getMethod ov m pl)
      callWith pos f first (backTo pos (starEach (e :: es) X.env)) (backToKw pos (keywordEach [] X.env))) := by rfl) :
    PE X (.Call (.Attribute o m apos) (e :: es) [] pos) (fun σ H Q => ta σ H fun x H1 => x = .ref C ∧ t σ H1 fun vs H2 => sp (vs ++ []) H2 Q E) := by
  refine ⟨fun pins s σ H Q I h => ?_⟩
  refine PySem.W.methodCall_KW (thn (ho.run pins s σ H _ I h) fun u s1 z => ?_) hm
  obtain ⟨x, H1, I1, rx, rfl, q⟩ := z
  cases (show u = Value.ref C from rx)
  refine PySem.W.method_cls I1.kIn r.ga (ClX.getcval_ok I1 r (⟨c, rfl⟩ : ClX.CVal _ C mc m (.ref f) (.ref f)) fun s2 I2 => ?_)
  refine PySem.W.callWith_K I2.kIn kp (thn (ha.run pos pins s2 σ H1 _ I2 q) fun us s3 z => ?_) he hpl
  obtain ⟨vs, H2, I3, rv, q3⟩ := z
  exact ⟨I3.kIn, run_fn F hr hb .nil hx I3 rv q3⟩
theorem fnR_of' {P : Program} {w : World} {K : PySem.W.Frag} {mg : Str → Option Value} {base : Heap} {CX : CXT} {k : Nat} {f : Addr} {fd : FuncData} {ps : List Str} {sp : Sp} (F : FnOk P w K mg base CX k f fd ps sp) (hb : L2.Binds K fd ps []) : FnR P w K mg base CX k f sp := fun A outer s H us vs Q E hr e vl z => by
  have kin : K.In s.heap := PySem.W.Frag.In.keeps e.mod.kin (fun b o h => (e.bs b o h).1)
  have ln := F.len vs H Q E z
  have l2 : us.length = vs.length := vl.length.symm
  have b := hb s us kin (by rw [List.append_nil, l2, ln])
  rw [List.append_nil] at b
  exact F.run A outer s H _ us vs Q E hr e b vl z
/-- len(o), o an instance with its own __len__ -/
theorem call_lenOwn {X : Cx} {CX : CXT} {C g : Addr} {n : Nat} {sp : Sp} {E : XK} {fd : FuncData} {ps : List Str} (hs : PySem.W.findIn X.K (.ref C) "__len__" = some (some (.ref g))) (hf : PySem.W.isFn X.K (.ref g) = true)
    (F : FnOk X.prog X.w X.K X.mg X.base CX n g fd ps sp) (hb : L2.Binds X.K fd ps []) (hr : Room (n + 1) X.A) (hx : Passes CX X E) :
    CallR X (.builtin "len") (fun xs H Q => ∃ (a dx : Addr) (fs : List (Str × V)), xs = [.ref a] ∧ H a = some (.ins C dx fs) ∧ sp [.ref a] H (fun v H' => ∃ i : Int, v = .int i ∧ 0 ≤ i ∧ i < 2 ^ 63 ∧ Q (.int i) H') E) := by
  intro pins s σ H xs us Q I r h
  obtain ⟨a, dx, fs, rfl, ha, q⟩ := h
  obtain ⟨u, rfl, ru⟩ := Vals.one r
  cases (show u = Value.ref a from ru)
  obtain ⟨m, hfr⟩ := I.fr
  have ho := I.hok a _ ha
  unfold ObjOk at ho
  obtain ⟨h1, h2, h3, h4, mA, h5, _⟩ := ho
  obtain ⟨od, es, ep, hd, _⟩ := h5
  have J : PySem.W.InstAt s.heap a (PySem.W.instObj C dx) C (some od) := ⟨h4, rfl, rfl, hd⟩
  refine PySem.W.len_K hfr I.mod.kin J hs hf ?_
  refine wpAny_mono (wpAny_call (SlX.run_at (fnR_of' F hb) hr.in1 I.env0.in1 hx I (show Vals [V.ref a] [Value.ref a] from .cons rfl .nil) q)) (fun v s' z => ?_) (fun _ _ z => z)
  obtain ⟨x, H', I', rx, i, rfl, i0, i1, qi⟩ := z
  obtain ⟨t, rfl⟩ := rx
  exact ⟨⟨i0, i1⟩, .int i, H', I'.tok _, ⟨_, rfl⟩, qi⟩
end D0
namespace D0
open PySem PySem.Spec PyProof.Rows L2 SX NumText
theorem join_one (l : List Nat) : Txt.join (S []) (l.map fun c => S [c]) = S l := by
  have e : (l.map fun c => S [c]) = (l.map fun c => [c]).map S := by rw [List.map_map]; rfl
  rw [e, join_S]
  congr 1
  induction l with
  | nil => rfl
  | cons a t ih =>
    cases t with
    | nil => rfl
    | cons b r =>
      have ih := ih (by rw [List.map_map]; rfl)
      show [a] ++ ([] ++ TL.joinL [] ([b] :: r.map fun c => [c])) = a :: b :: r
      show a :: (TL.joinL [] ([b] :: r.map fun c => [c])) = a :: b :: r
      have ih' : TL.joinL [] ([b] :: r.map fun c => [c]) = b :: r := ih
      rw [ih']
/-- the signs of a text -/
def cs (z : Str) : List Nat := z.cps.toList
theorem S_cs (z : Str) : z = S (cs z) := by cases z; rfl
theorem Rep.sv {H : Hp} (z : Str) : Rep H (.str z) (.str (cs z)) := by
  have := Rep.str (H := H) (cs z)
  rwa [← S_cs] at this
def spWord : Sp := fun vs H Q _ => ∃ (b : Addr), vs = [.ref b] ∧ Bag H b ∧ ∀ l H', Stp b H H' → l.length ≤ 10 → Q (.str (S l)) H'
structure OthOk (l : List Nat) (ds : List D) : Prop where
  n1 : l ≠ wRef
  n2 : l ≠ wHandled
  n3 : l ≠ wPending
  dp : deps ds = 0
def spPlain : Sp := fun vs H Q _ => ∃ (b : Addr), vs = [.ref b] ∧ Bag H b ∧ ∀ v l ds H', Stp b H H' → OthOk l ds → Rep H' v (.tup (.str l :: ds)) → Q v H'
section
variable {P : Program} {w : World} {K : PySem.W.Frag} {mg : Str → Option Value} {base : Heap}
theorem at_str {z : Str} {i : Int} (h0 : 0 ≤ i) (h1 : i < z.length) : ∃ c, atI z.cps.toList i = some c := by
  have h2 : i < (z.cps.size : Nat) := h1
  obtain ⟨k, rfl⟩ : ∃ k : Nat, i = (k : Int) := ⟨i.toNat, by omega⟩
  exact ⟨_, atI_nat (List.getElem?_eq_getElem (by rw [Array.length_toList]; omega))⟩
theorem sum_ones : ∀ l : List Nat, ((l.map fun c => S [c]).map fun x => x.length).sum = l.length
  | [] => rfl
  | c :: l => by rw [List.map_cons, List.map_cons, List.sum_cons, sum_ones l, List.length_cons]; show 1 + _ = _; omega
theorem join_lim {l : List Nat} (h : l.length ≤ 100) : ((l.map fun c => S [c]).map fun x => x.length).sum + (l.map fun c => S [c]).length * (Str.ofString "").length ≤ 16777216 := by
  rw [sum_ones]
  have : (Str.ofString "").length = 0 := by decide
  rw [this]; omega
theorem ok__law_word (T : Txt K w mg) (O : OkD P w K mg base CX0 1 "_law_take" p__law_take spTake) : OkD P w K mg base CX0 2 "_law_word" p__law_word spWord := by
  refine T.g__law_word.ok sc__law_word (fun vs H Q E h => ?_) (fun f cdv A outer s H vs Q E hr h => ?_)
  · obtain ⟨b, rfl, _⟩ := h; rfl
  obtain ⟨b, rfl, hb, q⟩ := h
  refine ⟨_, (pss_cons (ps_if (pt_cmpR op_eq (pcall O hr (pa_cons (pv 0) (pa_cons pe_int pa_nil))) pe_int (nomark _)) (pss_cons (ps_set (i := 1) sc__law_word.nd rfl (.inl rfl) (pe_tup (pa_cons pe_str (pa_cons pe_str (pa_cons pe_str (pa_cons pe_str (pa_cons pe_str (pa_cons pe_str pa_nil))))))))
      (pss_one (ps_ret (pe_ix ix_tup (pv 1) (pcall O hr (pa_cons (pv 0) (pa_cons pe_int pa_nil))) (fun _ _ => rfl))))) pss_nil)
      (pss_cons (ps_set (i := 2) sc__law_word.nd rfl (.inr rfl) pe_str)
      (pss_cons (ps_set (i := 2) sc__law_word.nd rfl (.inr rfl) (pe_op op_add_str (pv 2) pe_str))
      (pss_one (ps_ret (pe_join pe_str (pe_lc (own := [("k", 3)]) (g := gName 3) (tt := tYes) rfl sc__law_word.nd (pi_range1 rfl T.z_range (pa_cons (pcall O hr (pa_cons (pv 0) (pa_cons pe_int pa_nil))) pa_nil)) (blkOk_by (own := [("k", 3)]) (N := n__law_word) (sc := defScope s__law_word) (by decide +kernel))
        (fun _ _ _ _ _ => (pg_name (i := 3) sc__law_word.nd rfl (Or.inl rfl))) (fun _ _ _ _ _ => pts_nil) (fun _ _ _ _ _ => (pe_ix ix_str (pv 2) (pcall O hr (pa_cons (pv 0) (pa_cons (pe_callB call_len_str (by rfl) T.z_len PySem.boot_len (pa_cons (pv 2) pa_nil)) pa_nil))) (fun _ _ => rfl)))))))))), ?_⟩
  refine ⟨_, rfl, b, 3, rfl, hb, by decide, by decide, fun r H1 r0 r1 x1 => ⟨rfl, _, rfl, ite2 (fun _ => ?_) (fun _ => ?_)⟩⟩
  · refine ⟨by show 6 ≤ sizeLine; decide, fun p hp => ?_⟩
    refine ⟨_, rfl, _, rfl, b, 6, rfl, x1.b1.same (same_new hp _), by decide, by decide, fun r2 H2 r20 r21 x2 => ?_⟩
    have ht := x2.tups p _ (upd_same (H := H1) (a := p))
    have fin := (x1.new hp).trans x2
    have big : ∀ z : Str, (cs z).length ≤ 10 → Q (.str z) H2 := fun z hz => by rw [S_cs z]; exact q _ _ fin hz
    rcases (by omega : r2 = 0 ∨ r2 = 1 ∨ r2 = 2 ∨ r2 = 3 ∨ r2 = 4 ∨ r2 = 5) with rfl | rfl | rfl | rfl | rfl | rfl
    all_goals exact ⟨p, _, _, _, rfl, rfl, SqT.of ht, rfl, big _ (by decide +kernel)⟩
  · refine ⟨_, rfl, _, _, rfl, rfl, by decide +kernel, ?_⟩
    generalize hz : (Str.ofString " !\"#$&'()*+,-./0123456789:;<=>?@ABCDEFGHIJKLMNOPQRSTUVWXYZ[\\]^_`") ++ (Str.ofString "abcdefghijklmnopqrstuvwxyz{|}~\n") = z
    have hz1 : z.length ≤ 1000 ∧ 0 < z.length := by rw [← hz]; decide +kernel
    have lim : (1000 : Nat) ≤ sizeLine := by decide
    refine ⟨⟨_, rfl⟩, _, rfl, b, 6, rfl, x1.b1, by decide, by decide, fun n H2 n0 n1 x2 => ?_⟩
    refine ⟨n, rfl, by omega, by omega, fun D1 hD1 => ?_⟩
    have nD : D1 ≠ b := x2.b1.ne hD1
    refine lc_it walk_range (fun i H' => Stp b H2 H' ∧ ∃ l : List Nat, l.length = i ∧ H' D1 = some (.lst (l.map fun c => .str (S [c])))) ⟨(Stp.refl x2.b1).new hD1, [], rfl, upd_same⟩ (fun _ _ _ _ => trivial) ?_ ?_
    · rintro i x H3 H4 hi ⟨x3, l, hl, hl1⟩ ⟨rfl, rfl⟩
      refine ⟨rfl, iteT (B := True) (iteT ?_)⟩
      refine ⟨_, rfl, _, rfl, _, rfl, z, rfl, by omega, b, _, rfl, x3.b1, by omega, by omega, fun r5 H5 r50 r51 x5 => ?_⟩
      obtain ⟨e, he⟩ := at_str (z := z) r50 r51
      refine ⟨z, r5, e, rfl, rfl, by omega, he, _, x5.keep _ _ nD hl1, by rw [List.length_map]; omega, (x3.trans x5).grow hD1 nD, l ++ [e], by simp [hl], ?_⟩
      rw [upd_same, List.map_append]; rfl
    · rintro H3 ⟨x3, l, hl, hl1⟩
      refine ⟨_, D1, l.map fun c => S [c], rfl, rfl, .inl (SqL.of (by rw [hl1, List.map_map]; rfl)), join_lim (by omega), ?_⟩
      · have e : Txt.join (Str.ofString "") (l.map fun c => S [c]) = S l := join_one l
        rw [e]; exact q _ _ (x1.trans (x2.trans x3)) (by omega)
theorem ok__law_name (T : Txt K w mg) (O : OkD P w K mg base CX0 1 "_law_take" p__law_take spTake) : OkD P w K mg base CX0 2 "_law_name" p__law_name spWord := by
  refine T.g__law_name.ok sc__law_name (fun vs H Q E h => ?_) (fun f cdv A outer s H vs Q E hr h => ?_)
  · obtain ⟨b, rfl, _⟩ := h; rfl
  obtain ⟨b, rfl, hb, q⟩ := h
  refine ⟨_, (pss_cons (ps_set (i := 1) sc__law_name.nd rfl (.inr rfl) pe_str)
      (pss_one (ps_ret (pe_join pe_str (pe_lc (own := [("k", 2)]) (g := gName 2) (tt := tYes) rfl sc__law_name.nd (pi_range1 rfl T.z_range (pa_cons (pe_op op_add pe_int (pcall O hr (pa_cons (pv 0) (pa_cons pe_int pa_nil)))) pa_nil)) (blkOk_by (own := [("k", 2)]) (N := n__law_name) (sc := defScope s__law_name) (by decide +kernel))
        (fun _ _ _ _ _ => (pg_name (i := 2) sc__law_name.nd rfl (Or.inl rfl))) (fun _ _ _ _ _ => pts_nil) (fun _ _ _ _ _ => (pe_ix ix_str (pv 1) (pcall O hr (pa_cons (pv 0) (pa_cons pe_int pa_nil))) (fun _ _ => rfl)))))))), ?_⟩
  generalize hz : (Str.ofString "abcdefghijklmnopqrstuvwxyz_") = z
  have hz1 : z.length = 27 := by rw [← hz]; decide +kernel
  have lim : (1000 : Nat) ≤ sizeLine := by decide
  refine ⟨⟨_, rfl⟩, _, rfl, b, 3, rfl, hb, by decide, by decide, fun n H2 n0 n1 x2 => ⟨_, _, rfl, rfl, ?_⟩⟩
  refine ⟨1 + n, rfl, by omega, by omega, fun D1 hD1 => ?_⟩
  have nD : D1 ≠ b := x2.b1.ne hD1
  refine lc_it walk_range (fun i H' => Stp b H2 H' ∧ ∃ l : List Nat, l.length = i ∧ H' D1 = some (.lst (l.map fun c => .str (S [c])))) ⟨(Stp.refl x2.b1).new hD1, [], rfl, upd_same⟩ (fun _ _ _ _ => trivial) ?_ ?_
  · rintro i x H3 H4 hi ⟨x3, l, hl, hl1⟩ ⟨rfl, rfl⟩
    refine ⟨rfl, iteT (B := True) (iteT ?_)⟩
    refine ⟨_, rfl, _, rfl, b, 27, rfl, x3.b1, by omega, by omega, fun r5 H5 r50 r51 x5 => ?_⟩
    obtain ⟨e, he⟩ := at_str (z := z) r50 (by omega)
    refine ⟨z, r5, e, rfl, rfl, by omega, he, _, x5.keep _ _ nD hl1, by rw [List.length_map]; omega, (x3.trans x5).grow hD1 nD, l ++ [e], by simp [hl], ?_⟩
    rw [upd_same, List.map_append]; rfl
  · rintro H3 ⟨x3, l, hl, hl1⟩
    refine ⟨_, D1, l.map fun c => S [c], rfl, rfl, .inl (SqL.of (by rw [hl1, List.map_map]; rfl)), join_lim (by omega), ?_⟩
    have e : Txt.join (Str.ofString "") (l.map fun c => S [c]) = S l := join_one l
    rw [e]; exact q _ _ (x2.trans x3) (by omega)
end
end D0
namespace D0
open PySem PySem.Spec PyProof.Rows L2 SX NumText
theorem wRef_e : wRef = cs (Str.ofString "ref") := by decide +kernel
theorem wHandled_e : wHandled = cs (Str.ofString "handled") := by decide +kernel
theorem wPending_e : wPending = cs (Str.ofString "pending") := by decide +kernel
theorem Rep.two {H : Hp} {a : Addr} {x y : V} {d e : D} (h : H a = some (.tup [x, y])) (r : Rep H x d) (s : Rep H y e) : Rep H (.ref a) (.tup [d, e]) := .tup h (by show 2 ≤ 2000; decide) (.cons r (.cons s .nil))
theorem Rep.one {H : Hp} {a : Addr} {x : V} {d : D} (h : H a = some (.tup [x])) (r : Rep H x d) : Rep H (.ref a) (.tup [d]) := .tup h (by show 1 ≤ 2000; decide) (.cons r .nil)
theorem Rep.three {H : Hp} {a : Addr} {x y z : V} {d e f : D} (h : H a = some (.tup [x, y, z])) (r : Rep H x d) (s : Rep H y e) (t : Rep H z f) : Rep H (.ref a) (.tup [d, e, f]) := .tup h (by show 3 ≤ 2000; decide) (.cons r (.cons s (.cons t .nil)))
theorem deps1 (d : D) : deps [d] = dep d := by unfold deps; unfold deps; omega
section
variable {P : Program} {w : World} {K : PySem.W.Frag} {mg : Str → Option Value} {base : Heap}
theorem ok__law_plain (T : Txt K w mg) (O : OkD P w K mg base CX0 1 "_law_take" p__law_take spTake) (Ow : OkD P w K mg base CX0 2 "_law_word" p__law_word spWord) : OkD P w K mg base CX0 3 "_law_plain" p__law_plain spPlain := by
  refine T.g__law_plain.ok sc__law_plain (fun vs H Q E h => ?_) (fun f cdv A outer s H vs Q E hr h => ?_)
  · obtain ⟨b, rfl, _⟩ := h; rfl
  obtain ⟨b, rfl, hb, q⟩ := h
  refine ⟨_, (pss_cons (ps_set (i := 1) sc__law_plain.nd rfl (.inl rfl) (pcall O hr (pa_cons (pv 0) (pa_cons pe_int pa_nil))))
      (pss_cons (ps_if (pt_cmpR op_lt (pv 1) pe_int (nomark _)) (pss_cons (ps_set (i := 2) sc__law_plain.nd rfl (.inl rfl) (pe_tup (pa_cons (pe_tup (pa_cons pe_str pa_nil)) (pa_cons (pe_tup (pa_cons pe_str (pa_cons pe_bl pa_nil))) (pa_cons (pe_tup (pa_cons pe_str (pa_cons pe_bl pa_nil))) pa_nil)))))
      (pss_one (ps_ret (pe_ix ix_tup (pv 2) (pv 1) (fun _ _ => rfl))))) pss_nil)
      (pss_cons (ps_if (pt_cmpR op_lt (pv 1) pe_int (nomark _)) (pss_one (ps_ret (pe_tup (pa_cons pe_str (pa_cons (pcall O hr (pa_cons (pv 0) (pa_cons pe_int pa_nil))) pa_nil))))) pss_nil)
      (pss_cons (ps_if (pt_cmpR op_eq (pv 1) pe_int (nomark _)) (pss_one (ps_ret (pe_tup (pa_cons pe_str (pa_cons (pe_op op_sub (pcall O hr (pa_cons (pv 0) (pa_cons pe_int pa_nil))) pe_int) pa_nil))))) pss_nil)
      (pss_cons (ps_if (pt_cmpR op_eq (pv 1) pe_int (nomark _)) (pss_one (ps_ret (pe_tup (pa_cons pe_str (pa_cons (pe_op op_mul (pe_op op_sub (pe_op op_sub (pe_op op_pow pe_int pe_int) pe_int) (pcall O hr (pa_cons (pv 0) (pa_cons pe_int pa_nil)))) (pe_op op_sub pe_int (pe_op op_mul pe_int (pcall O hr (pa_cons (pv 0) (pa_cons pe_int pa_nil)))))) pa_nil))))) pss_nil)
      (pss_cons (ps_if (pt_cmpR op_eq (pv 1) pe_int (nomark _)) (pss_cons (ps_set (i := 3) sc__law_plain.nd rfl (.inl rfl) (pe_tup (pa_cons pe_str (pa_cons pe_str (pa_cons pe_str pa_nil)))))
      (pss_one (ps_ret (pe_tup (pa_cons pe_str (pa_cons (pe_ix ix_tup (pv 3) (pcall O hr (pa_cons (pv 0) (pa_cons pe_int pa_nil))) (fun _ _ => rfl)) pa_nil)))))) pss_nil)
      (pss_cons (ps_if (pt_cmpR op_eq (pv 1) pe_int (nomark _)) (pss_cons (ps_set (i := 3) sc__law_plain.nd rfl (.inl rfl) (pe_tup (pa_cons pe_str (pa_cons pe_str (pa_cons pe_str pa_nil)))))
      (pss_one (ps_ret (pe_tup (pa_cons pe_str (pa_cons (pe_ix ix_tup (pv 3) (pcall O hr (pa_cons (pv 0) (pa_cons pe_int pa_nil))) (fun _ _ => rfl)) pa_nil)))))) pss_nil)
      (pss_one (ps_ret (pe_tup (pa_cons pe_str (pa_cons (pcall Ow hr (pa_cons (pv 0) pa_nil)) pa_nil)))))))))))), ?_⟩
  have two : 2 ≤ sizeLine := by decide
  have one : 1 ≤ sizeLine := by decide
  have three : 3 ≤ sizeLine := by decide
  refine ⟨_, rfl, b, 10, rfl, hb, by decide, by decide, fun way H1 r0 r1 x1 => ?_⟩
  -- a pair is told
  have pair : ∀ (H2 : Hp) (z : Str) (v : V) (d : D), Stp b H H2 → OthOk (cs z) [d] → Rep H2 v d → [V.str z, v].length ≤ sizeLine ∧ ∀ p, H2 p = none → Q (.ref p) (upd H2 p (.tup [.str z, v])) := fun H2 z v d x2 oo rv =>
    ⟨two, fun p hp => q _ _ _ _ (x2.new hp) oo (Rep.two upd_same (Rep.sv z) (rv.mono (.new hp)))⟩
  have oth : ∀ (z : String) (d : D), z = "number" ∨ z = "truth" ∨ z = "builtin" ∨ z = "errorclass" ∨ z = "text" → dep d = 0 → OthOk (cs (Str.ofString z)) [d] := fun z d hz hd =>
    ⟨by rw [wRef_e]; rcases hz with rfl | rfl | rfl | rfl | rfl <;> decide +kernel, by rw [wHandled_e]; rcases hz with rfl | rfl | rfl | rfl | rfl <;> decide +kernel, by rw [wPending_e]; rcases hz with rfl | rfl | rfl | rfl | rfl <;> decide +kernel, by rw [deps1]; exact hd⟩
  have dI : ∀ i, dep (.int i) = 0 := fun i => by unfold dep; rfl
  have dS : ∀ i, dep (.str i) = 0 := fun i => by unfold dep; rfl
  have dB : ∀ i, dep (.bl i) = 0 := fun i => by unfold dep; rfl
  refine ⟨_, rfl, _, _, rfl, rfl, _, rfl, ite2 (fun c => ?_) (fun _ => ?_)⟩
  · have c : way < 3 := of_decide_eq_true c
    refine ⟨one, fun p1 hp1 => ⟨two, fun p2 hp2 => ⟨two, fun p3 hp3 => ⟨three, fun p hp => ?_⟩⟩⟩⟩
    have n12 := Tups.new (o := HO.tup [V.str (Str.ofString "truth"), V.bl true]) hp2
    have n23 := Tups.new (o := HO.tup [V.str (Str.ofString "truth"), V.bl false]) hp3
    have n3 := Tups.new (o := HO.tup [V.ref p1, V.ref p2, V.ref p3]) hp
    have t1 := (n12.trans (n23.trans n3)) p1 _ upd_same
    have t2 := (n23.trans n3) p2 _ upd_same
    have t3 := n3 p3 _ upd_same
    have xs := (((x1.new hp1).new hp2).new hp3).new (o := HO.tup [V.ref p1, V.ref p2, V.ref p3]) hp
    refine ⟨_, rfl, _, rfl, ?_⟩
    rcases (by omega : way = 0 ∨ way = 1 ∨ way = 2) with rfl | rfl | rfl
    · refine ⟨p, _, _, _, rfl, rfl, SqT.of upd_same, rfl, q _ _ [] _ xs ⟨?_, ?_, ?_, by unfold deps; rfl⟩ (Rep.one t1 (Rep.sv _))⟩
      · rw [wRef_e]; decide +kernel
      · rw [wHandled_e]; decide +kernel
      · rw [wPending_e]; decide +kernel
    · exact ⟨p, _, _, _, rfl, rfl, SqT.of upd_same, rfl, q _ _ _ _ xs (oth "truth" _ (.inr (.inl rfl)) (dB _)) (Rep.two t2 (Rep.sv _) (.bl _))⟩
    · exact ⟨p, _, _, _, rfl, rfl, SqT.of upd_same, rfl, q _ _ _ _ xs (oth "truth" _ (.inr (.inl rfl)) (dB _)) (Rep.two t3 (Rep.sv _) (.bl _))⟩
  refine ⟨_, rfl, _, _, rfl, rfl, _, rfl, ite2 (fun c => ?_) (fun _ => ?_)⟩
  · refine ⟨_, rfl, b, 4, rfl, x1.b1, by decide, by decide, fun r H2 _ _ x2 => ?_⟩
    exact pair _ _ _ _ (x1.trans x2) (oth "number" _ (.inl rfl) (dI r)) (.int r)
  refine ⟨_, rfl, rfl, _, rfl, ite2 (fun c => ?_) (fun _ => ?_)⟩
  · refine ⟨_, rfl, b, 2001, rfl, x1.b1, by decide, by decide, fun r H2 _ _ x2 => ⟨_, _, rfl, rfl, ?_⟩⟩
    exact pair _ _ _ _ (x1.trans x2) (oth "number" _ (.inl rfl) (dI _)) (.int _)
  refine ⟨_, rfl, rfl, _, rfl, ite2 (fun c => ?_) (fun _ => ?_)⟩
  · refine ⟨_, _, rfl, rfl, ⟨by decide, by decide, by decide⟩, _, _, rfl, rfl, _, rfl, b, 3, rfl, x1.b1, by decide, by decide, fun r H2 _ _ x2 => ⟨_, _, rfl, rfl, ?_⟩⟩
    refine ⟨_, rfl, b, 2, rfl, x2.b1, by decide, by decide, fun r3 H3 r30 r31 x3 => ⟨_, _, rfl, rfl, .inl ⟨by decide, by decide⟩, _, _, rfl, rfl, _, _, rfl, rfl, .inr ⟨by omega, by omega⟩, ?_⟩⟩
    exact pair _ _ _ _ (x1.trans (x2.trans x3)) (oth "number" _ (.inl rfl) (dI _)) (.int _)
  refine ⟨_, rfl, rfl, _, rfl, ite2 (fun c => ?_) (fun _ => ?_)⟩
  · refine ⟨three, fun p hp => ⟨_, rfl, _, rfl, b, 3, rfl, (x1.new hp).b1, by decide, by decide, fun r H2 r0 r1 x2 => ?_⟩⟩
    have ht := x2.tups p _ upd_same
    have fin := (x1.new hp).trans x2
    rcases (by omega : r = 0 ∨ r = 1 ∨ r = 2) with rfl | rfl | rfl
    all_goals exact ⟨p, _, _, _, rfl, rfl, SqT.of ht, rfl, pair _ _ _ _ fin (oth "builtin" _ (.inr (.inr (.inl rfl))) (dS _)) (Rep.sv _)⟩
  refine ⟨_, rfl, rfl, _, rfl, ite2 (fun c => ?_) (fun _ => ?_)⟩
  · refine ⟨three, fun p hp => ⟨_, rfl, _, rfl, b, 3, rfl, (x1.new hp).b1, by decide, by decide, fun r H2 r0 r1 x2 => ?_⟩⟩
    have ht := x2.tups p _ upd_same
    have fin := (x1.new hp).trans x2
    rcases (by omega : r = 0 ∨ r = 1 ∨ r = 2) with rfl | rfl | rfl
    all_goals exact ⟨p, _, _, _, rfl, rfl, SqT.of ht, rfl, pair _ _ _ _ fin (oth "errorclass" _ (.inr (.inr (.inr (.inl rfl)))) (dS _)) (Rep.sv _)⟩
  · refine ⟨_, rfl, b, rfl, x1.b1, fun l H2 x2 _ => ?_⟩
    exact pair _ _ _ _ (x1.trans x2) (oth "text" _ (.inr (.inr (.inr (.inr rfl)))) (dS l)) (.str l)
end
end D0
namespace D0
open PySem PySem.Spec PyProof.Rows L2 SX NumText
def sRef : Str := "ref"
def sHandled : Str := "handled"
def sPending : Str := "pending"
theorem rep_ref {H : Hp} {f : Nat → Int} {a : Addr} {k : Nat} {i : Int} (h : H a = some (.tup [.str sRef, .int i])) (e : i = f k) : Rep H (.ref a) ((En.ref k).d f) := by
  subst e
  show Rep H (.ref a) (.tup [.str wRef, .int (f k)])
  rw [wRef_e]; exact Rep.two h (Rep.sv _) (.int _)
theorem rep_hand {H : Hp} {f : Nat → Int} {a : Addr} {k : Nat} {i : Int} (h : H a = some (.tup [.str sHandled, .int i])) (e : i = f k) : Rep H (.ref a) ((En.hand k).d f) := by
  subst e
  show Rep H (.ref a) (.tup [.str wHandled, .int (f k)])
  rw [wHandled_e]; exact Rep.two h (Rep.sv _) (.int _)
theorem rep_pend {H : Hp} {f : Nat → Int} {a : Addr} {i : Int} {v : V} {e : En} (h : H a = some (.tup [.str sPending, .int i, v])) (r : Rep H v (e.d f)) : Rep H (.ref a) ((Ent.pend i e).d f) := by
  show Rep H (.ref a) (.tup [.str wPending, .int i, e.d f])
  rw [wPending_e]; exact Rep.three h (Rep.sv _) (.int _) r
/-- the kinds -/
def KS : List Str := ["list", "tuple", "dict", "cell", "function", "method", "class", "instance", "iterator", "generator"]
def KX : List Str := ["generator", "generator", "instance", "instance"]
theorem kx_in : ∀ z ∈ KS ++ KX, z ∈ KS := by decide +kernel
def spKinds : Sp := fun vs H Q _ => vs = [] ∧ ∀ p H', Same H H' → H' p = some (.tup (KS.map V.str)) → Q (.ref p) H'
def spKind : Sp := fun vs H Q _ => ∃ (b : Addr), vs = [.ref b] ∧ Bag H b ∧ ∀ z H', Stp b H H' → z ∈ KS → Q (.str z) H'
def spMarks : Sp := fun vs H Q _ => ∃ (z : Str), vs = [.str z] ∧ ∀ i, Q (.int i) H
/-- a list of places below m -/
def Pool (H : Hp) (b pl : Addr) (m : Nat) : Prop := pl ≠ b ∧ ∃ ks : List Nat, H pl = some (.lst (ks.map fun k => .int (k : Nat))) ∧ (∀ k ∈ ks, k < m) ∧ ks.length ≤ 1000
theorem Pool.stp {H H' : Hp} {b pl : Addr} {m : Nat} (x : Pool H b pl m) (s : Stp b H H') : Pool H' b pl m := by
  obtain ⟨n, ks, h, u⟩ := x
  exact ⟨n, ks, s.keep _ _ n h, u⟩
def spPending : Sp := fun vs H Q _ => ∃ (b pl er : Addr) (m : Nat), vs = [.ref b, .ref pl, .ref er] ∧ Bag H b ∧ Pool H b pl m ∧ Pool H b er m ∧ ∀ v (e : Ent) H', Stp b H H' → e.ok m → Rep H' v (e.d ixD) → Q v H'
def spMarked : Sp := fun vs H Q _ => ∃ (b pl er : Addr) (m : Nat) (i : Int), vs = [.ref b, .ref pl, .ref er, .int i] ∧ Bag H b ∧ Pool H b pl m ∧ Pool H b er m ∧ ∀ v (e : Ent) H', Stp b H H' → e.ok m → Rep H' v (e.d ixD) → Q v H'
theorem via2 {B G : Prop} (h : B → G) (b : B) : G := h b
section
variable {P : Program} {w : World} {K : PySem.W.Frag} {mg : Str → Option Value} {base : Heap}
theorem ok__law_kinds (T : Txt K w mg) : OkD P w K mg base CX0 1 "_law_kinds" p__law_kinds spKinds := by
  refine T.g__law_kinds.ok sc__law_kinds (fun vs H Q E h => ?_) (fun f cdv A outer s H vs Q E hr h => ?_)
  · obtain ⟨rfl, _⟩ := h; rfl
  obtain ⟨rfl, q⟩ := h
  refine ⟨_, (pss_cons (ps_set (i := 0) sc__law_kinds.nd rfl (.inl rfl) (pe_tup (pa_cons pe_str (pa_cons pe_str (pa_cons pe_str (pa_cons pe_str (pa_cons pe_str pa_nil)))))))
      (pss_one (ps_ret (pe_op op_catT (pv 0) (pe_tup (pa_cons pe_str (pa_cons pe_str (pa_cons pe_str (pa_cons pe_str (pa_cons pe_str pa_nil)))))))))), ?_⟩
  refine ⟨by show 5 ≤ sizeLine; decide, fun p hp => ⟨_, rfl, by show 5 ≤ sizeLine; decide, fun p2 hp2 => ?_⟩⟩
  refine ⟨p, p2, _, _, rfl, rfl, SqT.of (same_new hp2 _ _ _ upd_same), SqT.of upd_same, (by intro z; cases z), (by show 10 ≤ sizeLine; decide), (fun z => by cases z), fun _ p3 hp3 => ?_⟩
  exact q p3 _ ((same_new hp _).trans ((same_new hp2 _).trans (same_new hp3 _))) upd_same
theorem ok__law_kind (T : Txt K w mg) (O : OkD P w K mg base CX0 1 "_law_take" p__law_take spTake) (Ok : OkD P w K mg base CX0 1 "_law_kinds" p__law_kinds spKinds) : OkD P w K mg base CX0 2 "_law_kind" p__law_kind spKind := by
  refine T.g__law_kind.ok sc__law_kind (fun vs H Q E h => ?_) (fun f cdv A outer s H vs Q E hr h => ?_)
  · obtain ⟨b, rfl, _⟩ := h; rfl
  obtain ⟨b, rfl, hb, q⟩ := h
  refine ⟨_, (pss_cons (ps_set (i := 1) sc__law_kind.nd rfl (.inl rfl) (pe_op op_catT (pcall0 Ok hr) (pe_tup (pa_cons pe_str (pa_cons pe_str (pa_cons pe_str (pa_cons pe_str pa_nil)))))))
      (pss_one (ps_ret (pe_ix ix_tup (pv 1) (pcall O hr (pa_cons (pv 0) (pa_cons pe_int pa_nil))) (fun _ _ => rfl))))), ?_⟩
  refine ⟨rfl, fun p H1 s1 h1 => ⟨by show 4 ≤ sizeLine; decide, fun p2 hp2 => ?_⟩⟩
  refine ⟨p, p2, _, _, rfl, rfl, SqT.of (same_new hp2 _ _ _ h1), SqT.of upd_same, (by intro z; cases z), (by show 14 ≤ sizeLine; decide), (fun z => by cases z), fun _ p3 hp3 => ?_⟩
  have st : Stp b H _ := (Stp.same hb s1).trans (.same (hb.same s1) ((same_new hp2 (.tup (KX.map V.str))).trans (same_new hp3 (.tup ((KS ++ KX).map V.str)))))
  refine ⟨_, rfl, _, rfl, b, 14, rfl, st.b1, by decide, by decide, fun r H2 r0 r1 x2 => ?_⟩
  obtain ⟨k, rfl⟩ : ∃ k : Nat, r = (k : Int) := ⟨r.toNat, by omega⟩
  have hk : k < (KS ++ KX).length := by show k < 14; omega
  refine ⟨p3, _, _, .str (KS ++ KX)[k], rfl, rfl, SqT.of (x2.tups p3 ((KS ++ KX).map V.str) upd_same), atI_nat (by rw [List.getElem?_map, List.getElem?_eq_getElem hk]; rfl), ?_⟩
  exact q _ _ (st.trans x2) (kx_in _ (List.getElem_mem hk))
theorem ok__law_marks (T : Txt K w mg) : OkD P w K mg base CX0 1 "_law_marks" p__law_marks spMarks := by
  refine T.g__law_marks.ok sc__law_marks (fun vs H Q E h => ?_) (fun f cdv A outer s H vs Q E hr h => ?_)
  · obtain ⟨z, rfl, _⟩ := h; rfl
  obtain ⟨z, rfl, q⟩ := h
  refine ⟨_, (pss_one (ps_ret (pe_op op_add (pe_op op_mul pe_int (pe_callTy call_int1 (by rfl) T.z_int PyProof.Rows.boot_int (pa_cons (pe_cmpR op_eq (pv 0) pe_str (nomark _)) pa_nil))) (pe_callTy call_int1 (by rfl) T.z_int PyProof.Rows.boot_int (pa_cons (pe_cmpR op_eq (pv 0) pe_str (nomark _)) pa_nil))))), ?_⟩
  refine ⟨_, rfl, rfl, .inr ⟨_, rfl, _, _, rfl, rfl, .inl ⟨by decide, by decide⟩, _, rfl, rfl, .inr ⟨_, rfl, _, _, rfl, rfl, q _⟩⟩⟩
theorem ok__law_pending (T : Txt K w mg) (O : OkD P w K mg base CX0 1 "_law_take" p__law_take spTake) (Op : OkD P w K mg base CX0 3 "_law_plain" p__law_plain spPlain) : OkD P w K mg base CX0 4 "_law_pending" p__law_pending spPending := by
  refine T.g__law_pending.ok sc__law_pending (fun vs H Q E h => ?_) (fun f cdv A outer s H vs Q E hr h => ?_)
  · obtain ⟨b, pl, er, m, rfl, _⟩ := h; rfl
  obtain ⟨b, pl, er, m, rfl, hb, hp, he, q⟩ := h
  refine ⟨_, (pss_cons (ps_set (i := 3) sc__law_pending.nd rfl (.inl rfl) (pcall O hr (pa_cons (pv 0) (pa_cons pe_int pa_nil))))
      (pss_cons (ps_if (PW.pt (pw_and (pt_cmpR op_lt (pv 3) pe_int (nomark _)) (pw_and1 (pt_truth (pv 2) (by intro _; rfl))))) (pss_one (ps_ret (pe_tup (pa_cons pe_str (pa_cons pe_int (pa_cons (pe_tup (pa_cons pe_str (pa_cons (pe_ix ix_list (pv 2) (pcall O hr (pa_cons (pv 0) (pa_cons (pe_callB call_len_seq (by rfl) T.z_len PySem.boot_len (pa_cons (pv 2) pa_nil)) pa_nil))) (fun _ _ => rfl)) pa_nil))) pa_nil)))))) pss_nil)
      (pss_cons (ps_if (PW.pt (pw_and (pt_cmpR op_lt (pv 3) pe_int (nomark _)) (pw_and1 (pt_truth (pv 1) (by intro _; rfl))))) (pss_one (ps_ret (pe_tup (pa_cons pe_str (pa_cons pe_int (pa_cons (pe_tup (pa_cons pe_str (pa_cons (pe_ix ix_list (pv 1) (pcall O hr (pa_cons (pv 0) (pa_cons (pe_callB call_len_seq (by rfl) T.z_len PySem.boot_len (pa_cons (pv 1) pa_nil)) pa_nil))) (fun _ _ => rfl)) pa_nil))) pa_nil)))))) pss_nil)
      (pss_cons (ps_if (pt_cmpR op_eq (pv 3) pe_int (nomark _)) (pss_one (ps_ret (pe_tup (pa_cons pe_str (pa_cons pe_int (pa_cons (pcall Op hr (pa_cons (pv 0) pa_nil)) pa_nil)))))) pss_nil)
      (pss_cons (ps_set (i := 4) sc__law_pending.nd rfl (.inl rfl) (pe_tup (pa_cons pe_int (pa_cons pe_int (pa_cons pe_int (pa_cons pe_int (pa_cons pe_int (pa_cons pe_int (pa_cons pe_int (pa_cons pe_int pa_nil))))))))))
      (pss_one (ps_ret (pe_tup (pa_cons pe_str (pa_cons (pe_ix ix_tup (pv 4) (pv 3) (fun _ _ => rfl)) (pa_cons (pe_tup (pa_cons pe_str pa_nil)) pa_nil))))))))))), ?_⟩
  have two : 2 ≤ sizeLine := by decide
  have one : 1 ≤ sizeLine := by decide
  have three : 3 ≤ sizeLine := by decide
  refine ⟨_, rfl, b, 8, rfl, hb, by decide, by decide, fun way H1 r0 r1 x1 => ?_⟩
  have pend : ∀ (H2 : Hp) (i : Int) (v : V) (e : En), Stp b H H2 → e.ok m → Rep H2 v (e.d ixD) → [V.str sPending, .int i, v].length ≤ sizeLine ∧ ∀ p, H2 p = none → Q (.ref p) (upd H2 p (.tup [.str sPending, .int i, v])) := fun H2 i v e x2 oo rv =>
    ⟨three, fun p hp => q _ (.pend i e) _ (x2.new hp) oo (rep_pend upd_same (rv.mono (.new hp)))⟩
  obtain ⟨np, ps, hp1, hpm, hpl⟩ := hp.stp x1
  obtain ⟨ne, es, he1, hem, hel⟩ := he.stp x1
  have lim : (1000 : Nat) ≤ sizeLine := by decide
  have bl : ∀ (l : List Nat), l.length ≤ 1000 → ((l.map fun k => V.int (k : Nat)).length : Int) < 1000000000 := fun l h => by rw [List.length_map]; omega
  refine via2 (fun hB => ⟨_, rfl, _, _, rfl, rfl, _, rfl, ite2 (fun c => ⟨_, rfl, _, .inl ⟨_, SqL.of he1, rfl⟩, ite2 (fun k => ?_) (fun _ => hB)⟩) (fun _ => hB)⟩) ?_
  · have k0 : 0 < es.length := by cases es with | nil => exact absurd k (by decide) | cons => simp
    refine ⟨_, rfl, _, rfl, _, rfl, er, _, rfl, .inl (SqL.of he1), b, _, rfl, x1.b1, (by rw [List.length_map]; omega), bl es hel, fun r H2 r20 r21 x2 => ?_⟩
    rw [List.length_map] at r21
    obtain ⟨j, rfl⟩ : ∃ j : Nat, r = (j : Int) := ⟨r.toNat, by omega⟩
    have hj : j < es.length := by omega
    refine ⟨er, _, _, .int (es[j] : Nat), rfl, rfl, SqL.of (x2.keep _ _ ne he1), atI_nat (by rw [List.getElem?_map, List.getElem?_eq_getElem hj]; rfl), two, fun p hp => ?_⟩
    exact pend _ 4 _ (.hand es[j]) ((x1.trans x2).new hp) (hem _ (List.getElem_mem hj)) (rep_hand upd_same rfl)
  refine via2 (fun hB => ⟨_, rfl, _, _, rfl, rfl, _, rfl, ite2 (fun c => ⟨_, rfl, _, .inl ⟨_, SqL.of hp1, rfl⟩, ite2 (fun k => ?_) (fun _ => hB)⟩) (fun _ => hB)⟩) ?_
  · have k0 : 0 < ps.length := by cases ps with | nil => exact absurd k (by decide) | cons => simp
    refine ⟨_, rfl, _, rfl, _, rfl, pl, _, rfl, .inl (SqL.of hp1), b, _, rfl, x1.b1, (by rw [List.length_map]; omega), bl ps hpl, fun r H2 r20 r21 x2 => ?_⟩
    rw [List.length_map] at r21
    obtain ⟨j, rfl⟩ : ∃ j : Nat, r = (j : Int) := ⟨r.toNat, by omega⟩
    have hj : j < ps.length := by omega
    refine ⟨pl, _, _, .int (ps[j] : Nat), rfl, rfl, SqL.of (x2.keep _ _ np hp1), atI_nat (by rw [List.getElem?_map, List.getElem?_eq_getElem hj]; rfl), two, fun p hp => ?_⟩
    exact pend _ 1 _ (.ref ps[j]) ((x1.trans x2).new hp) (hpm _ (List.getElem_mem hj)) (rep_ref upd_same rfl)
  refine ⟨_, rfl, rfl, _, rfl, ite2 (fun c => ?_) (fun _ => ?_)⟩
  · refine ⟨_, rfl, b, rfl, x1.b1, fun v l ds H2 x2 oo rv => ?_⟩
    exact pend _ 1 _ (.oth l ds) (x1.trans x2) ⟨oo.n1, oo.n2, oo.n3, oo.dp⟩ rv
  · refine ⟨by show 8 ≤ sizeLine; decide, fun p hp => ?_⟩
    have fin : ∀ (i : Int), [V.str (Str.ofString "none")].length ≤ sizeLine ∧ ∀ p2, upd H1 p (.tup [V.int 0, .int 2, .int 3, .int 0, .int 2, .int 3, .int 0, .int 2]) p2 = none → _ := fun i => ⟨one, fun p2 hp2 => pend _ i _ (.oth (cs (Str.ofString "none")) []) ((x1.new hp).new hp2) ⟨by rw [wRef_e]; decide +kernel, by rw [wHandled_e]; decide +kernel, by rw [wPending_e]; decide +kernel, by unfold deps; rfl⟩ (Rep.one upd_same (Rep.sv _))⟩
    refine ⟨_, rfl, _, rfl, ?_⟩
    rcases (by omega : way = 0 ∨ way = 1 ∨ way = 2 ∨ way = 3 ∨ way = 4 ∨ way = 5 ∨ way = 6 ∨ way = 7) with rfl | rfl | rfl | rfl | rfl | rfl | rfl | rfl
    all_goals exact ⟨p, _, _, _, rfl, rfl, SqT.of upd_same, rfl, fin _⟩
theorem ok__law_marked (T : Txt K w mg) (O : OkD P w K mg base CX0 1 "_law_take" p__law_take spTake) (Op : OkD P w K mg base CX0 3 "_law_plain" p__law_plain spPlain) (On : OkD P w K mg base CX0 4 "_law_pending" p__law_pending spPending) : OkD P w K mg base CX0 5 "_law_marked" p__law_marked spMarked := by
  refine T.g__law_marked.ok sc__law_marked (fun vs H Q E h => ?_) (fun f cdv A outer s H vs Q E hr h => ?_)
  · obtain ⟨b, pl, er, m, i, rfl, _⟩ := h; rfl
  obtain ⟨b, pl, er, m, way, rfl, hb, hp, he, q⟩ := h
  refine ⟨_, (pss_cons (ps_if (PW.pt (pw_and (pt_truth (pv 2) (by intro _; rfl)) (pw_and1 (pt_cmpR op_lt (pv 3) pe_int (nomark _))))) (pss_one (ps_ret (pe_tup (pa_cons pe_str (pa_cons (pe_ix ix_list (pv 2) (pcall O hr (pa_cons (pv 0) (pa_cons (pe_callB call_len_seq (by rfl) T.z_len PySem.boot_len (pa_cons (pv 2) pa_nil)) pa_nil))) (fun _ _ => rfl)) pa_nil))))) pss_nil)
      (pss_cons (ps_if (pt_cmpR op_lt (pv 3) pe_int (nomark _)) (pss_one (ps_ret (pcall On hr (pa_cons (pv 0) (pa_cons (pv 1) (pa_cons (pv 2) pa_nil)))))) pss_nil)
      (pss_cons (ps_if (pt_cmpR op_eq (pv 3) pe_int (nomark _)) (pss_one (ps_ret (pe_tup (pa_cons pe_str pa_nil)))) pss_nil)
      (pss_cons (ps_if (PW.pt (pw_and (pt_truth (pv 1) (by intro _; rfl)) (pw_and1 (pt_cmpR op_lt (pv 3) pe_int (nomark _))))) (pss_one (ps_ret (pe_tup (pa_cons pe_str (pa_cons (pe_ix ix_list (pv 1) (pcall O hr (pa_cons (pv 0) (pa_cons (pe_callB call_len_seq (by rfl) T.z_len PySem.boot_len (pa_cons (pv 1) pa_nil)) pa_nil))) (fun _ _ => rfl)) pa_nil))))) pss_nil)
      (pss_one (ps_ret (pcall Op hr (pa_cons (pv 0) pa_nil)))))))), ?_⟩
  have two : 2 ≤ sizeLine := by decide
  have one : 1 ≤ sizeLine := by decide
  obtain ⟨np, ps, hp1, hpm, hpl⟩ := id hp
  obtain ⟨ne, es, he1, hem, hel⟩ := id he
  have bl : ∀ (l : List Nat), l.length ≤ 1000 → ((l.map fun k => V.int (k : Nat)).length : Int) < 1000000000 := fun l h => by rw [List.length_map]; omega
  refine via2 (fun hB => ⟨_, rfl, _, .inl ⟨_, SqL.of he1, rfl⟩, ite2 (fun k => ⟨_, rfl, _, _, rfl, rfl, _, rfl, ite2 (fun c => ?_) (fun _ => hB)⟩) (fun _ => hB)⟩) ?_
  · have k0 : 0 < es.length := by cases es with | nil => exact absurd k (by decide) | cons => simp
    refine ⟨_, rfl, _, rfl, _, rfl, er, _, rfl, .inl (SqL.of he1), b, _, rfl, hb, (by rw [List.length_map]; omega), bl es hel, fun r H2 r20 r21 x2 => ?_⟩
    rw [List.length_map] at r21
    obtain ⟨j, rfl⟩ : ∃ j : Nat, r = (j : Int) := ⟨r.toNat, by omega⟩
    have hj : j < es.length := by omega
    refine ⟨er, _, _, .int (es[j] : Nat), rfl, rfl, SqL.of (x2.keep _ _ ne he1), atI_nat (by rw [List.getElem?_map, List.getElem?_eq_getElem hj]; rfl), two, fun p hp => ?_⟩
    exact q _ (.pl (.hand es[j])) _ (x2.new hp) (hem _ (List.getElem_mem hj)) (rep_hand upd_same rfl)
  refine ⟨_, rfl, _, _, rfl, rfl, _, rfl, ite2 (fun c => ?_) (fun _ => ?_)⟩
  · exact ⟨_, rfl, _, rfl, _, rfl, b, pl, er, m, rfl, hb, hp, he, q⟩
  refine ⟨_, rfl, rfl, _, rfl, ite2 (fun c => ?_) (fun _ => ?_)⟩
  · refine ⟨one, fun p hp => ?_⟩
    exact q _ (.pl (.oth (cs (Str.ofString "unset")) [])) _ ((Stp.refl hb).new hp) ⟨by rw [wRef_e]; decide +kernel, by rw [wHandled_e]; decide +kernel, by rw [wPending_e]; decide +kernel, by unfold deps; rfl⟩ (Rep.one upd_same (Rep.sv _))
  refine via2 (fun hB => ⟨_, rfl, _, .inl ⟨_, SqL.of hp1, rfl⟩, ite2 (fun k => ⟨_, rfl, _, _, rfl, rfl, _, rfl, ite2 (fun c => ?_) (fun _ => hB)⟩) (fun _ => hB)⟩) ?_
  · have k0 : 0 < ps.length := by cases ps with | nil => exact absurd k (by decide) | cons => simp
    refine ⟨_, rfl, _, rfl, _, rfl, pl, _, rfl, .inl (SqL.of hp1), b, _, rfl, hb, (by rw [List.length_map]; omega), bl ps hpl, fun r H2 r20 r21 x2 => ?_⟩
    rw [List.length_map] at r21
    obtain ⟨j, rfl⟩ : ∃ j : Nat, r = (j : Int) := ⟨r.toNat, by omega⟩
    have hj : j < ps.length := by omega
    refine ⟨pl, _, _, .int (ps[j] : Nat), rfl, rfl, SqL.of (x2.keep _ _ np hp1), atI_nat (by rw [List.getElem?_map, List.getElem?_eq_getElem hj]; rfl), two, fun p hp => ?_⟩
    exact q _ (.pl (.ref ps[j])) _ (x2.new hp) (hpm _ (List.getElem_mem hj)) (rep_ref upd_same rfl)
  · refine ⟨_, rfl, b, rfl, hb, fun v l ds H2 x2 oo rv => ?_⟩
    exact q _ (.pl (.oth l ds)) _ x2 ⟨oo.n1, oo.n2, oo.n3, oo.dp⟩ rv
theorem ok__law_entry (T : Txt K w mg) (O : OkD P w K mg base CX0 1 "_law_take" p__law_take spTake) (Op : OkD P w K mg base CX0 3 "_law_plain" p__law_plain spPlain) (On : OkD P w K mg base CX0 5 "_law_marked" p__law_marked spMarked) : OkD P w K mg base CX0 6 "_law_entry" p__law_entry spMarked := by
  refine T.g__law_entry.ok sc__law_entry (fun vs H Q E h => ?_) (fun f cdv A outer s H vs Q E hr h => ?_)
  · obtain ⟨b, pl, er, m, i, rfl, _⟩ := h; rfl
  obtain ⟨b, pl, er, m, mk, rfl, hb, hp, he, q⟩ := h
  refine ⟨_, (pss_cons (ps_set (i := 4) sc__law_entry.nd rfl (.inl rfl) (pcall O hr (pa_cons (pv 0) (pa_cons pe_int pa_nil))))
      (pss_cons (ps_if (pt_cmpR op_gt (pv 3) pe_int (nomark _)) (pss_one (ps_ret (pcall On hr (pa_cons (pv 0) (pa_cons (pv 1) (pa_cons (pv 2) (pa_cons (pv 4) pa_nil))))))) pss_nil)
      (pss_cons (ps_if (PW.pt (pw_and (pt_truth (pv 1) (by intro _; rfl)) (pw_and1 (pt_cmpR op_lt (pv 4) pe_int (nomark _))))) (pss_one (ps_ret (pe_tup (pa_cons pe_str (pa_cons (pe_ix ix_list (pv 1) (pcall O hr (pa_cons (pv 0) (pa_cons (pe_callB call_len_seq (by rfl) T.z_len PySem.boot_len (pa_cons (pv 1) pa_nil)) pa_nil))) (fun _ _ => rfl)) pa_nil))))) pss_nil)
      (pss_cons (ps_if (PW.pt (pw_and (pt_cmpR op_gt (pv 3) pe_int (nomark _)) (pw_and1 (pt_cmpR op_eq (pv 4) pe_int (nomark _))))) (pss_one (ps_ret (pe_tup (pa_cons pe_str pa_nil)))) pss_nil)
      (pss_one (ps_ret (pcall Op hr (pa_cons (pv 0) pa_nil)))))))), ?_⟩
  have two : 2 ≤ sizeLine := by decide
  have one : 1 ≤ sizeLine := by decide
  refine ⟨_, rfl, b, 10, rfl, hb, by decide, by decide, fun way H1 r0 r1 x1 => ?_⟩
  have hp' := hp.stp x1
  have he' := he.stp x1
  obtain ⟨np, ps, hp1, hpm, hpl⟩ := id hp'
  have bl : ∀ (l : List Nat), l.length ≤ 1000 → ((l.map fun k => V.int (k : Nat)).length : Int) < 1000000000 := fun l h => by rw [List.length_map]; omega
  refine ⟨_, rfl, _, _, rfl, rfl, _, rfl, ite2 (fun c => ?_) (fun _ => ?_)⟩
  · exact ⟨_, rfl, _, rfl, _, rfl, _, rfl, b, pl, er, m, way, rfl, x1.b1, hp', he', fun v e H2 x2 => q v e H2 (x1.trans x2)⟩
  refine via2 (fun hB => ⟨_, rfl, _, .inl ⟨_, SqL.of hp1, rfl⟩, ite2 (fun k => ⟨_, rfl, _, _, rfl, rfl, _, rfl, ite2 (fun c => ?_) (fun _ => hB)⟩) (fun _ => hB)⟩) ?_
  · have k0 : 0 < ps.length := by cases ps with | nil => exact absurd k (by decide) | cons => simp
    refine ⟨_, rfl, _, rfl, _, rfl, pl, _, rfl, .inl (SqL.of hp1), b, _, rfl, x1.b1, (by rw [List.length_map]; omega), bl ps hpl, fun r H2 r20 r21 x2 => ?_⟩
    rw [List.length_map] at r21
    obtain ⟨j, rfl⟩ : ∃ j : Nat, r = (j : Int) := ⟨r.toNat, by omega⟩
    have hj : j < ps.length := by omega
    refine ⟨pl, _, _, .int (ps[j] : Nat), rfl, rfl, SqL.of (x2.keep _ _ np hp1), atI_nat (by rw [List.getElem?_map, List.getElem?_eq_getElem hj]; rfl), two, fun p hp => ?_⟩
    exact q _ (.pl (.ref ps[j])) _ ((x1.trans x2).new hp) (hpm _ (List.getElem_mem hj)) (rep_ref upd_same rfl)
  refine via2 (fun hB => ⟨_, rfl, _, _, rfl, rfl, _, rfl, ite2 (fun k => ⟨_, rfl, rfl, _, rfl, ite2 (fun c => ?_) (fun _ => hB)⟩) (fun _ => hB)⟩) ?_
  · refine ⟨one, fun p hp => ?_⟩
    exact q _ (.pl (.oth (cs (Str.ofString "unset")) [])) _ (x1.new hp) ⟨by rw [wRef_e]; decide +kernel, by rw [wHandled_e]; decide +kernel, by rw [wPending_e]; decide +kernel, by unfold deps; rfl⟩ (Rep.one upd_same (Rep.sv _))
  · refine ⟨_, rfl, b, rfl, x1.b1, fun v l ds H2 x2 oo rv => ?_⟩
    exact q _ (.pl (.oth l ds)) _ (x1.trans x2) ⟨oo.n1, oo.n2, oo.n3, oo.dp⟩ rv
end
end D0
namespace D0
open PySem PySem.Spec PyProof.Rows L2 SX NumText
theorem str_small : ∀ k : Nat, k ≤ 100 → (Str.ofString (toString ((k : Nat) : Int))).length ≤ 5 := by
  have h : ∀ k : Fin 101, (Str.ofString (toString ((k.1 : Nat) : Int))).length ≤ 5 := by decide +kernel
  exact fun k hk => h ⟨k, by omega⟩
def spTag : Sp := fun vs H Q _ => ∃ (b : Addr) (z : Str) (n : Nat), vs = [.ref b, .str z, .int n] ∧ Bag H b ∧ n ≤ 100 ∧ ∀ v d H', Stp b H H' → Rep H' v d → dep d ≤ 3 → Q v H'
theorem reps_strs {H : Hp} : ∀ zs : List Str, Reps H (zs.map V.str) (zs.map fun z => .str (cs z))
  | [] => .nil
  | z :: zs => .cons (Rep.sv z) (reps_strs zs)
theorem deps_strs (zs : List Str) : deps (zs.map fun z => .str (cs z)) ≤ 0 := deps_of fun d hd => by
  obtain ⟨z, _, rfl⟩ := List.mem_map.mp hd
  unfold dep; exact Nat.le_refl _
section
variable {P : Program} {w : World} {K : PySem.W.Frag} {mg : Str → Option Value} {base : Heap}
theorem ok__law_tag (T : Txt K w mg) (O : OkD P w K mg base CX0 1 "_law_take" p__law_take spTake) (On : OkD P w K mg base CX0 2 "_law_name" p__law_name spWord) : OkD P w K mg base CX0 3 "_law_tag" p__law_tag spTag := by
  refine T.g__law_tag.ok sc__law_tag (fun vs H Q E h => ?_) (fun f cdv A outer s H vs Q E hr h => ?_)
  · obtain ⟨b, z, n, rfl, _⟩ := h; rfl
  obtain ⟨b, z, n, rfl, hb, hn, q⟩ := h
  refine ⟨_, (pss_cons (ps_if (pt_cmpR op_in_seq (pv 1) (pe_tup (pa_cons pe_str (pa_cons pe_str (pa_cons pe_str (pa_cons pe_str pa_nil))))) (by rfl)) (pss_one (ps_ret pe_non)) pss_nil)
      (pss_cons (ps_set (i := 3) sc__law_tag.nd rfl (.inr rfl) (pcall On hr (pa_cons (pv 0) pa_nil)))
      (pss_cons (ps_if (pt_cmpR op_eq (pv 1) pe_str (nomark _)) (pss_one (ps_ret (pe_tup (pa_cons (pcall O hr (pa_cons (pv 0) (pa_cons pe_int pa_nil))) (pa_cons (pv 3) pa_nil))))) pss_nil)
      (pss_cons (ps_if (pt_cmpR op_eq (pv 1) pe_str (nomark _)) (pss_one (ps_ret (pv 3))) pss_nil)
      (pss_cons (ps_if (pt_cmpR op_eq (pv 1) pe_str (nomark _)) (pss_one (ps_ret (pe_tup (pa_cons (pe_op op_sub (pcall O hr (pa_cons (pv 0) (pa_cons pe_int pa_nil))) pe_int) (pa_cons (pcall O hr (pa_cons (pv 0) (pa_cons pe_int pa_nil))) pa_nil))))) pss_nil)
      (pss_cons (ps_set (i := 4) sc__law_tag.nd rfl (.inl rfl) (pe_callTy call_tuple_of (by rfl) T.z_tuple PyProof.Rows.boot_tuple (pa_cons (pe_lc (own := [("k", 5)]) (g := gName 5) (tt := tYes) rfl sc__law_tag.nd (pi_range1 rfl T.z_range (pa_cons (pv 2) pa_nil)) (blkOk_by (own := [("k", 5)]) (N := n__law_tag) (sc := defScope s__law_tag) (by decide +kernel))
        (fun _ _ _ _ _ => (pg_name (i := 5) sc__law_tag.nd rfl (Or.inl rfl))) (fun _ _ _ _ _ => pts_nil) (fun _ _ _ _ _ => (pe_op op_add_str (pv 3) (pe_callTy call_str_int (by rfl) T.z_str PyProof.Rows.boot_str (pa_cons (pv 5) pa_nil))))) pa_nil)))
      (pss_cons (ps_if (pt_cmpR op_eq (pv 1) pe_str (nomark _)) (pss_one (ps_ret (pe_tup (pa_cons (pv 3) (pa_cons (pv 4) pa_nil))))) pss_nil)
      (pss_cons (ps_if (pt_cmpR op_eq (pv 1) pe_str (nomark _)) (pss_one (ps_ret (pe_tup (pa_cons (pv 4) (pa_cons (pe_callTy call_tuple_of (by rfl) T.z_tuple PyProof.Rows.boot_tuple (pa_cons (pe_lc (own := [("k", 5)]) (g := gName 5) (tt := tYes) rfl sc__law_tag.nd (pi_range1 rfl T.z_range (pa_cons (pcall O hr (pa_cons (pv 0) (pa_cons pe_int pa_nil))) pa_nil)) (blkOk_by (own := [("k", 5)]) (N := n__law_tag) (sc := defScope s__law_tag) (by decide +kernel))
        (fun _ _ _ _ _ => (pg_name (i := 5) sc__law_tag.nd rfl (Or.inl rfl))) (fun _ _ _ _ _ => pts_nil) (fun _ _ _ _ _ => (pe_tup (pa_cons (pcall On hr (pa_cons (pv 0) pa_nil)) (pa_cons (pcall O hr (pa_cons (pv 0) (pa_cons pe_int pa_nil))) pa_nil))))) pa_nil)) pa_nil))))) pss_nil)
      (pss_one (ps_ret (pe_tup (pa_cons pe_str (pa_cons (pv 3) (pa_cons (pcall O hr (pa_cons (pv 0) (pa_cons pe_int pa_nil))) (pa_cons (pe_tup pa_nil) (pa_cons (pe_tup (pa_cons (pcall O hr (pa_cons (pv 0) (pa_cons pe_int pa_nil))) (pa_cons (pcall O hr (pa_cons (pv 0) (pa_cons pe_int pa_nil))) pa_nil))) pa_nil)))))))))))))))), ?_⟩
  have lim : (1000 : Nat) ≤ sizeLine := by decide
  have dI : ∀ i, dep (.int i) = 0 := fun i => by unfold dep; rfl
  have dS : ∀ i, dep (.str i) = 0 := fun i => by unfold dep; rfl
  have d2 : ∀ a b : D, dep (.tup [a, b]) = 1 + max (dep a) (dep b) := fun a b => by rw [dep_tup]; unfold deps; rw [deps1]
  have two : 2 ≤ sizeLine := by omega
  have pair : ∀ (H2 : Hp) (u v : V) (d e : D), Stp b H H2 → dep d ≤ 2 → dep e ≤ 2 → Rep H2 u d → Rep H2 v e → [u, v].length ≤ sizeLine ∧ ∀ p, H2 p = none → Q (.ref p) (upd H2 p (.tup [u, v])) := fun H2 u v d e x2 h1 h2 r1 r2 =>
    ⟨two, fun p hp => q _ _ _ (x2.new hp) (Rep.two upd_same (r1.mono (.new hp)) (r2.mono (.new hp))) (by rw [d2]; omega)⟩
  refine ⟨_, rfl, by show 4 ≤ sizeLine; omega, fun p0 hp0 => ⟨p0, _, rfl, .inr (SqT.of upd_same), rfl, rfl, _, rfl, ?_⟩⟩
  have x0 := (Stp.refl hb).new (o := HO.tup [V.str (Str.ofString "list"), V.str (Str.ofString "tuple"), V.str (Str.ofString "dict"), V.str (Str.ofString "cell")]) hp0
  refine ite2 (fun _ => q _ .non _ x0 .non (by unfold dep; omega)) (fun _ => ?_)
  refine ⟨_, rfl, b, rfl, x0.b1, fun l H1 x1 hl => ?_⟩
  have x1 := x0.trans x1
  have rl : ∀ H2, Rep H2 (.str (S l)) (.str l) := fun _ => .str l
  refine ⟨_, rfl, rfl, _, rfl, ite2 (fun _ => ?_) (fun _ => ?_)⟩
  · refine ⟨_, rfl, b, 40, rfl, x1.b1, by decide, by decide, fun r H2 _ _ x2 => ⟨_, rfl, ?_⟩⟩
    exact pair _ _ _ (.int r) (.str l) (x1.trans x2) (by rw [dI]; omega) (by rw [dS]; omega) (.int r) (rl _)
  refine ⟨_, rfl, rfl, _, rfl, ite2 (fun _ => ⟨_, rfl, q _ _ _ x1 (rl _) (by rw [dS]; omega)⟩) (fun _ => ?_)⟩
  refine ⟨_, rfl, rfl, _, rfl, ite2 (fun _ => ?_) (fun _ => ?_)⟩
  · refine ⟨_, rfl, b, 9, rfl, x1.b1, by decide, by decide, fun r H2 _ _ x2 => ⟨_, _, rfl, rfl, _, rfl, b, 9, rfl, x2.b1, by decide, by decide, fun r2 H3 _ _ x3 => ?_⟩⟩
    exact pair _ _ _ (.int (r - 1)) (.int r2) (x1.trans (x2.trans x3)) (by rw [dI]; omega) (by rw [dI]; omega) (.int _) (.int _)
  refine ⟨_, rfl, n, rfl, by omega, by omega, fun D1 hD1 => ?_⟩
  have nD : D1 ≠ b := x1.b1.ne hD1
  refine lc_it walk_range (fun i H' => Stp b H1 H' ∧ ∃ zs : List Str, zs.length = i ∧ H' D1 = some (.lst (zs.map V.str))) ⟨(Stp.refl x1.b1).new hD1, [], rfl, upd_same⟩ (fun _ _ _ _ => trivial) ?_ ?_
  · rintro i x H3 H4 hi ⟨x3, zs, hl, hl1⟩ ⟨rfl, rfl⟩
    refine ⟨rfl, iteT (B := True) (iteT ?_)⟩
    have hi' : i < n := by simpa using hi
    refine ⟨_, rfl, _, rfl, _, rfl, ?_, _, _, rfl, rfl, ?_, _, hl1, by rw [List.length_map]; omega, x3.grow hD1 nD, zs ++ [_], by simp [hl], by rw [upd_same, List.map_append]; rfl⟩
    · have := Nat.log2_le_self (0 + (i : Int)).natAbs; omega
    · have := str_small i (by omega)
      have e : (0 + (i : Int)) = ((i : Nat) : Int) := by omega
      rw [e, S_len]; omega
  rintro H2 ⟨x2, zs, hzl, hl1⟩
  refine ⟨D1, _, rfl, .inl ⟨SqL.of hl1, fun pw hpw => ?_⟩⟩
  have x2 := x1.trans (x2.new (o := .tup (zs.map V.str)) hpw)
  have hzl1 : zs.length = n := by simpa using hzl
  have hzl2 : (zs.map V.str).length ≤ 2000 := by rw [List.length_map]; omega
  have hw : ∀ H', Tups (upd H2 pw (.tup (zs.map V.str))) H' → Rep H' (.ref pw) (.tup (zs.map fun z => .str (cs z))) := fun H' t => .tup (t _ _ upd_same) hzl2 (reps_strs zs)
  have dw : dep (.tup (zs.map fun z => .str (cs z))) ≤ 1 := by rw [dep_tup]; have := deps_strs zs; omega
  refine ⟨_, rfl, rfl, _, rfl, ite2 (fun _ => ?_) (fun _ => ?_)⟩
  · refine ⟨_, rfl, _, rfl, ?_⟩
    exact pair _ _ _ (.str l) _ x2 (by rw [dS]; omega) (by omega) (rl _) (hw _ .refl)
  refine ⟨_, rfl, rfl, _, rfl, ite2 (fun _ => ?_) (fun _ => ?_)⟩
  · refine ⟨_, rfl, _, rfl, b, 3, rfl, x2.b1, by decide, by decide, fun m H3 m0 m1 x3 => ⟨m, rfl, by omega, by omega, fun D2 hD2 => ?_⟩⟩
    have nD2 : D2 ≠ b := x3.b1.ne hD2
    refine lc_it walk_range (fun i H' => Stp b H3 H' ∧ ∃ vs ds, H' D2 = some (.lst vs) ∧ Reps H' vs ds ∧ deps ds ≤ 1 ∧ vs.length = i) ⟨(Stp.refl x3.b1).new hD2, [], [], upd_same, .nil, (by unfold deps; omega), rfl⟩ (fun _ _ _ _ => trivial) ?_ ?_
    · rintro i x H4 H5 hi ⟨x4, vs, ds, hl1, hrs, hds, hvl⟩ ⟨rfl, rfl⟩
      refine ⟨rfl, iteT (B := True) (iteT ?_)⟩
      refine ⟨_, rfl, b, rfl, x4.b1, fun l2 H6 x6 _ => ⟨_, rfl, b, 90, rfl, x6.b1, by decide, by decide, fun r H7 _ _ x7 => ⟨two, fun p hp => ?_⟩⟩⟩
      have x8 := (x6.trans x7).new (o := .tup [.str (S l2), .int r]) hp
      have hl2 := x8.keep _ _ nD2 hl1
      refine ⟨_, hl2, by omega, (x4.trans x8).grow hD2 nD2, vs ++ [.ref p], ds ++ [.tup [.str l2, .int r]], upd_same, ?_, ?_, by simp [hvl]⟩
      · exact (hrs.mono (x8.tups.trans (.at hl2 (fun _ z => by cases z)))).app (.one (Rep.mono (.at hl2 (fun _ z => by cases z)) (Rep.two upd_same (.str l2) (.int r))))
      · refine deps_of fun d hd => ?_
        rcases List.mem_append.mp hd with h | h
        · exact deps_mem hds d h
        · rw [List.mem_singleton.mp h, d2, dS, dI]; omega
    · rintro H4 ⟨x4, vs, ds, hl1, hrs, hds, hvl⟩
      refine ⟨D2, _, rfl, .inl ⟨SqL.of hl1, fun p2 hp2 => ?_⟩⟩
      have x5 := (x3.trans x4).new (o := .tup vs) hp2
      refine ⟨two, fun p hp => q _ (.tup [_, .tup ds]) _ ((x2.trans x5).new hp) (Rep.two upd_same (hw _ (x5.tups.trans (.new hp))) (.tup (Tups.new hp _ _ upd_same) (by omega) (hrs.mono ((Tups.new hp2).trans (.new hp))))) ?_⟩
      rw [d2, dep_tup ds]; omega
  · refine ⟨_, rfl, _, rfl, b, 90, rfl, x2.b1, by decide, by decide, fun r H3 _ _ x3 => ⟨Nat.zero_le _, fun p1 hp1 => ?_⟩⟩
    have x3 := (x2.trans x3).new (o := .tup []) hp1
    refine ⟨_, rfl, b, 9, rfl, x3.b1, by decide, by decide, fun r4 H4 _ _ x4 => ⟨_, rfl, b, 90, rfl, x4.b1, by decide, by decide, fun r5 H5 _ _ x5 => ⟨two, fun p2 hp2 => ⟨by show 5 ≤ sizeLine; omega, fun p hp => ?_⟩⟩⟩⟩
    have t1 : Tups (upd H3 p1 (.tup [])) _ := (x4.trans x5).tups
    have n2 := Tups.new (o := HO.tup [V.int r4, V.int r5]) hp2
    refine q _ (.tup [.str (cs (Str.ofString "waiting")), .str l, .int r, .tup [], .tup [.int r4, .int r5]]) _ (((x3.trans (x4.trans x5)).new hp2).new hp) (.tup upd_same (by show 5 ≤ 2000; decide) (.cons (Rep.sv _) (.cons (rl _) (.cons (.int r) (.cons (.tup ?_ (Nat.zero_le _) .nil) (.cons (Rep.two ?_ (.int _) (.int _)) .nil)))))) ?_
    · exact (t1.trans (n2.trans (.new hp))) _ _ upd_same
    · exact Tups.new hp _ _ upd_same
    · simp [dep, deps]
end
end D0
namespace D0
open PySem PySem.Spec PyProof.Rows L2 SX NumText
def spForm : Sp := fun vs H Q _ => ∃ (b pl er : Addr) (z : Str) (m : Nat), vs = [.ref b, .str z, .ref pl, .ref er] ∧ Bag H b ∧ Pool H b pl m ∧ Pool H b er m ∧
  ∀ p tv r tag es vs H', Stp b H H' → H' p = some (.tup [tv, .ref r]) → Rep H' tv tag → dep tag ≤ 3 → H r = none → H' r = some (.lst vs) → Reps H' vs (rowD ixD es) → (∀ e ∈ es, e.ok m) → es.length ≤ 100 → Q (.ref p) H'
theorem Pool.same {H H' : Hp} {b pl : Addr} {m : Nat} (x : Pool H b pl m) (s : Same H H') : Pool H' b pl m := by
  obtain ⟨n, ks, h, u⟩ := x
  exact ⟨n, ks, s _ _ h, u⟩
theorem rowD_app (f : Nat → Int) (a c : List Ent) : rowD f (a ++ c) = rowD f a ++ rowD f c := List.map_append
theorem rep_oth {H : Hp} {f : Nat → Int} {v : V} {l : List Nat} {ds : List D} (h : Rep H v (.tup (.str l :: ds))) : Rep H v ((Ent.pl (.oth l ds)).d f) := h
theorem oth_ok {m : Nat} {z : Str} {ds : List D} (h : z = "none" ∨ z = "errorclass" ∨ z = "number" ∨ z = "text") (hd : deps ds = 0) : (Ent.pl (.oth (cs z) ds)).ok m := by
  refine ⟨?_, ?_, ?_, hd⟩
  · rw [wRef_e]; rcases h with rfl | rfl | rfl | rfl <;> decide +kernel
  · rw [wHandled_e]; rcases h with rfl | rfl | rfl | rfl <;> decide +kernel
  · rw [wPending_e]; rcases h with rfl | rfl | rfl | rfl <;> decide +kernel
/-- an entry is a tuple that begins with a text -/
theorem ent_head {H : Hp} {f : Nat → Int} {v : V} : ∀ {e : Ent}, Rep H v (e.d f) → ∃ a z vs, v = .ref a ∧ H a = some (.tup (.str z :: vs))
  | .pl (.ref k), r => by cases r with | tup h hl rs => cases rs with | cons r1 r2 => cases r1; exact ⟨_, _, _, rfl, h⟩
  | .pl (.hand k), r => by cases r with | tup h hl rs => cases rs with | cons r1 r2 => cases r1; exact ⟨_, _, _, rfl, h⟩
  | .pl (.oth l ds), r => by cases r with | tup h hl rs => cases rs with | cons r1 r2 => cases r1; exact ⟨_, _, _, rfl, h⟩
  | .pend i e, r => by cases r with | tup h hl rs => cases rs with | cons r1 r2 => cases r1; exact ⟨_, _, _, rfl, h⟩
theorem Stp.free {b a : Addr} {H H' : Hp} (x : Stp b H H') (h : H' a = none) : H a = none := by
  cases e : H a with
  | none => rfl
  | some o =>
    have n := x.b1.ne h
    rw [x.keep a o n e] at h; cases h
theorem Tups.lst {H : Hp} {p : Addr} {vs : List V} {o : HO} (h : H p = some (.lst vs)) : Tups H (upd H p o) := .at h (fun _ z => by cases z)
section
variable {P : Program} {w : World} {K : PySem.W.Frag} {mg : Str → Option Value} {base : Heap}
theorem ok__law_form (T : Txt K w mg) (O : OkD P w K mg base CX0 1 "_law_take" p__law_take spTake) (Ow : OkD P w K mg base CX0 2 "_law_word" p__law_word spWord)
    (Om : OkD P w K mg base CX0 1 "_law_marks" p__law_marks spMarks) (Oe : OkD P w K mg base CX0 6 "_law_entry" p__law_entry spMarked) (Ot : OkD P w K mg base CX0 3 "_law_tag" p__law_tag spTag) : OkD P w K mg base CX0 7 "_law_form" p__law_form spForm := by
  refine T.g__law_form.ok sc__law_form (fun vs H Q E h => ?_) (fun f cdv A outer s H vs Q E hr h => ?_)
  · obtain ⟨b, pl, er, z, m, rfl, _⟩ := h; rfl
  obtain ⟨b, pl, er, z, m, rfl, hb, hp, he, q⟩ := h
  have lim : (1000 : Nat) ≤ sizeLine := by decide
  have two : 2 ≤ sizeLine := by omega
  have one : 1 ≤ sizeLine := by omega
  refine split_at 6 (fun t => ∀ (n : Nat) (y : Option V) (r : Addr) (vs : List V) (es : List Ent) (H1 : Hp) (o : Option V), n ≤ 40 → Stp b H H1 → H r = none → H1 r = some (.lst vs) → Reps H1 vs (rowD ixD es) → (∀ e ∈ es, e.ok m) → es.length = n →
    t { nx := fun _ H' => Q .non H', rt := Q } [some (.ref b), some (.str z), some (.ref pl), some (.ref er), some (.int (n : Nat)), y, some (.ref r), none, none, none, o] H1) ?_ (fun t6 ht6 hg6 => ?_)
  · refine ⟨_, (pss_cons (ps_set (i := 7) sc__law_form.nd rfl (.inl rfl) (pcall Ot hr (pa_cons (pv 0) (pa_cons (pv 1) (pa_cons (pv 4) pa_nil)))))
      (pss_cons (ps_if (pt_cmpR op_eq (pv 1) pe_str (nomark _)) (pss_one (ps_ret (pe_tup (pa_cons (pv 7) (pa_cons (pe_op op_cat (pe_lst (pa_cons (pe_tup (pa_cons pe_str pa_nil)) pa_nil)) (pv 6)) pa_nil))))) pss_nil)
      (pss_cons (ps_if (pt_cmpR op_eq (pv 1) pe_str (nomark _)) (pss_one (ps_ret (pe_tup (pa_cons (pv 7) (pa_cons (pe_op op_cat (pe_lst (pa_cons (pe_tup (pa_cons pe_str (pa_cons pe_str pa_nil))) pa_nil)) (pv 6)) pa_nil))))) pss_nil)
      (pss_cons (ps_if (pt_cmpR op_ne (pv 1) pe_str (nomark _)) (pss_one (ps_ret (pe_tup (pa_cons (pv 7) (pa_cons (pv 6) pa_nil))))) pss_nil)
      (pss_cons (ps_set (i := 8) sc__law_form.nd rfl (.inl rfl) (pcall O hr (pa_cons (pv 0) (pa_cons pe_int pa_nil))))
      (pss_cons (ps_set (i := 9) sc__law_form.nd rfl (.inl rfl) (pe_lst pa_nil))
      (pss_cons (ps_for PassesOwn.never rfl (pi_range1 rfl T.z_range (pa_cons (pv 4) pa_nil)) (pg_name (i := 5) sc__law_form.nd rfl (Or.inl rfl)) (pss_cons (ps_expr (pe_bm PySem.F.plainAttrs_list PySem.F.slot_list_append PySem.F.type_list_append mt_append (pv 9) (pa_cons (pe_tup (pa_cons pe_str (pa_cons (pe_op op_add (pv 8) (pv 5)) pa_nil))) pa_nil)))
      (pss_one (ps_expr (pe_bm PySem.F.plainAttrs_list PySem.F.slot_list_append PySem.F.type_list_append mt_append (pv 9) (pa_cons (pe_ix ix_list (pv 6) (pv 5) (fun _ _ => rfl)) pa_nil))))))
      (pss_one (ps_ret (pe_tup (pa_cons (pv 7) (pa_cons (pv 9) pa_nil)))))))))))), ?_⟩
    intro n y r vs es H1 o hn x1 hr0 hr1 hrs hok hel
    have hvl : vs.length = n := by rw [hrs.len]; unfold rowD; rw [List.length_map]; exact hel
    have nr : r ≠ b := fun z => by obtain ⟨c1, c2, c3, c4, c5, e⟩ := hb; rw [z, e] at hr0; cases hr0
    refine ⟨_, rfl, _, rfl, _, rfl, b, z, n, rfl, x1.b1, by omega, fun tv tag H2 x2 rt hd => ?_⟩
    have h2 := x2.keep _ _ nr hr1
    have hrs := hrs.mono x2.tups
    have X := x1.trans x2
    have fin : ∀ (l : Addr) (ws : List V) (fs : List Ent) (H3 : Hp), Stp b H H3 → Tups H2 H3 → H l = none → H3 l = some (.lst ws) → Reps H3 ws (rowD ixD fs) → (∀ e ∈ fs, e.ok m) → fs.length ≤ 100 → [tv, .ref l].length ≤ sizeLine ∧ ∀ p, H3 p = none → Q (.ref p) (upd H3 p (.tup [tv, .ref l])) := fun l ws fs H3 x3 t3 f3 h3 r3 o3 l3 =>
      ⟨two, fun p hp => q p tv l tag fs ws _ (x3.new hp) upd_same (rt.mono (t3.trans (.new hp))) hd f3 (by rw [upd_ne (ne_of_none h3 hp)]; exact h3) (r3.mono (.new hp)) o3 l3⟩
    have cat : ∀ (us : List V) (e : Ent) (p0 : Addr), H2 p0 = none → Rep (upd H2 p0 (.tup us)) (.ref p0) (e.d ixD) → e.ok m → ∀ l0, upd H2 p0 (.tup us) l0 = none →
        ∃ xs zs, upd (upd H2 p0 (.tup us)) l0 (.lst [.ref p0]) l0 = some (.lst xs) ∧ upd (upd H2 p0 (.tup us)) l0 (.lst [.ref p0]) r = some (.lst zs) ∧ xs.length + zs.length ≤ sizeLine ∧ ∀ l1, upd (upd H2 p0 (.tup us)) l0 (.lst [.ref p0]) l1 = none →
          [tv, .ref l1].length ≤ sizeLine ∧ ∀ p, upd (upd (upd H2 p0 (.tup us)) l0 (.lst [.ref p0])) l1 (.lst (xs ++ zs)) p = none → Q (.ref p) (upd (upd (upd (upd H2 p0 (.tup us)) l0 (.lst [.ref p0])) l1 (.lst (xs ++ zs))) p (.tup [tv, .ref l1])) := fun us e p0 hp0 re oe l0 hl0 => by
      have a1 := X.new (o := HO.tup us) hp0
      have a2 := a1.new (o := HO.lst [.ref p0]) hl0
      have k1 : upd H2 p0 (.tup us) r = some (.lst vs) := by rw [upd_ne (ne_of_none h2 hp0)]; exact h2
      refine ⟨_, _, upd_same, by rw [upd_ne (ne_of_none k1 hl0)]; exact k1, by show 1 + vs.length ≤ _; omega, fun l1 hl1 => ?_⟩
      have t1 := Tups.new (o := HO.tup us) hp0
      have t2 := Tups.new (o := HO.lst [V.ref p0]) hl0
      have t3 := Tups.new (o := HO.lst ([V.ref p0] ++ vs)) hl1
      refine fin l1 ([.ref p0] ++ vs) (e :: es) _ (a2.new hl1) (t1.trans (t2.trans t3)) (a2.free hl1) upd_same (.cons (re.mono (t2.trans t3)) (hrs.mono (t1.trans (t2.trans t3)))) (fun x hx => ?_) (by simp [hel]; omega)
      rcases List.mem_cons.mp hx with rfl | hx
      · exact oe
      · exact hok x hx
    refine ⟨_, rfl, rfl, _, rfl, ite2 (fun _ => ?_) (fun _ => ?_)⟩
    · refine ⟨_, rfl, one, fun p0 hp0 => ⟨one, fun l0 hl0 => ⟨_, rfl, ?_⟩⟩⟩
      obtain ⟨xs, zs, a1, a2, a3, a4⟩ := cat [.str (Str.ofString "none")] (.pl (.oth (cs (Str.ofString "none")) [])) p0 hp0 (rep_oth (Rep.one upd_same (Rep.sv _))) (oth_ok (.inl rfl) (by unfold deps; rfl)) l0 hl0
      exact ⟨l0, r, xs, zs, rfl, rfl, a1, a2, a3, a4⟩
    refine ⟨_, rfl, rfl, _, rfl, ite2 (fun _ => ?_) (fun _ => ?_)⟩
    · refine ⟨_, rfl, two, fun p0 hp0 => ⟨one, fun l0 hl0 => ⟨_, rfl, ?_⟩⟩⟩
      obtain ⟨xs, zs, a1, a2, a3, a4⟩ := cat [.str (Str.ofString "errorclass"), .str (Str.ofString "ValueError")] (.pl (.oth (cs (Str.ofString "errorclass")) [.str (cs (Str.ofString "ValueError"))])) p0 hp0 (rep_oth (Rep.two upd_same (Rep.sv _) (Rep.sv _))) (oth_ok (.inr (.inl rfl)) (by rw [deps1]; unfold dep; rfl)) l0 hl0
      exact ⟨l0, r, xs, zs, rfl, rfl, a1, a2, a3, a4⟩
    refine ⟨_, rfl, rfl, _, rfl, ite2 (fun _ => ?_) (fun _ => ?_)⟩
    · exact ⟨_, rfl, _, rfl, fin r vs es H2 X .refl hr0 h2 hrs hok (by omega)⟩
    refine ⟨_, rfl, b, 9, rfl, x2.b1, by decide, by decide, fun f0 H3 _ _ x3 => ⟨Nat.zero_le _, fun D1 hD1 => ?_⟩⟩
    have nD : D1 ≠ b := x3.b1.ne hD1
    have X3 := X.trans x3
    have h3 := x3.keep _ _ nr h2
    have nDr : r ≠ D1 := ne_of_none h3 hD1
    refine ⟨_, rfl, n, rfl, by omega, by omega, ?_⟩
    refine for_range (lo := 0) (n := n) (fun i σ H' => ∃ y, σ = [some (.ref b), some (.str z), some (.ref pl), some (.ref er), some (.int (n : Nat)), y, some (.ref r), some tv, some (.int f0), some (.ref D1), o] ∧ Stp b H3 H' ∧ ∃ ws fs, H' D1 = some (.lst ws) ∧ Reps H' ws (rowD ixD fs) ∧ (∀ e ∈ fs, e.ok m) ∧ fs.length = 2 * i) ⟨y, rfl, (Stp.refl x3.b1).new hD1, [], [], upd_same, .nil, (fun _ h => by cases h), rfl⟩ ?_ ?_
    · rintro i σ H4 hi ⟨y, rfl, x4, ws, fs, h4, r4, o4, l4⟩
      have wl : ws.length = 2 * i := by rw [r4.len]; unfold rowD; rw [List.length_map]; exact l4
      refine ⟨_, rfl, .inl ⟨rfl, _, SqL.of h4⟩, _, rfl, _, rfl, _, _, rfl, rfl, two, fun p5 hp5 => ?_⟩
      have h5 : upd H4 p5 (.tup [.str (Str.ofString "number"), .int (f0 + (0 + (i : Int)))]) D1 = some (.lst ws) := by rw [upd_ne (ne_of_none h4 hp5)]; exact h4
      refine ⟨D1, ws, _, rfl, rfl, h5, by omega, ?_⟩
      have x6 := (x4.new (o := HO.tup [.str (Str.ofString "number"), .int (f0 + (0 + (i : Int)))]) hp5).grow (o := HO.lst (ws ++ [.ref p5])) hD1 nD
      have r6 : Reps (upd (upd H4 p5 (.tup [.str (Str.ofString "number"), .int (f0 + (0 + (i : Int)))])) D1 (.lst (ws ++ [.ref p5]))) (ws ++ [.ref p5]) (rowD ixD (fs ++ [.pl (.oth (cs (Str.ofString "number")) [.int (f0 + (0 + (i : Int)))])])) := by
        rw [rowD_app]
        exact (r4.mono ((Tups.new hp5).trans (.lst h5))).app (.one (Rep.mono (.lst h5) (rep_oth (Rep.two upd_same (Rep.sv _) (.int _)))))
      obtain ⟨v, hv, rv⟩ := hrs.at (i := i) (d := es[i].d ixD) (by unfold rowD; rw [List.getElem?_map, List.getElem?_eq_getElem (by omega)]; rfl)
      have h6 := x6.keep _ _ nr h3
      refine ⟨_, rfl, .inl ⟨rfl, _, SqL.of upd_same⟩, _, rfl, _, rfl, r, _, _, v, rfl, rfl, SqL.of h6, by rw [Int.zero_add]; exact atI_nat hv, ?_⟩
      refine ⟨D1, _, _, rfl, rfl, upd_same, by rw [List.length_append, wl]; show 2 * i + 1 < _; omega, ?_⟩
      rw [upd_upd]
      refine ⟨_, rfl, (x4.new (o := HO.tup [.str (Str.ofString "number"), .int (f0 + (0 + (i : Int)))]) hp5).grow hD1 nD, _, (fs ++ [.pl (.oth (cs (Str.ofString "number")) [.int (f0 + (0 + (i : Int)))])]) ++ [es[i]], upd_same, ?_, ?_, by simp [l4]; omega⟩
      · have t7 : Tups (upd (upd H4 p5 (.tup [.str (Str.ofString "number"), .int (f0 + (0 + (i : Int)))])) D1 (.lst (ws ++ [.ref p5]))) (upd (upd H4 p5 (.tup [.str (Str.ofString "number"), .int (f0 + (0 + (i : Int)))])) D1 (.lst (ws ++ [.ref p5] ++ [v]))) := fun a us e => by
          have na : a ≠ D1 := fun z => by rw [z, upd_same] at e; cases e
          rw [upd_ne na] at e ⊢; exact e
        rw [rowD_app]
        exact (r6.mono t7).app (.one (rv.mono (x3.tups.trans ((x6.tups).trans t7))))
      · intro e he
        rcases List.mem_append.mp he with h | h
        · rcases List.mem_append.mp h with h | h
          · exact o4 e h
          · rw [List.mem_singleton.mp h]; exact oth_ok (.inr (.inr (.inl rfl))) (by rw [deps1]; unfold dep; rfl)
        · rw [List.mem_singleton.mp h]; exact hok _ (List.getElem_mem _)
    · rintro σ H4 ⟨y, rfl, x4, ws, fs, h4, r4, o4, l4⟩
      exact ⟨_, rfl, _, rfl, fin D1 ws fs H4 (X3.trans x4) ((x3.trans x4).tups) (X3.free hD1) h4 r4 o4 (by omega)⟩
  · refine split_at 4 (fun t => ∀ (n : Nat) (H1 : Hp), n ≤ 40 → Stp b H H1 → t { nx := fun _ H' => Q .non H', rt := Q } [some (.ref b), some (.str z), some (.ref pl), some (.ref er), some (.int (n : Nat)), none, none, none, none, none, none] H1) ?_ (fun t4 ht4 hg4 => ?_)
    · refine ⟨_, pss_cons (ps_setLc (i := 6) (own := [("k", 5)]) (g := gName 5) (tt := tYes) rfl sc__law_form.nd rfl rfl rfl (pi_range1 rfl T.z_range (pa_cons (pv 4) pa_nil)) (blkOk_by (own := [("k", 5)]) (N := n__law_form) (sc := defScope s__law_form) (by decide +kernel)) (fun _ _ _ _ _ => (pg_name (i := 5) sc__law_form.nd rfl (Or.inl rfl))) (fun _ _ _ _ _ => pts_nil) (fun _ _ _ _ _ => (pcall Oe hr (pa_cons (pv 0) (pa_cons (pv 2) (pa_cons (pv 3) (pa_cons (pcall Om hr (pa_cons (pv 1) pa_nil)) pa_nil)))))))
        (pss_cons (ps_if (pt_cmpR op_in_seq (pv 1) (pe_tup (pa_cons pe_str (pa_cons pe_str pa_nil))) (by rfl)) (pss_one (ps_setLc (i := 6) (own := [("entry", 10)]) (g := gName 10) (tt := tYes) rfl sc__law_form.nd rfl rfl rfl (pi_list (pv 6)) (blkOk_by (own := [("entry", 10)]) (N := n__law_form) (sc := defScope s__law_form) (by decide +kernel)) (fun _ _ _ _ _ => (pg_name (i := 10) sc__law_form.nd rfl (Or.inl rfl))) (fun _ _ _ _ _ => pts_nil) (fun _ _ _ _ _ => (pe_ifExp (pt_cmpR op_eq (pe_ix (show IxR _ (rIxT K) from ix_tup) (pv 10) pe_int (fun _ _ => rfl)) pe_str (nomark _)) (pv 10) (pe_tup (pa_cons pe_str (pa_cons (pcall Ow hr (pa_cons (pv 0) pa_nil)) pa_nil))))))) pss_nil) ht6), ?_⟩
      intro n H1 hn x1
      refine ⟨_, rfl, n, rfl, by omega, by omega, fun D1 hD1 => ?_⟩
      have nD : D1 ≠ b := x1.b1.ne hD1
      refine lc_it walk_range (fun i H' => Stp b H1 H' ∧ ∃ vs es, H' D1 = some (.lst vs) ∧ Reps H' vs (rowD ixD es) ∧ (∀ e ∈ es, e.ok m) ∧ es.length = i) ⟨(Stp.refl x1.b1).new hD1, [], [], upd_same, .nil, (fun _ h => by cases h), rfl⟩ (fun _ _ _ _ => trivial) ?_ ?_
      · rintro i x H3 H4 hi ⟨x3, vs, es, h3, r3, o3, l3⟩ ⟨rfl, rfl⟩
        refine ⟨rfl, iteT (B := True) (iteT ?_)⟩
        have hi' : i < n := by simpa using hi
        refine ⟨_, rfl, _, rfl, _, rfl, _, rfl, z, rfl, fun mk => ⟨b, pl, er, m, mk, rfl, x3.b1, hp.stp (x1.trans x3), he.stp (x1.trans x3), fun v e H5 x5 oe re => ?_⟩⟩
        have h5 := x5.keep _ _ nD h3
        have vl : vs.length = i := by rw [r3.len]; unfold rowD; rw [List.length_map]; exact l3
        refine ⟨_, h5, by omega, (x3.trans x5).grow hD1 nD, vs ++ [v], es ++ [e], upd_same, ?_, ?_, by simp [l3]⟩
        · rw [rowD_app]; exact (r3.mono (x5.tups.trans (.lst h5))).app (.one (re.mono (.lst h5)))
        · intro e' he'
          rcases List.mem_append.mp he' with h | h
          · exact o3 e' h
          · rw [List.mem_singleton.mp h]; exact oe
      rintro H2 ⟨x2, vs, es, h2, r2, o2, l2⟩
      have l2 : es.length = n := by simpa using l2
      have X := x1.trans x2
      have vl : vs.length = n := by rw [r2.len]; unfold rowD; rw [List.length_map]; exact l2
      refine ⟨_, rfl, two, fun p0 hp0 => ⟨p0, _, rfl, .inr (SqT.of upd_same), rfl, rfl, _, rfl, ?_⟩⟩
      have X0 := X.new (o := HO.tup [V.str (Str.ofString "method"), V.str (Str.ofString "iterator")]) hp0
      have t0 := Tups.new (o := HO.tup [V.str (Str.ofString "method"), V.str (Str.ofString "iterator")]) hp0
      have h0 : upd H2 p0 (.tup [V.str (Str.ofString "method"), V.str (Str.ofString "iterator")]) D1 = some (.lst vs) := by rw [upd_ne (ne_of_none h2 hp0)]; exact h2
      generalize upd H2 p0 (.tup [V.str (Str.ofString "method"), V.str (Str.ofString "iterator")]) = H0 at X0 t0 h0
      refine ite2 (fun _ => ?_) (fun _ => hg6 n _ D1 vs es H0 _ hn X0 (x1.free hD1) h0 (r2.mono t0) o2 l2)
      refine ⟨_, rfl, D1, rfl, ⟨vs, SqL.of h0⟩, fun D2 hD2 => ?_⟩
      have nD2 : D2 ≠ b := X0.b1.ne hD2
      have n12 : D1 ≠ D2 := ne_of_none h0 hD2
      refine lc_it (walk_list (xs := vs)) (fun i H' => Stp b H0 H' ∧ ∃ ws fs, H' D2 = some (.lst ws) ∧ Reps H' ws (rowD ixD fs) ∧ (∀ e ∈ fs, e.ok m) ∧ fs.length = i) ⟨(Stp.refl X0.b1).new hD2, [], [], upd_same, .nil, (fun _ h => by cases h), rfl⟩ (fun i H' _ h => SqL.of (h.1.keep _ _ nD h0)) ?_ ?_
      · rintro i x H3 H4 hi ⟨x3, ws, fs, h3, r3, o3, l3⟩ ⟨rfl, hx⟩
        refine ⟨rfl, iteT (B := True) (iteT ?_)⟩
        have wl : ws.length = i := by rw [r3.len]; unfold rowD; rw [List.length_map]; exact l3
        obtain ⟨d, hd, rd⟩ := (r2.mono (t0.trans x3.tups)).get hx
        have hd' : (es.map (Ent.d ixD))[i]? = some d := hd
        rw [List.getElem?_map] at hd'
        obtain ⟨e, hie, rfl⟩ : ∃ e, es[i]? = some e ∧ e.d ixD = d := by
          cases h : es[i]? with
          | none => rw [h] at hd'; cases hd'
          | some e => rw [h] at hd'; exact ⟨e, rfl, Option.some.inj hd'⟩
        have oe := o2 e (List.mem_of_getElem? hie)
        obtain ⟨a, z1, us, rfl, ha⟩ := ent_head rd
        have snoc : ∀ (H5 : Hp) (v : V) (e' : Ent), Stp b H4 H5 → e'.ok m → Rep H5 v (e'.d ixD) → ∃ acc, H5 D2 = some (.lst acc) ∧ acc.length < sizeLine ∧ (Stp b H0 (upd H5 D2 (.lst (acc ++ [v]))) ∧ ∃ ws fs, upd H5 D2 (.lst (acc ++ [v])) D2 = some (.lst ws) ∧ Reps (upd H5 D2 (.lst (acc ++ [v]))) ws (rowD ixD fs) ∧ (∀ e ∈ fs, e.ok m) ∧ fs.length = i + 1) := fun H5 v e' x5 oe' re' => by
          have h5 := x5.keep _ _ nD2 h3
          refine ⟨_, h5, by omega, (x3.trans x5).grow hD2 nD2, ws ++ [v], fs ++ [e'], upd_same, ?_, ?_, by simp [l3]⟩
          · rw [rowD_app]; exact (r3.mono (x5.tups.trans (.lst h5))).app (.one (re'.mono (.lst h5)))
          · intro e1 he1
            rcases List.mem_append.mp he1 with h | h
            · exact o3 e1 h
            · rw [List.mem_singleton.mp h]; exact oe'
        refine ⟨_, rfl, a, _, 0, .str z1, rfl, rfl, SqT.of ha, (show atI (V.str z1 :: us) ((0 : Nat) : Int) = _ from atI_nat rfl), rfl, _, rfl, ite2 (fun _ => ⟨_, rfl, snoc _ _ e (.refl x3.b1) oe rd⟩) (fun _ => ?_)⟩
        refine ⟨_, rfl, b, rfl, x3.b1, fun l H5 x5 _ => ⟨two, fun p hp => ?_⟩⟩
        exact snoc _ _ (.pl (.oth (cs (Str.ofString "text")) [.str l])) (x5.new hp) (oth_ok (.inr (.inr (.inr rfl))) (by rw [deps1]; unfold dep; rfl)) (rep_oth (Rep.two upd_same (Rep.sv _) (.str l)))
      · rintro H3 ⟨x3, ws, fs, h3, r3, o3, l3⟩
        exact hg6 n _ D2 ws fs H3 _ hn (X0.trans x3) (X0.free hD2) h3 r3 o3 (by rw [l3]; exact vl)
    · -- behind the third if
      have g4 : ∀ (r : Int) (H2 : Hp), 0 ≤ r → r ≤ 40 → Stp b H H2 → t4 { nx := fun _ H' => Q .non H', rt := Q } [some (.ref b), some (.str z), some (.ref pl), some (.ref er), some (.int r), none, none, none, none, none, none] H2 := fun r H2 h0 h1 x2 => by
        obtain ⟨k, rfl⟩ : ∃ k : Nat, r = (k : Int) := ⟨r.toNat, by omega⟩
        exact hg4 k H2 (by omega) x2
      refine split_at 3 (fun t => ∀ (r : Int) (H1 : Hp), 0 ≤ r → r ≤ 40 → Stp b H H1 → t { nx := fun _ H' => Q .non H', rt := Q } [some (.ref b), some (.str z), some (.ref pl), some (.ref er), some (.int r), none, none, none, none, none, none] H1)
        ⟨_, pss_cons (ps_if (pt_cmpR op_eq (pv 1) pe_str (nomark _)) (pss_one (ps_set (i := 4) sc__law_form.nd rfl (.inl rfl) (pe_op op_add pe_int (pe_op op_mod (pe_callTy call_int1 (by rfl) T.z_int PyProof.Rows.boot_int (pa_cons (pv 4) pa_nil)) pe_int)))) pss_nil) ht4, fun r H2 h0 h1 x2 => ?_⟩ (fun t3 ht3 hg3 => ?_)
      · refine ⟨_, rfl, rfl, _, rfl, ite2 (fun _ => ?_) (fun _ => g4 r H2 h0 h1 x2)⟩
        refine ⟨_, rfl, .inl ⟨_, rfl, _, _, rfl, rfl, (by show (0 : Int) < _; decide), _, _, rfl, rfl, ?_⟩⟩
        have e0 := Int.emod_nonneg r (show (2 : Int) ≠ 0 by decide)
        have e1 := Int.emod_lt_of_pos r (show (0 : Int) < 2 by decide)
        exact g4 _ H2 (by omega) (by omega) x2
      refine split_at 2 (fun t => ∀ (r : Int) (H1 : Hp), 0 ≤ r → r ≤ 40 → Stp b H H1 → t { nx := fun _ H' => Q .non H', rt := Q } [some (.ref b), some (.str z), some (.ref pl), some (.ref er), some (.int r), none, none, none, none, none, none] H1)
        ⟨_, pss_cons (ps_if (PW.pt (pw_or (pt_cmpR op_eq (pv 1) pe_str (nomark _)) (pw_or1 (pt_cmpR op_eq (pv 1) pe_str (nomark _))))) (pss_one (ps_set (i := 4) sc__law_form.nd rfl (.inl rfl) pe_int)) pss_nil) ht3, fun r H2 h0 h1 x2 => ?_⟩ (fun t2 ht2 hg2 => ?_)
      · refine ⟨_, rfl, rfl, _, rfl, ite2 (fun _ => iteT (hg3 1 H2 (by omega) (by omega) x2)) (fun _ => ?_)⟩
        exact ⟨_, rfl, rfl, _, rfl, ite2 (fun _ => hg3 1 H2 (by omega) (by omega) x2) (fun _ => hg3 r H2 h0 h1 x2)⟩
      refine ⟨_, pss_cons (ps_set (i := 4) sc__law_form.nd rfl (.inl rfl) (pcall O hr (pa_cons (pv 0) (pa_cons pe_int pa_nil))))
        (pss_cons (ps_if (pt_cmpR op_eq (pcall O hr (pa_cons (pv 0) (pa_cons pe_int pa_nil))) pe_int (nomark _)) (pss_one (ps_set (i := 4) sc__law_form.nd rfl (.inl rfl) (pe_op op_add pe_int (pcall O hr (pa_cons (pv 0) (pa_cons pe_int pa_nil)))))) pss_nil) ht2), ?_⟩
      refine ⟨_, rfl, b, 5, rfl, hb, by decide, by decide, fun r1 H1 r10 r11 x1 => ?_⟩
      refine ⟨_, rfl, b, 12, rfl, x1.b1, by decide, by decide, fun r2 H2 _ _ x2 => ⟨rfl, _, rfl, ite2 (fun _ => ?_) (fun _ => hg2 r1 H2 r10 (by omega) (x1.trans x2))⟩⟩
      refine ⟨_, rfl, b, 30, rfl, x2.b1, by decide, by decide, fun r3 H3 r30 r31 x3 => ⟨_, _, rfl, rfl, ?_⟩⟩
      exact hg2 (9 + r3) H3 (by omega) (by omega) (x1.trans (x2.trans x3))
end
end D0
namespace D0
open PySem PySem.Spec PyProof.Rows L2 SX NumText
def nats (ks : List Nat) : List V := ks.map fun k => V.int (k : Nat)
theorem nats_app (a c : List Nat) : nats (a ++ c) = nats a ++ nats c := List.map_append
theorem rg2 {L : Nat} (h : L ≤ 200) : RgC 1 (L : Int) 2 (L / 2) := by
  have z : ∀ k : Fin 201, RgC 1 (k.1 : Int) 2 (k.1 / 2) := by unfold RgC; decide +kernel
  exact z ⟨L, by omega⟩
def tbF (f : Nat → Int) (m : Nat) : List V := (List.range m).map fun k => V.int (f k)
theorem tbF_at {f : Nat → Int} {m k : Nat} (h : k < m) : (tbF f m)[k]? = some (.int (f k)) := by unfold tbF; rw [List.getElem?_map, List.getElem?_range h]; rfl
theorem tbF_len (f : Nat → Int) (m : Nat) : (tbF f m).length = m := by unfold tbF; rw [List.length_map, List.length_range]
theorem eR : Str.ofString "ref" = S wRef := by rw [wRef_e]; exact S_cs _
theorem eH : Str.ofString "handled" = S wHandled := by rw [wHandled_e]; exact S_cs _
theorem eP : Str.ofString "pending" = S wPending := by rw [wPending_e]; exact S_cs _
theorem n_rh : wRef ≠ wHandled ∧ wRef ≠ wPending ∧ wHandled ≠ wPending ∧ wHandled ≠ wRef ∧ wPending ≠ wRef ∧ wPending ≠ wHandled := by decide
def MI : List V := [V.str (Str.ofString "method"), V.str (Str.ofString "iterator")]
def CI : List V := [V.str (Str.ofString "class"), V.str (Str.ofString "instance")]
def i0 (z : Str) : Nat := if inV (.str z) CI = true then 1 else 0
/-- the free places of a node -/
def frees (z : Str) (n : Nat) : List Nat := if inV (.str z) MI = true then [] else if decide (V.str z = V.str (Str.ofString "dict")) = true then (List.range (n / 2)).map (fun i => 1 + i * 2) else (List.range (n - i0 z)).map (fun i => i0 z + i)
theorem i0_le (z : Str) : i0 z ≤ 1 := by unfold i0; split <;> omega
theorem frees_lt {z : Str} {n k : Nat} (h : k ∈ frees z n) : k < n := by
  unfold frees at h
  split at h
  · cases h
  · split at h
    · obtain ⟨i, hi, rfl⟩ := List.mem_map.mp h
      have := List.mem_range.mp hi; omega
    · obtain ⟨i, hi, rfl⟩ := List.mem_map.mp h
      have := List.mem_range.mp hi; omega
theorem frees_len (z : Str) (n : Nat) : (frees z n).length ≤ n := by
  unfold frees
  split
  · exact Nat.zero_le _
  · split
    · rw [List.length_map, List.length_range]; omega
    · rw [List.length_map, List.length_range]; omega
def spFree : Sp := fun vs H Q _ => ∃ (a : Addr) (z : Str) (tv : V) (r : Addr) (ws : List V), vs = [.ref a] ∧ H a = some (.lst [.str z, tv, .ref r]) ∧ H r = some (.lst ws) ∧ ws.length ≤ 200 ∧
  ∀ p H', Same H H' → H p = none → H' p = some (.lst (nats (frees z ws.length))) → Q (.ref p) H'
def spMoved0 : Sp := fun vs H Q _ => ∃ (v : V) (t : Addr) (e : En) (f : Nat → Int) (m : Nat), vs = [v, .ref t] ∧ Rep H v (e.d ixD) ∧ e.ok m ∧ H t = some (.lst (tbF f m)) ∧ ∀ v' H', Same H H' → Rep H' v' (e.d f) → Q v' H'
def spMoved : Sp := fun vs H Q _ => ∃ (v : V) (t : Addr) (e : Ent) (f : Nat → Int) (m : Nat), vs = [v, .ref t] ∧ Rep H v (e.d ixD) ∧ e.ok m ∧ H t = some (.lst (tbF f m)) ∧ ∀ v' H', Same H H' → Rep H' v' (e.d f) → Q v' H'
def spSent : Sp := fun vs H Q _ => ∃ (a t : Addr) (ws : List V) (es : List Ent) (f : Nat → Int) (m : Nat), vs = [.ref a, .ref t] ∧ H a = some (.lst ws) ∧ Reps H ws (rowD ixD es) ∧ (∀ e ∈ es, e.ok m) ∧ es.length ≤ 100 ∧ H t = some (.lst (tbF f m)) ∧
  ∀ p us H', Same H H' → H p = none → H' p = some (.lst us) → Reps H' us (rowD f es) → Q (.ref p) H'
theorem same_grow {H H1 : Hp} (s : Same H H1) {p : Addr} {o : HO} (h : H p = none) : Same H (upd H1 p o) := fun a u e => by rw [upd_ne (ne_of_none e h)]; exact s a u e
theorem rep_two_inv {H : Hp} {v : V} {l : List Nat} {i : Int} (r : Rep H v (.tup [.str l, .int i])) : ∃ a, v = .ref a ∧ H a = some (.tup [.str (S l), .int i]) := by
  cases r with | tup h hl rs => cases rs with | cons r1 r2 => cases r2 with | cons r2 r3 => cases r1; cases r2; cases r3; exact ⟨_, rfl, h⟩
theorem rep_cons_inv {H : Hp} {v : V} {l : List Nat} {ds : List D} (r : Rep H v (.tup (.str l :: ds))) : ∃ a us, v = .ref a ∧ H a = some (.tup (.str (S l) :: us)) ∧ Reps H us ds := by
  cases r with | tup h hl rs => cases rs with | cons r1 r2 => cases r1; exact ⟨_, _, rfl, h, r2⟩
theorem rep_pend_inv {H : Hp} {v : V} {l : List Nat} {i : Int} {d : D} (r : Rep H v (.tup [.str l, .int i, d])) : ∃ a u, v = .ref a ∧ H a = some (.tup [.str (S l), .int i, u]) ∧ Rep H u d := by
  cases r with | tup h hl rs => cases rs with | cons r1 r2 => cases r2 with | cons r2 r3 => cases r3 with | cons r3 r4 => cases r1; cases r2; cases r4; exact ⟨_, _, rfl, h, r3⟩
section
variable {P : Program} {w : World} {K : PySem.W.Frag} {mg : Str → Option Value} {base : Heap}
theorem Gv.none {CX : CXT} {k : Nat} {x : Str} {st : Stmt} {ps : List Str} {sp : Sp} (G : Gv K mg x st ps) (h : ∀ vs H Q E, ¬ sp vs H Q E) : OkD P w K mg base CX k x ps sp := by
  obtain ⟨f, fd, F, hm, hb⟩ := G
  exact ⟨f, fd, hm, F.kp, hb, F.lk, ⟨fun vs H Q E z => absurd z (h vs H Q E), fun A outer s H args us vs Q E _ _ _ _ z => absurd z (h vs H Q E)⟩⟩
theorem ok__law_free (T : Txt K w mg) : OkD P w K mg base CX0 1 "_law_free" p__law_free spFree := by
  refine T.g__law_free.ok sc__law_free (fun vs H Q E h => ?_) (fun f cdv A outer s H vs Q E hr h => ?_)
  · obtain ⟨a, z, tv, r, ws, rfl, _⟩ := h; rfl
  obtain ⟨a, z, tv, r, ws, rfl, ha, hw, hl, q⟩ := h
  refine ⟨_, (pss_cons (ps_if (pt_cmpR op_in_seq (pe_ix ix_list (pv 0) pe_int (fun _ _ => rfl)) (pe_tup (pa_cons pe_str (pa_cons pe_str pa_nil))) (by rfl)) (pss_one (ps_ret (pe_lst pa_nil))) pss_nil)
      (pss_cons (ps_if (pt_cmpR op_eq (pe_ix ix_list (pv 0) pe_int (fun _ _ => rfl)) pe_str (nomark _)) (pss_one (ps_ret (pe_lc (own := [("k", 1)]) (g := gName 1) (tt := tYes) rfl sc__law_free.nd (pi_range3 rfl T.z_range (pa_cons pe_int (pa_cons (pe_callB call_len_seq (by rfl) T.z_len PySem.boot_len (pa_cons (pe_ix ix_list (pv 0) pe_int (fun _ _ => rfl)) pa_nil)) (pa_cons pe_int pa_nil)))) (blkOk_by (own := [("k", 1)]) (N := n__law_free) (sc := defScope s__law_free) (by decide +kernel)) (fun _ _ _ _ _ => (pg_name (i := 1) sc__law_free.nd rfl (Or.inl rfl))) (fun _ _ _ _ _ => pts_nil) (fun _ _ _ _ _ => (pv 1))))) pss_nil)
      (pss_one (ps_ret (pe_lc (own := [("k", 1)]) (g := gName 1) (tt := tYes) rfl sc__law_free.nd (pi_range2 rfl T.z_range (pa_cons (pe_callTy call_int1 (by rfl) T.z_int PyProof.Rows.boot_int (pa_cons (pe_cmpR op_in_seq (pe_ix ix_list (pv 0) pe_int (fun _ _ => rfl)) (pe_tup (pa_cons pe_str (pa_cons pe_str pa_nil))) (by rfl)) pa_nil)) (pa_cons (pe_callB call_len_seq (by rfl) T.z_len PySem.boot_len (pa_cons (pe_ix ix_list (pv 0) pe_int (fun _ _ => rfl)) pa_nil)) pa_nil))) (blkOk_by (own := [("k", 1)]) (N := n__law_free) (sc := defScope s__law_free) (by decide +kernel)) (fun _ _ _ _ _ => (pg_name (i := 1) sc__law_free.nd rfl (Or.inl rfl))) (fun _ _ _ _ _ => pts_nil) (fun _ _ _ _ _ => (pv 1))))))), ?_⟩
  have lim : (1000 : Nat) ≤ sizeLine := by decide
  have two : 2 ≤ sizeLine := by omega
  refine ⟨_, rfl, a, _, 0, _, rfl, rfl, SqL.of ha, rfl, two, fun p0 hp0 => ⟨p0, _, rfl, .inr (SqT.of upd_same), rfl, rfl, _, rfl, ?_⟩⟩
  have s0 := same_new hp0 (.tup [.str (Str.ofString "method"), .str (Str.ofString "iterator")])
  refine ite2 (fun c => ⟨Nat.zero_le _, fun p hp => q p _ (s0.trans (same_new hp _)) (s0.free hp) (by rw [upd_same]; unfold frees; rw [if_pos (show inV (.str z) MI = true from c)]; rfl)⟩) (fun c0 => ?_)
  have c0 : ¬ inV (.str z) MI = true := c0
  refine ⟨_, rfl, a, _, 0, _, rfl, rfl, SqL.of (s0 _ _ ha), rfl, rfl, _, rfl, ite2 (fun c1 => ?_) (fun c1 => ?_)⟩
  · refine ⟨_, rfl, a, _, 2, _, rfl, rfl, SqL.of (s0 _ _ ha), rfl, r, _, rfl, .inl (SqL.of (s0 _ _ hw)), _, _, _, ws.length / 2, rfl, rg2 hl, fun D1 hD1 => ?_⟩
    refine lc_it walk_rangeC (fun i H' => Same H H' ∧ H' D1 = some (.lst (nats ((List.range i).map fun i => 1 + i * 2)))) ⟨s0.trans (same_new hD1 _), upd_same⟩ (fun _ _ _ _ => trivial) ?_ ?_
    · rintro i x H3 H4 hi ⟨s3, h3⟩ ⟨rfl, rfl⟩
      refine ⟨rfl, iteT (B := True) (iteT ?_)⟩
      refine ⟨_, rfl, _, h3, by unfold nats; rw [List.length_map, List.length_map, List.length_range]; omega, same_grow s3 (s0.free hD1), ?_⟩
      rw [upd_same, List.range_succ, List.map_append, nats_app]; rfl
    · rintro H3 ⟨s3, h3⟩
      exact q D1 H3 s3 (s0.free hD1) (by rw [h3]; unfold frees; rw [if_neg c0, if_pos c1])
  · refine ⟨_, rfl, a, _, 0, _, rfl, rfl, SqL.of (s0 _ _ ha), rfl, two, fun p1 hp1 => ⟨p1, _, rfl, .inr (SqT.of upd_same), rfl, rfl, .inr ⟨_, rfl, ?_⟩⟩⟩
    have s1 := s0.trans (same_new hp1 (.tup [.str (Str.ofString "class"), .str (Str.ofString "instance")]))
    refine ⟨_, rfl, a, _, 2, _, rfl, rfl, SqL.of (s1 _ _ ha), rfl, r, _, rfl, .inl (SqL.of (s1 _ _ hw)), ?_⟩
    have e0 : (if (if false = true then !inV (V.str z) [V.str (Str.ofString "class"), V.str (Str.ofString "instance")] else inV (V.str z) [V.str (Str.ofString "class"), V.str (Str.ofString "instance")]) = true then (1 : Int) else 0) = ((i0 z : Nat) : Int) := by
      unfold i0
      show (if inV (V.str z) CI = true then (1 : Int) else 0) = _
      split <;> rfl
    have hi0 := i0_le z
    refine ⟨(i0 z : Int), (ws.length : Int), by rw [← e0], ⟨by omega, by omega, by omega, by omega⟩, fun D1 hD1 => ?_⟩
    refine lc_it walk_range (fun i H' => Same H H' ∧ H' D1 = some (.lst (nats ((List.range i).map fun i => i0 z + i)))) ⟨s1.trans (same_new hD1 _), upd_same⟩ (fun _ _ _ _ => trivial) ?_ ?_
    · rintro i x H3 H4 hi ⟨s3, h3⟩ ⟨rfl, rfl⟩
      refine ⟨rfl, iteT (B := True) (iteT ?_)⟩
      refine ⟨_, rfl, _, h3, by unfold nats; rw [List.length_map, List.length_map, List.length_range]; omega, same_grow s3 (s1.free hD1), ?_⟩
      rw [upd_same, List.range_succ, List.map_append, nats_app]; show some (HO.lst (nats ((List.range i).map fun i => i0 z + i) ++ [V.int ((i0 z : Int) + (i : Int))])) = some (HO.lst (nats ((List.range i).map fun i => i0 z + i) ++ [V.int ((i0 z + i : Nat) : Int)])); rw [show ((i0 z : Int) + (i : Int)) = ((i0 z + i : Nat) : Int) by omega]
    · rintro H3 ⟨s3, h3⟩
      have e : ((ws.length : Int) - (i0 z : Int)).toNat = ws.length - i0 z := by omega
      rw [e] at h3
      exact q D1 H3 s3 (s1.free hD1) (by rw [h3]; unfold frees; rw [if_neg c0, if_neg c1])
theorem okm0__law_moved (T : Txt K w mg) : OkD P w K mg base CX0 1 "_law_moved" p__law_moved spMoved0 := by
  have O : OkD P w K mg base CX0 0 "_law_moved" p__law_moved (fun _ _ _ _ => False) := T.g__law_moved.none fun _ _ _ _ h => h
  refine T.g__law_moved.ok sc__law_moved (fun vs H Q E h => ?_) (fun f cdv A outer s H vs Q E hr h => ?_)
  · obtain ⟨v, t, e, g, m, rfl, _⟩ := h; rfl
  obtain ⟨v, t, e, g, m, rfl, rv, oe, ht, q⟩ := h
  refine ⟨_, (pss_cons (ps_if (pt_cmpR op_eq (pe_ix ix_tup (pv 0) pe_int (fun _ _ => rfl)) pe_str (nomark _)) (pss_one (ps_ret (pe_tup (pa_cons pe_str (pa_cons (pe_ix ix_tup (pv 0) pe_int (fun _ _ => rfl)) (pa_cons (pcall O hr (pa_cons (pe_ix ix_tup (pv 0) pe_int (fun _ _ => rfl)) (pa_cons (pv 1) pa_nil))) pa_nil)))))) pss_nil)
      (pss_cons (ps_if (PW.pt (pw_or (pt_cmpR op_eq (pe_ix ix_tup (pv 0) pe_int (fun _ _ => rfl)) pe_str (nomark _)) (pw_or1 (pt_cmpR op_eq (pe_ix ix_tup (pv 0) pe_int (fun _ _ => rfl)) pe_str (nomark _))))) (pss_one (ps_ret (pe_tup (pa_cons (pe_ix ix_tup (pv 0) pe_int (fun _ _ => rfl)) (pa_cons (pe_ix ix_list (pv 1) (pe_ix ix_tup (pv 0) pe_int (fun _ _ => rfl)) (fun _ _ => rfl)) pa_nil))))) pss_nil)
      (pss_one (ps_ret (pv 0))))), ?_⟩
  have two : 2 ≤ sizeLine := by decide
  have dd : ∀ a c : List Nat, decide (V.str (S a) = V.str (S c)) = decide (a = c) := str_dec
  obtain ⟨n1, n2, n3, n4, n5, n6⟩ := n_rh
  cases e with
  | ref k =>
    obtain ⟨a, rfl, h⟩ := rep_two_inv rv
    refine ⟨_, rfl, a, _, 0, .str (S wRef), rfl, rfl, SqT.of h, rfl, rfl, _, rfl, ?_⟩
    rw [eP, dd, decide_eq_false n2]
    refine iteF ⟨_, rfl, a, _, 0, .str (S wRef), rfl, rfl, SqT.of h, rfl, rfl, _, rfl, ?_⟩
    rw [eR, dd, decide_eq_true rfl]
    refine iteT (iteT ?_)
    refine ⟨_, rfl, a, _, 0, .str (S wRef), rfl, rfl, SqT.of h, rfl, _, rfl, _, rfl, a, _, 1, _, rfl, rfl, SqT.of h, rfl, t, _, _, _, rfl, rfl, SqL.of ht, atI_nat (tbF_at oe), two, fun p hp => ?_⟩
    exact q _ _ (same_new hp _) (Rep.two upd_same (.str wRef) (.int _))
  | hand k =>
    obtain ⟨a, rfl, h⟩ := rep_two_inv rv
    refine ⟨_, rfl, a, _, 0, .str (S wHandled), rfl, rfl, SqT.of h, rfl, rfl, _, rfl, ?_⟩
    rw [eP, dd, decide_eq_false n3]
    refine iteF ⟨_, rfl, a, _, 0, .str (S wHandled), rfl, rfl, SqT.of h, rfl, rfl, _, rfl, ?_⟩
    rw [eR, dd, decide_eq_false n4]
    refine iteF ⟨_, rfl, a, _, 0, .str (S wHandled), rfl, rfl, SqT.of h, rfl, rfl, _, rfl, ?_⟩
    rw [eH, dd, decide_eq_true rfl]
    refine iteT ?_
    refine ⟨_, rfl, a, _, 0, .str (S wHandled), rfl, rfl, SqT.of h, rfl, _, rfl, _, rfl, a, _, 1, _, rfl, rfl, SqT.of h, rfl, t, _, _, _, rfl, rfl, SqL.of ht, atI_nat (tbF_at oe), two, fun p hp => ?_⟩
    exact q _ _ (same_new hp _) (Rep.two upd_same (.str wHandled) (.int _))
  | oth l ds =>
    have rv0 := rv
    obtain ⟨o1, o2, o3, o4⟩ := oe
    obtain ⟨a, us, rfl, h, _⟩ := rep_cons_inv rv
    have z0 : atI (V.str (S l) :: us) ((0 : Nat) : Int) = some (.str (S l)) := atI_nat rfl
    refine ⟨_, rfl, a, _, 0, .str (S l), rfl, rfl, SqT.of h, z0, rfl, _, rfl, ?_⟩
    rw [eP, dd, decide_eq_false o3]
    refine iteF ⟨_, rfl, a, _, 0, .str (S l), rfl, rfl, SqT.of h, z0, rfl, _, rfl, ?_⟩
    rw [eR, dd, decide_eq_false o1]
    refine iteF ⟨_, rfl, a, _, 0, .str (S l), rfl, rfl, SqT.of h, z0, rfl, _, rfl, ?_⟩
    rw [eH, dd, decide_eq_false o2]
    exact iteF ⟨_, rfl, q _ _ (.refl _) rv0⟩
end
end D0
namespace D0
open PySem PySem.Spec PyProof.Rows L2 SX NumText
section
variable {P : Program} {w : World} {K : PySem.W.Frag} {mg : Str → Option Value} {base : Heap}
theorem OkD.imp {CX : CXT} {k : Nat} {x : Str} {ps : List Str} {sp sp' : Sp} (O : OkD P w K mg base CX k x ps sp) (h : ∀ vs H Q E, sp' vs H Q E → sp vs H Q E) : OkD P w K mg base CX k x ps sp' := by
  obtain ⟨f, fd, a, b, c, d, F⟩ := O
  exact ⟨f, fd, a, b, c, d, ⟨fun vs H Q E z => F.len vs H Q E (h _ _ _ _ z), fun A outer s H args us vs Q E r e bt vl z => F.run A outer s H args us vs Q E r e bt vl (h _ _ _ _ z)⟩⟩
theorem OkD.or {CX : CXT} {k : Nat} {x : Str} {ps : List Str} {sp sp' : Sp} (O : OkD P w K mg base CX k x ps sp) (O' : OkD P w K mg base CX k x ps sp') : OkD P w K mg base CX k x ps (fun vs H Q E => sp vs H Q E ∨ sp' vs H Q E) := by
  obtain ⟨f, fd, a, b, c, ⟨oc, od, osl, hl⟩, F⟩ := O
  obtain ⟨f', fd', a', b', c', ⟨oc', od', osl', hl'⟩, F'⟩ := O'
  have e : f' = f := Value.ref.inj (Option.some.inj (a'.symm.trans a))
  subst e
  have e2 := Option.some.inj (hl'.symm.trans hl)
  have e3 : fd' = fd := by cases e2; rfl
  subst e3
  refine ⟨f', fd', a, b, c, ⟨oc, od, osl, hl⟩, ⟨fun vs H Q E z => ?_, fun A outer s H args us vs Q E r e bt vl z => ?_⟩⟩
  · rcases z with z | z
    · exact F.len vs H Q E z
    · exact F'.len vs H Q E z
  · rcases z with z | z
    · exact F.run A outer s H args us vs Q E r e bt vl z
    · exact F'.run A outer s H args us vs Q E r e bt vl z
def spMovedP : Sp := fun vs H Q _ => ∃ (v : V) (t : Addr) (r : Int) (e : En) (f : Nat → Int) (m : Nat), vs = [v, .ref t] ∧ Rep H v ((Ent.pend r e).d ixD) ∧ e.ok m ∧ H t = some (.lst (tbF f m)) ∧ ∀ v' H', Same H H' → Rep H' v' ((Ent.pend r e).d f) → Q v' H'
theorem okmp__law_moved (T : Txt K w mg) : OkD P w K mg base CX0 2 "_law_moved" p__law_moved spMovedP := by
  have O := okm0__law_moved (P := P) (base := base) T
  refine T.g__law_moved.ok sc__law_moved (fun vs H Q E h => ?_) (fun f cdv A outer s H vs Q E hr h => ?_)
  · obtain ⟨v, t, r, e, g, m, rfl, _⟩ := h; rfl
  obtain ⟨v, t, r, e, g, m, rfl, rv, oe, ht, q⟩ := h
  refine ⟨_, (pss_cons (ps_if (pt_cmpR op_eq (pe_ix ix_tup (pv 0) pe_int (fun _ _ => rfl)) pe_str (nomark _)) (pss_one (ps_ret (pe_tup (pa_cons pe_str (pa_cons (pe_ix ix_tup (pv 0) pe_int (fun _ _ => rfl)) (pa_cons (pcall O hr (pa_cons (pe_ix ix_tup (pv 0) pe_int (fun _ _ => rfl)) (pa_cons (pv 1) pa_nil))) pa_nil)))))) pss_nil)
      (pss_cons (ps_if (PW.pt (pw_or (pt_cmpR op_eq (pe_ix ix_tup (pv 0) pe_int (fun _ _ => rfl)) pe_str (nomark _)) (pw_or1 (pt_cmpR op_eq (pe_ix ix_tup (pv 0) pe_int (fun _ _ => rfl)) pe_str (nomark _))))) (pss_one (ps_ret (pe_tup (pa_cons (pe_ix ix_tup (pv 0) pe_int (fun _ _ => rfl)) (pa_cons (pe_ix ix_list (pv 1) (pe_ix ix_tup (pv 0) pe_int (fun _ _ => rfl)) (fun _ _ => rfl)) pa_nil))))) pss_nil)
      (pss_one (ps_ret (pv 0))))), ?_⟩
  obtain ⟨a, u, rfl, h, ru⟩ := rep_pend_inv rv
  refine ⟨_, rfl, a, _, 0, .str (S wPending), rfl, rfl, SqT.of h, rfl, rfl, _, rfl, ?_⟩
  rw [eP, str_dec, decide_eq_true rfl]
  refine iteT ⟨_, rfl, a, _, 1, _, rfl, rfl, SqT.of h, rfl, _, rfl, a, _, 2, _, rfl, rfl, SqT.of h, rfl, _, rfl, u, t, e, g, m, rfl, ru, oe, ht, fun v' H1 s1 r1 => ⟨by show 3 ≤ sizeLine; decide, fun p hp => ?_⟩⟩
  exact q _ _ (s1.trans (same_new hp _)) (Rep.three upd_same (.str wPending) (.int r) (r1.mono (.new hp)))
theorem ok__law_moved (T : Txt K w mg) : OkD P w K mg base CX0 2 "_law_moved" p__law_moved spMoved := by
  refine (((okm0__law_moved T).mono (by omega)).or (okmp__law_moved T)).imp fun vs H Q E h => ?_
  obtain ⟨v, t, e, g, m, rfl, rv, oe, ht, q⟩ := h
  cases e with
  | pl e => exact .inl ⟨v, t, e, g, m, rfl, rv, oe, ht, q⟩
  | pend r e => exact .inr ⟨v, t, r, e, g, m, rfl, rv, oe, ht, q⟩
theorem ok__law_sent (T : Txt K w mg) (O : OkD P w K mg base CX0 2 "_law_moved" p__law_moved spMoved) : OkD P w K mg base CX0 3 "_law_sent" p__law_sent spSent := by
  refine T.g__law_sent.ok sc__law_sent (fun vs H Q E h => ?_) (fun f cdv A outer s H vs Q E hr h => ?_)
  · obtain ⟨a, t, ws, es, g, m, rfl, _⟩ := h; rfl
  obtain ⟨a, t, ws, es, g, m, rfl, ha, rw_, oe, hl, ht, q⟩ := h
  refine ⟨_, (pss_one (ps_ret (pe_lc (own := [("entry", 2)]) (g := gName 2) (tt := tYes) rfl sc__law_sent.nd (pi_list (pv 0)) (blkOk_by (own := [("entry", 2)]) (N := n__law_sent) (sc := defScope s__law_sent) (by decide +kernel)) (fun _ _ _ _ _ => (pg_name (i := 2) sc__law_sent.nd rfl (Or.inl rfl))) (fun _ _ _ _ _ => pts_nil) (fun _ _ _ _ _ => (pcall O hr (pa_cons (pv 2) (pa_cons (pv 1) pa_nil))))))), ?_⟩
  have lim : (1000 : Nat) < sizeLine := by decide
  refine ⟨_, rfl, a, rfl, ⟨ws, SqL.of ha⟩, fun D1 hD1 => ?_⟩
  have wl : ws.length = es.length := by rw [rw_.len]; unfold rowD; rw [List.length_map]
  refine lc_it (walk_list (xs := ws)) (fun i H' => Same H H' ∧ ∃ us, H' D1 = some (.lst us) ∧ Reps H' us (rowD g (es.take i)) ∧ us.length = i) ⟨same_new hD1 _, [], upd_same, .nil, rfl⟩ (fun i H' _ h => SqL.of (h.1 _ _ ha)) ?_ ?_
  · rintro i x H3 H4 hi ⟨s3, us, h3, r3, l3⟩ ⟨rfl, hx⟩
    have hi' : i < es.length := by omega
    obtain ⟨d, hd, rd⟩ := (rw_.mono (.same s3)).get hx
    have hd' : (es.map (Ent.d ixD))[i]? = some d := hd
    rw [List.getElem?_map, List.getElem?_eq_getElem hi'] at hd'
    have hd' : es[i].d ixD = d := Option.some.inj hd'
    subst hd'
    refine ⟨rfl, iteT (B := True) (iteT ?_)⟩
    refine ⟨_, rfl, _, rfl, x, t, es[i], g, m, rfl, rd, oe _ (List.getElem_mem hi'), s3 _ _ ht, fun v' H5 s5 r5 => ?_⟩
    have h5 := s5 _ _ h3
    refine ⟨_, h5, by omega, same_grow (s3.trans s5) hD1, us ++ [v'], upd_same, ?_, by simp [l3]⟩
    have e : es.take (i + 1) = es.take i ++ [es[i]] := by rw [List.take_add_one, List.getElem?_eq_getElem hi']; rfl
    rw [e, rowD_app]
    exact (r3.mono ((Tups.same s5).trans (.lst h5))).app (.one (r5.mono (.lst h5)))
  · rintro H3 ⟨s3, us, h3, r3, l3⟩
    rw [wl, List.take_length] at r3
    exact q D1 us H3 s3 hD1 h3 r3
theorem ixN_nat {n j : Nat} (h : j < n) : ixN n (j : Int) = some j := by
  unfold ixN
  simp
  omega
/-- a list (true) or a tuple at a -/
def SeqW (K : PySem.W.Frag) (H : Hp) : Bool → Addr → List V → Prop
  | true, a, vs => H a = some (.lst vs)
  | false, a, vs => SqT K H a vs ∧ TyX K H (.ref a) (.type "tuple")
def SeqSame (K : PySem.W.Frag) (n : Nat) (H : Hp) (v u : V) : Prop := ∃ kd a c us ws ds, v = .ref a ∧ u = .ref c ∧ SeqW K H kd a us ∧ SeqW K H kd c ws ∧ Reps H us ds ∧ Reps H ws ds ∧ us.length ≤ 2000 ∧ deps ds + 1 < n
def spSame (K : PySem.W.Frag) (n : Nat) : Sp := fun vs H Q _ => ∃ (v u : V), vs = [v, u] ∧ Q (.bl true) H ∧ (SeqSame K n H v u ∨ ∃ d, Rep H v d ∧ Rep H u d ∧ dep d < n)
theorem ok__law_same (T : Txt K w mg) : ∀ n : Nat, OkD P w K mg base CX0 (n + 1) "_law_same" p__law_same (spSame K n)
  | 0 => T.g__law_same.none fun vs H Q E h => by
    obtain ⟨v, u, _, _, h⟩ := h
    rcases h with ⟨_, _, _, _, _, _, _, _, _, _, _, _, _, h⟩ | ⟨_, _, _, h⟩ <;> omega
  | n + 1 => by
    have O := ok__law_same T n
    refine T.g__law_same.ok sc__law_same (fun vs H Q E h => ?_) (fun f cdv A outer s H vs Q E hr h => ?_)
    · obtain ⟨v, u, rfl, _⟩ := h; rfl
    obtain ⟨v, u, rfl, q, h⟩ := h
    refine ⟨_, (pss_cons (ps_if (PW.pt (pw_or (pt_val (pe_callB call_isi (by rfl) T.z_isinstance PyProof.Rows.boot_isinstance (pa_cons (pv 1) (pa_cons (pe_bltn (v := .ty "tuple") rfl T.z_tuple PyProof.Rows.boot_tuple rfl) pa_nil)))) (pw_or1 (pt_val (pe_callB call_isi (by rfl) T.z_isinstance PyProof.Rows.boot_isinstance (pa_cons (pv 1) (pa_cons (pe_bltn (v := .ty "list") rfl T.z_list PyProof.Rows.boot_list rfl) pa_nil))))))) (pss_cons (ps_if (PW.pt (pw_and (pt_val (pe_callB call_isi (by rfl) T.z_isinstance PyProof.Rows.boot_isinstance (pa_cons (pv 1) (pa_cons (pe_bltn (v := .ty "list") rfl T.z_list PyProof.Rows.boot_list rfl) pa_nil)))) (pw_and1 (pt_not (pt_val (pe_callB call_isi (by rfl) T.z_isinstance PyProof.Rows.boot_isinstance (pa_cons (pv 0) (pa_cons (pe_bltn (v := .ty "list") rfl T.z_list PyProof.Rows.boot_list rfl) pa_nil)))))))) (pss_one (ps_ret pe_bl)) pss_nil)
      (pss_cons (ps_if (PW.pt (pw_and (pt_val (pe_callB call_isi (by rfl) T.z_isinstance PyProof.Rows.boot_isinstance (pa_cons (pv 1) (pa_cons (pe_bltn (v := .ty "tuple") rfl T.z_tuple PyProof.Rows.boot_tuple rfl) pa_nil)))) (pw_and1 (pt_not (pt_val (pe_callB call_isi (by rfl) T.z_isinstance PyProof.Rows.boot_isinstance (pa_cons (pv 0) (pa_cons (pe_bltn (v := .ty "tuple") rfl T.z_tuple PyProof.Rows.boot_tuple rfl) pa_nil)))))))) (pss_one (ps_ret pe_bl)) pss_nil)
      (pss_cons (ps_if (pt_cmpR op_ne (pe_callB call_len_seq (by rfl) T.z_len PySem.boot_len (pa_cons (pv 0) pa_nil)) (pe_callB call_len_seq (by rfl) T.z_len PySem.boot_len (pa_cons (pv 1) pa_nil)) (nomark _)) (pss_one (ps_ret pe_bl)) pss_nil)
      (pss_cons (ps_for PassesOwn.never rfl (pi_range1 rfl T.z_range (pa_cons (pe_callB call_len_seq (by rfl) T.z_len PySem.boot_len (pa_cons (pv 1) pa_nil)) pa_nil)) (pg_name (i := 2) sc__law_same.nd rfl (Or.inl rfl)) (pss_one (ps_if (pt_not (pt_val (pcall O hr (pa_cons (pe_ix ix_seq (pv 0) (pv 2) (fun _ _ => rfl)) (pa_cons (pe_ix ix_seq (pv 1) (pv 2) (fun _ _ => rfl)) pa_nil))))) (pss_one (ps_ret pe_bl)) pss_nil)))
      (pss_one (ps_ret pe_bl)))))) pss_nil)
      (pss_cons (ps_if (pt_cmpR op_isN (pv 1) pe_non (nomark _)) (pss_one (ps_ret (pe_cmpR op_isN (pv 0) pe_non (nomark _)))) pss_nil)
      (pss_cons (ps_if (pt_val (pe_callB call_isi (by rfl) T.z_isinstance PyProof.Rows.boot_isinstance (pa_cons (pv 1) (pa_cons (pe_bltn (v := .ty "bool") rfl T.z_bool PyProof.Rows.boot_bool rfl) pa_nil)))) (pss_one (ps_ret (pe_and (pe_callB call_isi (by rfl) T.z_isinstance PyProof.Rows.boot_isinstance (pa_cons (pv 0) (pa_cons (pe_bltn (v := .ty "bool") rfl T.z_bool PyProof.Rows.boot_bool rfl) pa_nil))) (pe_one (pe_cmpR op_eq (pv 0) (pv 1) (nomark _)))))) pss_nil)
      (pss_cons (ps_if (pt_val (pe_callB call_isi (by rfl) T.z_isinstance PyProof.Rows.boot_isinstance (pa_cons (pv 1) (pa_cons (pe_bltn (v := .ty "int") rfl T.z_int PyProof.Rows.boot_int rfl) pa_nil)))) (pss_one (ps_ret (pe_and (pe_callB call_isi (by rfl) T.z_isinstance PyProof.Rows.boot_isinstance (pa_cons (pv 0) (pa_cons (pe_bltn (v := .ty "int") rfl T.z_int PyProof.Rows.boot_int rfl) pa_nil))) (pe_and (pe_not (pe_callB call_isi (by rfl) T.z_isinstance PyProof.Rows.boot_isinstance (pa_cons (pv 0) (pa_cons (pe_bltn (v := .ty "bool") rfl T.z_bool PyProof.Rows.boot_bool rfl) pa_nil)))) (pe_one (pe_cmpR op_eq (pv 0) (pv 1) (nomark _))))))) pss_nil)
      (pss_one (ps_ret (pe_and (pe_callB call_isi (by rfl) T.z_isinstance PyProof.Rows.boot_isinstance (pa_cons (pv 0) (pa_cons (pe_bltn (v := .ty "str") rfl T.z_str PyProof.Rows.boot_str rfl) pa_nil))) (pe_one (pe_cmpR op_eq (pv 0) (pv 1) (nomark _)))))))))), ?_⟩
    have seq : SeqSame K (n + 1) H v u ∨ ∃ d, Rep H v d ∧ Rep H u d ∧ isTup d = false := by
      rcases h with h | ⟨d, r1, r2, hd⟩
      · exact .inl h
      · cases r1 with
        | tup h1 l1 rs1 =>
          cases r2 with
          | tup h2 l2 rs2 =>
            rw [dep_tup] at hd
            exact .inl ⟨false, _, _, _, _, _, rfl, rfl, ⟨SqT.of h1, .base (.tup h1)⟩, ⟨SqT.of h2, .base (.tup h2)⟩, rs1, rs2, l1, by omega⟩
        | non => exact .inr ⟨_, .non, r2, rfl⟩
        | bl b => exact .inr ⟨_, .bl b, r2, rfl⟩
        | int i => exact .inr ⟨_, .int i, r2, rfl⟩
        | str l => exact .inr ⟨_, .str l, r2, rfl⟩
    clear h
    have b1 : kitB "list" "tuple" = some false := by decide +kernel
    have b2 : kitB "list" "list" = some true := by decide +kernel
    have b3 : kitB "tuple" "list" = some false := by decide +kernel
    have b4 : kitB "tuple" "tuple" = some true := by decide +kernel
    rcases seq with ⟨kd, a, c, us, ws, ds, rfl, rfl, h1, h2, rs1, rs2, hl, hd⟩ | ⟨d, r1, r2, hd⟩
    · have hlen : us.length = ws.length := by rw [rs1.len, rs2.len]
      obtain ⟨ty, t1, t2, kt, kl, s1, s2⟩ : ∃ ty : String, TyX K H (.ref a) (.type ty) ∧ TyX K H (.ref c) (.type ty) ∧ kitB ty "tuple" = some (!kd) ∧ kitB ty "list" = some kd ∧ (SqL K H a us ∨ SqT K H a us) ∧ (SqL K H c ws ∨ SqT K H c ws) := by
        cases kd with
        | true => exact ⟨"list", .base (.lst h1), .base (.lst h2), b1, b2, .inl (SqL.of h1), .inl (SqL.of h2)⟩
        | false => exact ⟨"tuple", h1.2, h2.2, b4, b3, .inr h1.1, .inr h2.1⟩
      have ixv : ∀ (a : Addr) (us : List V) (i : Nat) (v : V) (R : VK), (SqL K H a us ∨ SqT K H a us) → us[i]? = some v → R v H → rIx K (.ref a) (.int (0 + (i : Int))) H R := fun a us i v R hs hi hR => by
        rcases hs with hs | hs
        · exact .inl ⟨a, us, _, v, rfl, rfl, hs, by rw [Int.zero_add]; exact atI_nat hi, hR⟩
        · exact .inr (.inl ⟨a, us, _, v, rfl, rfl, hs, by rw [Int.zero_add]; exact atI_nat hi, hR⟩)
      refine via2 (fun hB => ⟨_, rfl, _, _, _, _, _, rfl, .ty _, t2, kit_ty kt, _, rfl, ite2 (fun _ => iteT hB) (fun e => ⟨_, rfl, _, _, _, _, _, rfl, .ty _, t2, kit_ty kl, _, rfl, ite2 (fun _ => hB) (fun e2 => absurd e2 (by cases kd <;> simp_all))⟩)⟩) ?_
      refine via2 (fun hB => ⟨_, rfl, _, _, _, _, _, rfl, .ty _, t2, kit_ty kl, _, rfl, ite2 (fun e => ⟨_, rfl, _, _, _, _, _, rfl, .ty _, t1, kit_ty kl, _, rfl, ite2 (fun e2 => absurd e2 (by rw [e]; decide)) (fun _ => hB)⟩) (fun _ => hB)⟩) ?_
      refine via2 (fun hB => ⟨_, rfl, _, _, _, _, _, rfl, .ty _, t2, kit_ty kt, _, rfl, ite2 (fun e => ⟨_, rfl, _, _, _, _, _, rfl, .ty _, t1, kit_ty kt, _, rfl, ite2 (fun e2 => absurd e2 (by rw [e]; decide)) (fun _ => hB)⟩) (fun _ => hB)⟩) ?_
      refine ⟨_, rfl, a, _, rfl, s1, _, rfl, c, _, rfl, s2, rfl, _, rfl, ?_⟩
      rw [hlen]
      refine ite2 (fun c => absurd c (by simp)) (fun _ => ?_)
      refine ⟨_, rfl, c, _, rfl, s2, (ws.length : Int), rfl, by omega, by omega, ?_⟩
      refine for_range (lo := 0) (n := ws.length) (fun i σ H' => ∃ y, σ = [some (.ref a), some (.ref c), y] ∧ H' = H) ⟨none, rfl, rfl⟩ ?_ ?_
      · rintro i σ H' hi ⟨y, rfl, rfl⟩
        have hi1 : i < us.length := by omega
        obtain ⟨d1, e1, x1⟩ := rs1.get (List.getElem?_eq_getElem hi1)
        obtain ⟨d2, e2, x2⟩ := rs2.get (List.getElem?_eq_getElem hi)
        have ed : d1 = d2 := Option.some.inj (e1.symm.trans e2)
        subst ed
        have hdm := deps_mem (Nat.le_refl _) d1 (List.mem_of_getElem? e1)
        refine ⟨_, rfl, _, rfl, ixv a us i _ _ s1 (List.getElem?_eq_getElem hi1) ?_⟩
        refine ⟨_, rfl, _, rfl, ixv c ws i _ _ s2 (List.getElem?_eq_getElem hi) ?_⟩
        exact ⟨_, _, rfl, ⟨_, rfl, iteF ⟨_, rfl, rfl⟩⟩, .inr ⟨d1, x1, x2, by omega⟩⟩
      · rintro σ H' ⟨y, rfl, rfl⟩
        exact q
    · have isi2 := (r2.ty (K := K))
      have isi1 := (r1.ty (K := K))
      refine ⟨_, rfl, _, _, _, _, _, rfl, .ty _, isi2, kit_ty (kit_t d), _, rfl, ?_⟩
      rw [hd]
      refine iteF ⟨_, rfl, _, _, _, _, _, rfl, .ty _, isi2, kit_ty (kit_l d), _, rfl, iteF ?_⟩
      cases r1 with
      | tup h1 rs1 => exact absurd (show true = false from hd) (by decide)
      | non =>
        cases r2
        exact ⟨_, rfl, rfl, _, rfl, iteT ⟨_, rfl, rfl, q⟩⟩
      | bl b =>
        cases r2
        refine ⟨_, rfl, rfl, _, rfl, iteF ?_⟩
        refine ⟨_, rfl, _, _, _, _, _, rfl, .ty _, isi2, kit_ty (kit_b (.bl b)), _, rfl, iteT ?_⟩
        refine ⟨_, rfl, _, _, _, _, _, rfl, .ty _, isi1, kit_ty (kit_b (.bl b)), _, rfl, iteT ⟨_, rfl, _, rfl, rfl, ?_⟩⟩
        rw [decide_eq_true rfl]; exact q
      | int i =>
        cases r2
        refine ⟨_, rfl, rfl, _, rfl, iteF ?_⟩
        refine ⟨_, rfl, _, _, _, _, _, rfl, .ty _, isi2, kit_ty (kit_b (.int i)), _, rfl, iteF ?_⟩
        refine ⟨_, rfl, _, _, _, _, _, rfl, .ty _, isi2, kit_ty (kit_i (.int i)), _, rfl, iteT ?_⟩
        refine ⟨_, rfl, _, _, _, _, _, rfl, .ty _, isi1, kit_ty (kit_i (.int i)), _, rfl, iteT ?_⟩
        refine ⟨_, rfl, _, _, _, _, _, rfl, .ty _, isi1, kit_ty (kit_b (.int i)), _, rfl, _, rfl, iteT ⟨_, rfl, _, rfl, rfl, ?_⟩⟩
        rw [decide_eq_true rfl]; exact q
      | str x =>
        cases r2
        refine ⟨_, rfl, rfl, _, rfl, iteF ?_⟩
        refine ⟨_, rfl, _, _, _, _, _, rfl, .ty _, isi2, kit_ty (kit_b (.str x)), _, rfl, iteF ?_⟩
        refine ⟨_, rfl, _, _, _, _, _, rfl, .ty _, isi2, kit_ty (kit_i (.str x)), _, rfl, iteF ?_⟩
        refine ⟨_, rfl, _, _, _, _, _, rfl, .ty _, isi1, kit_ty (kit_s (.str x)), _, rfl, iteT ⟨_, rfl, _, rfl, rfl, ?_⟩⟩
        rw [decide_eq_true rfl]; exact q
end
end D0
namespace D0
open PySem PySem.Spec PyProof.Rows L2 SX NumText
theorem hu_of' {k : Nat} {A : Around} (hr : Room k A) : A.units + 1 < cLine := by have := hr.units; omega
def spThing (CT : Addr) : Sp := fun vs H Q _ => ∃ (p dx : Addr) (z tv : V) (s : Addr), vs = [.ref p, z, tv, .ref s] ∧ H p = some (.ins CT dx []) ∧ Q .non (upd H p (.ins CT dx [(fKind, z), (fTag, tv), (fSlots, .ref s), (fAge, .int 0)]))
/-- the further fields of a bank -/
def More (st n : Nat) (more : List (Str × V)) : Prop := (st = 1 ∧ more = []) ∨ (st = 2 ∧ ∃ md, more = [(fYM, V.int (n : Nat)), (fOM, V.int 0), (fMk, V.ref md)])
/-- a bank without collections -/
structure BkB (K : PySem.W.Frag) (C CT : Addr) (st : Nat) (H : Hp) (B td : Addr) (L : List Th) : Prop where
  bk : ∃ more, BkA K C CT H B td more L ∧ More st L.length more
  keys : L.map Th.key = (List.range L.length).map (tb st)
/-- a reference to the address i -/
def RefV (H : Hp) (i : Int) (v : V) : Prop := ∃ a x, v = .ref a ∧ H a = some (.tup [x, .int i])
section
variable {K : PySem.W.Frag} {C CT : Addr} {st : Nat} {H H' : Hp} {B td : Addr} {L : List Th}
theorem BkB.frame (X : BkB K C CT st H B td L) {F : List Addr} (c : Chg F H H') (d : ∀ a ∈ FB B td L, a ∉ F) : BkB K C CT st H' B td L := by
  obtain ⟨more, Y, m⟩ := X.bk
  exact ⟨⟨more, Y.frame c d, m⟩, X.keys⟩
theorem BkB.same (X : BkB K C CT st H B td L) (s : Same H H') : BkB K C CT st H' B td L := X.frame (F := []) (.same s) (fun _ _ h => by cases h)
theorem BkB.here (X : BkB K C CT st H B td L) : ∀ a ∈ FB B td L, H a ≠ none := by
  obtain ⟨more, Y, m⟩ := X.bk
  exact Y.here
theorem BkB.key_tb (X : BkB K C CT st H B td L) {x : Th} (h : x ∈ L) : ∃ k, k < L.length ∧ x.key = tb st k := by
  have := List.mem_map_of_mem (f := Th.key) h
  rw [X.keys] at this
  obtain ⟨k, h1, h2⟩ := List.mem_map.mp this
  exact ⟨k, List.mem_range.mp h1, h2.symm⟩
theorem BkB.key_new (X : BkB K C CT st H B td L) (h1 : 1 ≤ st) : tb st L.length ∉ L.map Th.key := fun h => by
  rw [X.keys] at h
  obtain ⟨k, g1, g2⟩ := List.mem_map.mp h
  have := List.mem_range.mp g1
  have := tb_inj h1 g2
  omega
theorem More.look {n : Nat} {more : List (Str × V)} (h : More st n more) (td : Addr) : List.lookup (Str.ofString "make") ((fThings, V.ref td) :: more) = none ∧ List.lookup (Str.ofString "set_slot") ((fThings, V.ref td) :: more) = none ∧ List.lookup (Str.ofString "change") ((fThings, V.ref td) :: more) = none ∧
    List.lookup (Str.ofString "remember") ((fThings, V.ref td) :: more) = none ∧ List.lookup (Str.ofString "reach") ((fThings, V.ref td) :: more) = none ∧ List.lookup (Str.ofString "graph") ((fThings, V.ref td) :: more) = none ∧ List.lookup (Str.ofString "meet_all") ((fThings, V.ref td) :: more) = none := by
  rcases h with ⟨_, rfl⟩ | ⟨_, md, rfl⟩ <;> exact ⟨rfl, rfl, rfl, rfl, rfl, rfl, rfl⟩
end
def spSetSlot (K : PySem.W.Frag) (C CT : Addr) (st : Nat) : Sp := fun vs H Q _ => ∃ (B td : Addr) (L : List Th) (v u : V) (i : Nat) (x : Th) (d : D), vs = [.ref B, v, .int i, u] ∧ BkB K C CT st H B td L ∧ RefV H x.key v ∧ x ∈ L ∧ i < x.row.length ∧ Rep H u d ∧
  ∀ H', BkB K C CT st H' B td (putT { x with row := x.row.set i d } L) → Chg [x.s] H H' → Q .non H'
def spChange (K : PySem.W.Frag) (C CT : Addr) (st : Nat) : Sp := fun vs H Q _ => ∃ (B td : Addr) (L : List Th) (v tv : V) (g : Addr) (us : List V) (x : Th) (tag : D) (row : List D), vs = [.ref B, v, tv, .ref g] ∧ BkB K C CT st H B td L ∧ RefV H x.key v ∧ x ∈ L ∧
  Rep H tv tag ∧ H g = some (.lst us) ∧ Reps H us row ∧
  ∀ s' H', BkB K C CT st H' B td (putT { x with tag := tag, row := row, s := s' } L) → Chg [x.t] H H' → H s' = none → Q .non H'
def spMake (K : PySem.W.Frag) (C CT : Addr) (st : Nat) : Sp := fun vs H Q _ => ∃ (B td : Addr) (L : List Th) (z : List Nat) (tv : V) (g : Addr) (us : List V) (tag : D) (row : List D), vs = [.ref B, .str (S z), tv, .ref g] ∧ BkB K C CT st H B td L ∧ L.length ≤ 3000 ∧
  Rep H tv tag ∧ H g = some (.lst us) ∧ Reps H us row ∧
  ∀ t s p H', BkB K C CT st H' B td (L ++ [⟨tb st L.length, t, s, z, tag, row, 0⟩]) → Chg [B, td] H H' → H t = none → H s = none → H' p = some (.tup [.str (Str.ofString "ref"), .int (tb st L.length)]) → Q (.ref p) H'
theorem putT_bkb {K : PySem.W.Frag} {C CT : Addr} {st : Nat} {H : Hp} {B td : Addr} {L : List Th} {more : List (Str × V)} {x : Th} (Y : BkA K C CT H B td more (putT x L)) (m : More st L.length more) (k : L.map Th.key = (List.range L.length).map (tb st)) : BkB K C CT st H B td (putT x L) :=
  ⟨⟨more, Y, by rw [putT_len]; exact m⟩, by rw [putT_keys, putT_len]; exact k⟩
theorem tb2_odd (k : Nat) : tb 2 k % 2 = 1 := by unfold tb; omega
theorem putF_tag (x : Th) (tv tv' : V) (t' : D) (r' : List D) : putF fTag tv' (thF x tv) = thF { x with tag := t', row := r' } tv' := by
  have h : fKind ≠ fTag := by decide +kernel
  unfold thF
  simp only [putF, if_neg h, if_true]
theorem putF_slots (x : Th) (tv : V) (s' : Addr) : putF fSlots (.ref s') (thF x tv) = thF { x with s := s' } tv := by
  have h1 : fKind ≠ fSlots := by decide +kernel
  have h2 : fTag ≠ fSlots := by decide +kernel
  unfold thF
  simp only [putF, if_neg h1, if_neg h2, if_true]
section
variable {P : Program} {w : World} {K : PySem.W.Frag} {mg : Str → Option Value} {base : Heap} {C CT : Addr} {st : Nat}
theorem ok_Thing___init__ (TT : ThT K mg CT) {f : Addr} {fd : FuncData} (F : Fun K "__init__" "Thing.__init__" s_Thing___init__ f fd) : FnOk P w K mg base CX0 1 f fd p_Thing___init__ (spThing CT) := by
  refine F.ok sc_Thing___init__ (fun vs H Q E h => ?_) (fun cdv A outer s H vs Q E hr h => ?_)
  · obtain ⟨p, dx, z, tv, s, rfl, _⟩ := h; rfl
  obtain ⟨p, dx, z, tv, s, rfl, hp, q⟩ := h
  refine ⟨_, (pss_cons (ps_fld (pv 0) (pv 1) rfl)
      (pss_cons (ps_fld (pv 0) (pv 2) rfl)
      (pss_cons (ps_fld (pv 0) (pv 3) rfl)
      (pss_one (ps_fld (pv 0) pe_int rfl))))), ?_⟩
  have f1 : fKind ≠ fTag ∧ fKind ≠ fSlots ∧ fKind ≠ fAge ∧ fTag ≠ fSlots ∧ fTag ≠ fAge ∧ fSlots ≠ fAge := by decide +kernel
  obtain ⟨n1, n2, n3, n4, n5, n6⟩ := f1
  have e1 : putF fKind z [] = [(fKind, z)] := rfl
  have e2 : putF fTag tv [(fKind, z)] = [(fKind, z), (fTag, tv)] := by simp only [putF, if_neg n1]
  have e3 : putF fSlots (V.ref s) [(fKind, z), (fTag, tv)] = [(fKind, z), (fTag, tv), (fSlots, .ref s)] := by simp only [putF, if_neg n2, if_neg n4]
  have e4 : putF fAge (V.int 0) [(fKind, z), (fTag, tv), (fSlots, .ref s)] = [(fKind, z), (fTag, tv), (fSlots, .ref s), (fAge, .int 0)] := by simp only [putF, if_neg n3, if_neg n5, if_neg n6]
  refine ⟨_, rfl, _, rfl, p, CT, dx, [], rfl, hp, TT.cl, TT.n_kind, (by show 0 < 1000; decide), ?_⟩
  refine ⟨_, rfl, _, rfl, p, CT, dx, _, rfl, upd_same, TT.cl, TT.n_tag, (by show 1 < 1000; decide), ?_⟩
  rw [upd_upd]
  refine ⟨_, rfl, _, rfl, p, CT, dx, _, rfl, upd_same, TT.cl, TT.n_slots, (by show (putF fTag tv [(fKind, z)]).length < 1000; rw [e2]; show 2 < 1000; decide), ?_⟩
  rw [upd_upd]
  refine ⟨_, rfl, p, CT, dx, _, rfl, upd_same, TT.cl, TT.n_age, (by show (putF fSlots (V.ref s) (putF fTag tv [(fKind, z)])).length < 1000; rw [e2, e3]; show 3 < 1000; decide), ?_⟩
  rw [upd_upd]
  show Q .non (upd H p (.ins CT dx (putF fAge (V.int 0) (putF fSlots (V.ref s) (putF fTag tv (putF fKind z []))))))
  rw [e1, e2, e3, e4]; exact q
theorem ok_Store_set_slot (TT : ThT K mg CT) (TB : StT K mg C) : OkM P w K mg base C CX0 1 "set_slot" p_Store_set_slot (spSetSlot K C CT 1) := by
  refine TB.g_set_slot.ok sc_Store_set_slot (fun vs H Q E h => ?_) (fun f cdv A outer s H vs Q E hr h => ?_)
  · obtain ⟨B, td, L, v, u, i, x, d, rfl, _⟩ := h; rfl
  obtain ⟨B, td, L, v, u, i, x, d, rfl, X, ⟨a, y, rfl, hv⟩, hx, hi, ru, q⟩ := h
  refine ⟨_, (pss_one (ps_asg (pv 3) (pg_sub (pe_fld (pe_dget (hu_of' hr) (pe_fld (pv 0) rfl) (pe_ix ix_tup (pv 1) pe_int (fun _ _ => rfl)) (fun _ _ => rfl)) rfl) (pv 2) set_list))), ?_⟩
  obtain ⟨more, Y, M⟩ := X.bk
  obtain ⟨dx, dx2, tv, vs, hB, hg, g, r, g2, r2⟩ := Y.look hx
  have vl : vs.length = x.row.length := r2.len
  refine ⟨_, rfl, _, rfl, B, C, dx, _, .ref td, rfl, hB, TB.bk.cl, TB.bk.n_things, rfl, _, rfl, a, _, 1, _, rfl, rfl, SqT.of hv, rfl, td, _, rfl, hg, ?_⟩
  refine ⟨x.t, CT, dx2, _, _, rfl, g, TT.cl, TT.n_slots, rfl, _, rfl, x.s, _, _, i, rfl, rfl, g2, ixN_nat (by omega), ?_⟩
  obtain ⟨Y2, c2⟩ := Y.setRow (vs := vs.set i u) (row := x.row.set i d) hx (r2.set ru)
  exact q _ (putT_bkb Y2 M X.keys) c2
theorem ok_is_young (T : Txt K w mg) : OkD P w K mg base CX0 1 "is_young" p_is_young (fun vs H Q _ => ∃ i : Int, vs = [.int i] ∧ i % 2 = 1 ∧ Q (.bl true) H) := by
  refine T.g_is_young.ok sc_is_young (fun vs H Q E h => ?_) (fun f cdv A outer s H vs Q E hr h => ?_)
  · obtain ⟨i, rfl, _⟩ := h; rfl
  obtain ⟨i, rfl, hi, q⟩ := h
  refine ⟨_, (pss_one (ps_ret (pe_cmpR op_eq (pe_op op_mod (pv 0) pe_int) pe_int (nomark _)))), ?_⟩
  refine ⟨_, rfl, _, _, rfl, rfl, (by show (0 : Int) < _; decide), rfl, ?_⟩
  rw [decide_eq_true (by show V.int (i % 2) = V.int 1; rw [hi])]
  exact q
theorem ok_Heap_remember (T : Txt K w mg) (TB : HeT K mg C) (Oy : OkD P w K mg base CX0 1 "is_young" p_is_young (fun vs H Q _ => ∃ i : Int, vs = [.int i] ∧ i % 2 = 1 ∧ Q (.bl true) H)) :
    OkM P w K mg base C CX0 2 "remember" p_Heap_remember (fun vs H Q _ => ∃ (B : V) (i : Int) (v : V), vs = [B, .int i, v] ∧ i % 2 = 1 ∧ Q .non H) := by
  have On : OkD P w K mg base CX0 0 "refers_to_young" p_refers_to_young (fun _ _ _ _ => False) := T.g_refers_to_young.none fun _ _ _ _ h => h
  refine TB.g_remember.ok sc_Heap_remember (fun vs H Q E h => ?_) (fun f cdv A outer s H vs Q E hr h => ?_)
  · obtain ⟨B, i, v, rfl, _⟩ := h; rfl
  obtain ⟨B, i, v, rfl, hi, q⟩ := h
  refine ⟨_, (pss_one (ps_if (PW.pt (pw_and (pt_not (pt_val (pcall Oy hr (pa_cons (pv 1) pa_nil)))) (pw_and1 (pt_val (pcall On hr (pa_cons (pv 2) pa_nil)))))) (pss_one (ps_dput (hu_of' hr) (pe_fld (pv 0) rfl) (pv 1) pe_bl rfl)) pss_nil)), ?_⟩
  exact ⟨_, rfl, i, rfl, hi, _, rfl, iteF q⟩
theorem ok_Heap_set_slot (TT : ThT K mg CT) (TB : HeT K mg C) (Om : OkM P w K mg base C CX0 2 "remember" p_Heap_remember (fun vs H Q _ => ∃ (B : V) (i : Int) (v : V), vs = [B, .int i, v] ∧ i % 2 = 1 ∧ Q .non H)) : OkM P w K mg base C CX0 3 "set_slot" p_Heap_set_slot (spSetSlot K C CT 2) := by
  refine TB.g_set_slot.ok sc_Heap_set_slot (fun vs H Q E h => ?_) (fun f cdv A outer s H vs Q E hr h => ?_)
  · obtain ⟨B, td, L, v, u, i, x, d, rfl, _⟩ := h; rfl
  obtain ⟨B, td, L, v, u, i, x, d, rfl, X, ⟨a, y, rfl, hv⟩, hx, hi, ru, q⟩ := h
  refine ⟨_, (pss_cons (ps_asg (pv 3) (pg_sub (pe_fld (pe_dget (hu_of' hr) (pe_fld (pv 0) rfl) (pe_ix ix_tup (pv 1) pe_int (fun _ _ => rfl)) (fun _ _ => rfl)) rfl) (pv 2) set_list))
      (pss_one (ps_expr (pmethE Om TB.bk.cl hr pass0 (pv 0) (pa_cons (pe_ix ix_tup (pv 1) pe_int (fun _ _ => rfl)) (pa_cons (pe_lst (pa_cons (pv 3) pa_nil)) pa_nil)))))), ?_⟩
  obtain ⟨more, Y, M⟩ := X.bk
  obtain ⟨k, hk, ek⟩ := X.key_tb hx
  obtain ⟨dx, dx2, tv, vs, hB, hg, g, r, g2, r2⟩ := Y.look hx
  have vl : vs.length = x.row.length := r2.len
  refine ⟨_, rfl, _, rfl, B, C, dx, _, .ref td, rfl, hB, TB.bk.cl, TB.bk.n_things, rfl, _, rfl, a, _, 1, _, rfl, rfl, SqT.of hv, rfl, td, _, rfl, hg, ?_⟩
  refine ⟨x.t, CT, dx2, _, _, rfl, g, TT.cl, TT.n_slots, rfl, _, rfl, x.s, _, _, i, rfl, rfl, g2, ixN_nat (by omega), ?_⟩
  obtain ⟨Y2, c2⟩ := Y.setRow (vs := vs.set i u) (row := x.row.set i d) hx (r2.set ru)
  obtain ⟨dx3, hB3⟩ := Y2.hB
  obtain ⟨_, _, _, nr, _⟩ := M.look td
  refine ⟨_, rfl, B, dx3, _, rfl, hB3, nr, _, rfl, a, _, 1, _, rfl, rfl, SqT.of (c2.tups _ _ hv), rfl, _, rfl, (by show 1 ≤ sizeLine; decide), fun l hl => ⟨_, _, _, rfl, by rw [ek]; exact tb2_odd k, ?_⟩⟩
  exact q _ ((putT_bkb Y2 M X.keys).frame (Chg.new (F := []) hl) (fun _ _ h => by cases h)) (c2.trans (.new hl))
/-- what change leaves -/
theorem change_done {H : Hp} {B td : Addr} {L : List Th} (X : BkB K C CT st H B td L) {x : Th} {dx2 s' : Addr} {tv tv0 : V} {tag : D} {row : List D} {us : List V}
    (hx : x ∈ L) (hg : H x.t = some (.ins CT dx2 (thF x tv0))) (rt : Rep H tv tag) (ru : Reps H us row)
    (hs : upd H x.t (.ins CT dx2 (putF fTag tv (thF x tv0))) s' = none) :
    let H' := upd (upd (upd H x.t (.ins CT dx2 (putF fTag tv (thF x tv0)))) s' (.lst us)) x.t (.ins CT dx2 (putF fSlots (.ref s') (putF fTag tv (thF x tv0))))
    BkB K C CT st H' B td (putT { x with tag := tag, row := row, s := s' } L) ∧ Chg [x.t] H H' ∧ H s' = none ∧ H' x.t = some (.ins CT dx2 (thF { x with tag := tag, row := row, s := s' } tv)) := by
  have nt : s' ≠ x.t := fun z => by rw [z, upd_same] at hs; cases hs
  have f : H s' = none := by rw [upd_ne nt] at hs; exact hs
  have c1 : Chg [x.t] H (upd H x.t (.ins CT dx2 (putF fTag tv (thF x tv0)))) := .upd hg (fun _ z => by cases z) (List.mem_singleton_self _)
  have c2 := c1.trans (Chg.new (F := [x.t]) (o := HO.lst us) hs)
  have h3 : upd (upd H x.t (.ins CT dx2 (putF fTag tv (thF x tv0)))) s' (.lst us) x.t = some (.ins CT dx2 (putF fTag tv (thF x tv0))) := by rw [upd_ne (Ne.symm nt), upd_same]
  have c3 := c2.trans (Chg.upd (o' := HO.ins CT dx2 (putF fSlots (.ref s') (putF fTag tv (thF x tv0)))) h3 (fun _ z => by cases z) (List.mem_singleton_self _))
  have e : putF fSlots (V.ref s') (putF fTag tv (thF x tv0)) = thF { x with tag := tag, row := row, s := s' } tv := by rw [putF_tag x tv0 tv tag row, putF_slots]
  intro H'
  have h4 : H' x.t = some (.ins CT dx2 (thF { x with tag := tag, row := row, s := s' } tv)) := by show upd _ x.t _ x.t = _; rw [upd_same, e]
  have h5 : H' s' = some (.lst us) := by show upd _ x.t _ s' = _; rw [upd_ne nt, upd_same]
  obtain ⟨more, Y, M⟩ := X.bk
  exact ⟨putT_bkb (Y.setAll (x' := { x with tag := tag, row := row, s := s' }) hx rfl rfl f c3 h4 h5 (rt.mono c3.tups) (ru.mono c3.tups)) M X.keys, c3, f, h4⟩
theorem ok_Store_change (T : Txt K w mg) (TT : ThT K mg CT) (TB : StT K mg C) : OkM P w K mg base C CX0 1 "change" p_Store_change (spChange K C CT 1) := by
  refine TB.g_change.ok sc_Store_change (fun vs H Q E h => ?_) (fun f cdv A outer s H vs Q E hr h => ?_)
  · obtain ⟨B, td, L, v, tv, g, us, x, tag, row, rfl, _⟩ := h; rfl
  obtain ⟨B, td, L, v, tv, gl, us, x, tag, row, rfl, X, ⟨a, y, rfl, hv⟩, hx, rt, hgl, ru, q⟩ := h
  refine ⟨_, (pss_cons (ps_set (i := 4) sc_Store_change.nd rfl (.inl rfl) (pe_dget (hu_of' hr) (pe_fld (pv 0) rfl) (pe_ix ix_tup (pv 1) pe_int (fun _ _ => rfl)) (fun _ _ => rfl)))
      (pss_cons (ps_fld (pv 4) (pv 2) rfl)
      (pss_one (ps_fld (pv 4) (pe_callTy call_list_of (by rfl) T.z_list PyProof.Rows.boot_list (pa_cons (pv 3) pa_nil)) rfl)))), ?_⟩
  obtain ⟨more, Y, M⟩ := X.bk
  obtain ⟨dx, dx2, tv0, vs, hB, hg, g, r, g2, r2⟩ := Y.look hx
  refine ⟨_, rfl, B, C, dx, _, .ref td, rfl, hB, TB.bk.cl, TB.bk.n_things, rfl, _, rfl, a, _, 1, _, rfl, rfl, SqT.of hv, rfl, td, _, rfl, hg, ?_⟩
  refine ⟨_, rfl, _, rfl, x.t, CT, dx2, _, rfl, g, TT.cl, TT.n_tag, (by show 4 < 1000; decide), ?_⟩
  have ntl : gl ≠ x.t := ne_ob hgl g (fun z => by cases z)
  refine ⟨_, rfl, gl, us, rfl, .inl (SqL.of (by rw [upd_ne ntl]; exact hgl)), fun s' hs' => ?_⟩
  obtain ⟨X2, c2, f2, h2⟩ := change_done X hx g rt ru hs'
  refine ⟨_, rfl, x.t, CT, dx2, _, rfl, (by rw [upd_ne (fun z => by rw [← z, upd_same] at hs'; cases hs'), upd_same]), TT.cl, TT.n_slots, (by show (putF fTag tv (thF x tv0)).length < 1000; rw [putF_tag x tv0 tv tag row]; show 4 < 1000; decide), ?_⟩
  exact q s' _ X2 c2 f2
theorem ok_Heap_change (T : Txt K w mg) (TT : ThT K mg CT) (TB : HeT K mg C) (Om : OkM P w K mg base C CX0 2 "remember" p_Heap_remember (fun vs H Q _ => ∃ (B : V) (i : Int) (v : V), vs = [B, .int i, v] ∧ i % 2 = 1 ∧ Q .non H)) : OkM P w K mg base C CX0 3 "change" p_Heap_change (spChange K C CT 2) := by
  refine TB.g_change.ok sc_Heap_change (fun vs H Q E h => ?_) (fun f cdv A outer s H vs Q E hr h => ?_)
  · obtain ⟨B, td, L, v, tv, g, us, x, tag, row, rfl, _⟩ := h; rfl
  obtain ⟨B, td, L, v, tv, gl, us, x, tag, row, rfl, X, ⟨a, y, rfl, hv⟩, hx, rt, hgl, ru, q⟩ := h
  refine ⟨_, (pss_cons (ps_set (i := 4) sc_Heap_change.nd rfl (.inl rfl) (pe_dget (hu_of' hr) (pe_fld (pv 0) rfl) (pe_ix ix_tup (pv 1) pe_int (fun _ _ => rfl)) (fun _ _ => rfl)))
      (pss_cons (ps_fld (pv 4) (pv 2) rfl)
      (pss_cons (ps_fld (pv 4) (pe_callTy call_list_of (by rfl) T.z_list PyProof.Rows.boot_list (pa_cons (pv 3) pa_nil)) rfl)
      (pss_one (ps_expr (pmethE Om TB.bk.cl hr pass0 (pv 0) (pa_cons (pe_ix ix_tup (pv 1) pe_int (fun _ _ => rfl)) (pa_cons (pe_fld (pv 4) rfl) pa_nil)))))))), ?_⟩
  obtain ⟨more, Y, M⟩ := X.bk
  obtain ⟨k, hk, ek⟩ := X.key_tb hx
  obtain ⟨dx, dx2, tv0, vs, hB, hg, g, r, g2, r2⟩ := Y.look hx
  refine ⟨_, rfl, B, C, dx, _, .ref td, rfl, hB, TB.bk.cl, TB.bk.n_things, rfl, _, rfl, a, _, 1, _, rfl, rfl, SqT.of hv, rfl, td, _, rfl, hg, ?_⟩
  refine ⟨_, rfl, _, rfl, x.t, CT, dx2, _, rfl, g, TT.cl, TT.n_tag, (by show 4 < 1000; decide), ?_⟩
  have ntl : gl ≠ x.t := ne_ob hgl g (fun z => by cases z)
  refine ⟨_, rfl, gl, us, rfl, .inl (SqL.of (by rw [upd_ne ntl]; exact hgl)), fun s' hs' => ?_⟩
  obtain ⟨X2, c2, f2, h2⟩ := change_done X hx g rt ru hs'
  refine ⟨_, rfl, x.t, CT, dx2, _, rfl, (by rw [upd_ne (fun z => by rw [← z, upd_same] at hs'; cases hs'), upd_same]), TT.cl, TT.n_slots, (by show (putF fTag tv (thF x tv0)).length < 1000; rw [putF_tag x tv0 tv tag row]; show 4 < 1000; decide), ?_⟩
  obtain ⟨more2, Y2, M2⟩ := X2.bk
  obtain ⟨dx3, hB3⟩ := Y2.hB
  obtain ⟨_, _, _, nr, _⟩ := M2.look td
  refine ⟨_, rfl, B, dx3, _, rfl, hB3, nr, _, rfl, a, _, 1, _, rfl, rfl, SqT.of (c2.tups _ _ hv), rfl, _, rfl, x.t, CT, dx2, _, .ref s', rfl, h2, TT.cl, TT.n_slots, rfl, _, _, _, rfl, by rw [ek]; exact tb2_odd k, ?_⟩
  exact q s' _ X2 c2 f2
/-- what make leaves -/
theorem make_done {H H0 : Hp} {B td dxB l x dx : Addr} {L : List Th} {more more' : List (Str × V)} (X : BkA K C CT H B td more L) {y : Th} {tv : V} {us : List V}
    (c0 : Chg [B, td] H H0) (hB : H0 B = some (.ins C dxB ((fThings, .ref td) :: more'))) (hD : H0 td = some (.dK (kvL L))) (nk : y.key ∉ L.map Th.key) (e1 : y.t = x) (e2 : y.s = l) (e3 : y.age = 0)
    (rt : Rep H tv y.tag) (ru : Reps H us y.row) (hl : H0 l = none) (hx : upd H0 l (.lst us) x = none) (hdx : upd H0 l (.lst us) dx = none) (ne : dx ≠ x) :
    let H2 := upd (upd (upd (upd H0 l (.lst us)) dx (.own x)) x (.ins CT dx [])) x (.ins CT dx [(fKind, .str (S y.kind)), (fTag, tv), (fSlots, .ref l), (fAge, .int 0)])
    H2 td = some (.dK (kvL L)) ∧ H2 B = some (.ins C dxB ((fThings, .ref td) :: more')) ∧
    BkA K C CT (upd H2 td (.dK (kvL (L ++ [y])))) B td more' (L ++ [y]) ∧ Chg [B, td] H (upd H2 td (.dK (kvL (L ++ [y])))) ∧ H x = none ∧ H l = none := by
  intro H2
  have up : ∀ {a : Addr}, H0 a = none → H a = none := fun {a} h => c0.live a h
  have nlx : x ≠ l := fun z => by rw [z, upd_same] at hx; cases hx
  have nldx : dx ≠ l := fun z => by rw [z, upd_same] at hdx; cases hdx
  rw [upd_ne nlx] at hx
  rw [upd_ne nldx] at hdx
  have kp : ∀ {a : Addr} {o : HO}, H0 a = some o → H2 a = some o := fun {a o} h => by
    have n1 : a ≠ x := ne_of_none h hx
    have n2 : a ≠ dx := ne_of_none h hdx
    have n3 : a ≠ l := ne_of_none h hl
    show upd _ x _ a = _
    rw [upd_ne n1, upd_ne n1, upd_ne n2, upd_ne n3]; exact h
  have k1 := kp hD
  have k2 := kp hB
  have s2 : Same H0 H2 := fun a o h => kp h
  have c2 : Chg [B, td] H H2 := c0.trans (.same s2)
  have c3 : Chg [B, td] H (upd H2 td (.dK (kvL (L ++ [y])))) := c2.trans (.upd k1 (fun _ z => by cases z) (by simp))
  have q1 : H2 x = some (.ins CT dx (thF y tv)) := by
    have e : thF y tv = [(fKind, .str (S y.kind)), (fTag, tv), (fSlots, .ref l), (fAge, .int 0)] := by unfold thF; rw [e2, e3]
    rw [e]; exact upd_same
  have q2 : H2 l = some (.lst us) := by show upd _ x _ l = _; rw [upd_ne (Ne.symm nlx), upd_ne (Ne.symm nlx), upd_ne (Ne.symm nldx), upd_same]
  have q3 : td ≠ x := ne_of_none hD hx
  have q4 : td ≠ l := ne_of_none hD hl
  refine ⟨k1, k2, X.more_ (vs := us) (x := y) (by rw [e2]; exact up hl) (by rw [e1]; exact up hx) nk c3 (by rw [upd_ne (ne_ob k2 k1 (fun z => by cases z))]; exact k2) upd_same (by rw [e1, upd_ne (Ne.symm q3)]; exact q1) (by rw [e2, upd_ne (Ne.symm q4)]; exact q2) (rt.mono c3.tups) (ru.mono c3.tups), c3, up hx, up hl⟩
theorem ok_Store_make (T : Txt K w mg) (TT : ThT K mg CT) (TB : StT K mg C) : OkM P w K mg base C CX0 3 "make" p_Store_make (spMake K C CT 1) := by
  obtain ⟨fI, fd, M, bI, F⟩ := TT.ini
  have GI := ok_Thing___init__ (P := P) (w := w) (base := base) TT F
  refine TB.g_make.ok sc_Store_make (fun vs H Q E h => ?_) (fun f cdv A outer s H vs Q E hr h => ?_)
  · obtain ⟨B, td, L, z, tv, g, us, tag, row, rfl, _⟩ := h; rfl
  obtain ⟨B, td, L, z, tv, gl, us, tag, row, rfl, X, hlen, rt, hgl, ru, q⟩ := h
  refine ⟨_, (pss_cons (ps_set (i := 4) sc_Store_make.nd rfl (.inl rfl) (pe_callB call_lenD (by rfl) T.z_len PySem.boot_len (pa_cons (pe_fld (pv 0) rfl) pa_nil)))
      (pss_cons (ps_dput (hu_of' hr) (pe_fld (pv 0) rfl) (pv 4) (pe_make M GI (hr.mono (by decide)) rfl TT.gl bI .nil pass0 (pa_cons (pv 1) (pa_cons (pv 2) (pa_cons (pe_callTy call_list_of (by rfl) T.z_list PyProof.Rows.boot_list (pa_cons (pv 3) pa_nil)) pa_nil)))) rfl)
      (pss_one (ps_ret (pe_tup (pa_cons pe_str (pa_cons (pv 4) pa_nil))))))), ?_⟩
  obtain ⟨more, Y, hM⟩ := X.bk
  obtain ⟨dx, hB⟩ := Y.hB
  have lim : (4000 : Nat) < sizeLine := by decide
  have kl := kvL_len L
  have et : ((kvL L).length : Int) = tb 1 L.length := by rw [kl]; unfold tb; omega
  refine ⟨_, rfl, B, C, dx, _, .ref td, rfl, hB, TB.bk.cl, TB.bk.n_things, rfl, td, _, rfl, Y.hD, ?_⟩
  refine ⟨_, rfl, _, rfl, _, rfl, gl, us, rfl, .inl (SqL.of hgl), fun l hl => fun x dxx hx hdx ne => ?_⟩
  obtain ⟨y, hy⟩ : ∃ y : Th, y = ⟨tb 1 L.length, x, l, z, tag, row, 0⟩ := ⟨_, rfl⟩
  have nk : y.key ∉ L.map Th.key := by rw [hy]; exact X.key_new (by omega)
  obtain ⟨k1, k2, Y2, c2, fx, fl⟩ := make_done (CT := CT) (y := y) Y .refl hB Y.hD nk (by rw [hy]) (by rw [hy]) (by rw [hy]) (by rw [hy]; exact rt) (by rw [hy]; exact ru) hl hx hdx ne
  have X2 : BkB K C CT 1 _ B td (L ++ [y]) := ⟨⟨_, Y2, by rcases hM with ⟨a, b⟩ | ⟨a, _⟩; exact .inl ⟨a, b⟩; cases a⟩, by rw [List.map_append, X.keys, List.length_append, hy]; show _ = List.map _ (List.range (L.length + 1)); rw [List.range_succ, List.map_append]; rfl⟩
  rw [hy] at k1 k2 c2 X2
  refine ⟨x, dxx, _, _, l, rfl, upd_same, rfl, ?_⟩
  refine ⟨_, rfl, B, C, dx, _, .ref td, rfl, k2, TB.bk.cl, TB.bk.n_things, rfl, _, rfl, td, _, rfl, .inl ⟨kvL L, .inl (tb 1 L.length), k1, congrArg V.int et, by rw [kl]; omega, rfl⟩, ?_⟩
  have ep := kvL_put nk
  rw [hy] at ep
  have ep : putK (kvL L) (.inl (tb 1 L.length)) (.ref x) = kvL (L ++ [⟨tb 1 L.length, x, l, z, tag, row, 0⟩]) := ep
  rw [ep]
  refine ⟨_, rfl, (by show 2 ≤ sizeLine; omega), fun p hp => ?_⟩
  exact q x l p _ (X2.frame (Chg.new (F := []) hp) (fun _ _ h => by cases h)) (c2.trans (.new hp)) fx fl (by rw [upd_same, et])
theorem ok_Heap_make (T : Txt K w mg) (TT : ThT K mg CT) (TB : HeT K mg C) : OkM P w K mg base C CX0 3 "make" p_Heap_make (spMake K C CT 2) := by
  obtain ⟨fI, fd, M, bI, F⟩ := TT.ini
  have GI := ok_Thing___init__ (P := P) (w := w) (base := base) TT F
  refine TB.g_make.ok sc_Heap_make (fun vs H Q E h => ?_) (fun f cdv A outer s H vs Q E hr h => ?_)
  · obtain ⟨B, td, L, z, tv, g, us, tag, row, rfl, _⟩ := h; rfl
  obtain ⟨B, td, L, z, tv, gl, us, tag, row, rfl, X, hlen, rt, hgl, ru, q⟩ := h
  refine ⟨_, (pss_cons (ps_set (i := 4) sc_Heap_make.nd rfl (.inl rfl) (pe_op op_add (pe_op op_mul pe_int (pe_fld (pv 0) rfl)) pe_int))
      (pss_cons (ps_fldaug (pv 0) pe_int ip_add)
      (pss_cons (ps_dput (hu_of' hr) (pe_fld (pv 0) rfl) (pv 4) (pe_make M GI (hr.mono (by decide)) rfl TT.gl bI .nil pass0 (pa_cons (pv 1) (pa_cons (pv 2) (pa_cons (pe_callTy call_list_of (by rfl) T.z_list PyProof.Rows.boot_list (pa_cons (pv 3) pa_nil)) pa_nil)))) rfl)
      (pss_one (ps_ret (pe_tup (pa_cons pe_str (pa_cons (pv 4) pa_nil)))))))), ?_⟩
  obtain ⟨more, Y, hM⟩ := X.bk
  obtain ⟨dx, hB⟩ := Y.hB
  obtain ⟨md, rfl⟩ : ∃ md, more = [(fYM, V.int (L.length : Nat)), (fOM, V.int 0), (fMk, V.ref md)] := by
    rcases hM with ⟨h, _⟩ | ⟨_, h⟩
    · cases h
    · exact h
  have lim : (4000 : Nat) < sizeLine := by decide
  have kl := kvL_len L
  have et : (2 * (L.length : Int) + 1 : Int) = tb 2 L.length := by unfold tb; omega
  have n1 : fThings ≠ fYM := by decide +kernel
  have ep : putF fYM (V.int ((L.length : Int) + 1)) ((fThings, V.ref td) :: [(fYM, V.int (L.length : Nat)), (fOM, V.int 0), (fMk, V.ref md)]) = (fThings, V.ref td) :: [(fYM, V.int ((L.length + 1 : Nat) : Int)), (fOM, V.int 0), (fMk, V.ref md)] := by
    simp only [putF, if_neg n1, if_true]; rfl
  refine ⟨_, rfl, B, C, dx, _, .int (L.length : Nat), rfl, hB, TB.bk.cl, TB.n_young_many, rfl, _, _, rfl, rfl, .inl ⟨by decide, by decide⟩, _, _, rfl, rfl, ?_⟩
  refine ⟨_, rfl, B, C, dx, _, .int (L.length : Nat), rfl, hB, TB.bk.cl, TB.n_young_many, rfl, _, _, rfl, rfl, dx, _, hB, (by show 4 < 1000; decide), ?_⟩
  have nBg : gl ≠ B := ne_ob hgl hB (fun z => by cases z)
  have ntB : td ≠ B := ne_ob Y.hD hB (fun z => by cases z)
  have c0 : Chg [B, td] H (upd H B (.ins C dx (putF fYM (V.int ((L.length : Int) + 1)) ((fThings, V.ref td) :: [(fYM, V.int (L.length : Nat)), (fOM, V.int 0), (fMk, V.ref md)])))) := .upd hB (fun _ z => by cases z) (by simp)
  have hB0 : upd H B (.ins C dx (putF fYM (V.int ((L.length : Int) + 1)) ((fThings, V.ref td) :: [(fYM, V.int (L.length : Nat)), (fOM, V.int 0), (fMk, V.ref md)]))) B = some (.ins C dx ((fThings, V.ref td) :: [(fYM, V.int ((L.length + 1 : Nat) : Int)), (fOM, V.int 0), (fMk, V.ref md)])) := by rw [upd_same, ep]
  have hD0 : upd H B (.ins C dx (putF fYM (V.int ((L.length : Int) + 1)) ((fThings, V.ref td) :: [(fYM, V.int (L.length : Nat)), (fOM, V.int 0), (fMk, V.ref md)]))) td = some (.dK (kvL L)) := by rw [upd_ne ntB]; exact Y.hD
  refine ⟨_, rfl, _, rfl, _, rfl, gl, us, rfl, .inl (SqL.of (by rw [upd_ne nBg]; exact hgl)), fun l hl => fun x dxx hx hdx ne => ?_⟩
  obtain ⟨y, hy⟩ : ∃ y : Th, y = ⟨tb 2 L.length, x, l, z, tag, row, 0⟩ := ⟨_, rfl⟩
  have nk : y.key ∉ L.map Th.key := by rw [hy]; exact X.key_new (by omega)
  obtain ⟨k1, k2, Y2, c2, fx, fl⟩ := make_done (CT := CT) (y := y) Y c0 hB0 hD0 nk (by rw [hy]) (by rw [hy]) (by rw [hy]) (by rw [hy]; exact rt) (by rw [hy]; exact ru) hl hx hdx ne
  have X2 : BkB K C CT 2 _ B td (L ++ [y]) := ⟨⟨_, Y2, by rw [List.length_append]; exact .inr ⟨rfl, md, rfl⟩⟩, by rw [List.map_append, X.keys, List.length_append, hy]; show _ = List.map _ (List.range (L.length + 1)); rw [List.range_succ, List.map_append]; rfl⟩
  rw [hy] at k1 k2 c2 X2
  refine ⟨x, dxx, _, _, l, rfl, upd_same, rfl, ?_⟩
  refine ⟨_, rfl, B, C, dx, _, .ref td, rfl, k2, TB.bk.cl, TB.bk.n_things, rfl, _, rfl, td, _, rfl, .inl ⟨kvL L, .inl (tb 2 L.length), k1, congrArg V.int et, by rw [kl]; omega, rfl⟩, ?_⟩
  have ep2 := kvL_put nk
  rw [hy] at ep2
  have ep2 : putK (kvL L) (.inl (tb 2 L.length)) (.ref x) = kvL (L ++ [⟨tb 2 L.length, x, l, z, tag, row, 0⟩]) := ep2
  rw [ep2]
  refine ⟨_, rfl, (by show 2 ≤ sizeLine; omega), fun p hp => ?_⟩
  exact q x l p _ (X2.frame (Chg.new (F := []) hp) (fun _ _ h => by cases h)) (c2.trans (.new hp)) fx fl (by rw [upd_same, ← et])
end
end D0
namespace D0
open PySem PySem.Spec PyProof.Rows L2 SX NumText
/-- what Store has further -/
structure StX (K : PySem.W.Frag) (mg : Str → Option Value) (C : Addr) : Prop where
  cr : ∃ mc, ClX.CRead K C mc ∧ (∃ fI fd, PySem.W.findCls K (.ref C) mc "__init__" = some (.val (.ref fI)) ∧ PySem.W.keepIn K (.ref fI) = true ∧ Binds K fd p_Store___init__ [] ∧ Fun K "__init__" "Store.__init__" s_Store___init__ fI fd)
def spStoreInit (K : PySem.W.Frag) : Sp := fun vs H Q _ => ∃ (B C dx : Addr), vs = [.ref B] ∧ H B = some (.ins C dx []) ∧ Cls K C ∧ NoAttr K C "things" ∧ ∀ td, H td = none → Q .non (upd (upd H td (.dK [])) B (.ins C dx [(fThings, .ref td)]))
def spHeapInit (K : PySem.W.Frag) (C CT : Addr) : Sp := fun vs H Q _ => ∃ (B dx : Addr), vs = [.ref B] ∧ H B = some (.ins C dx []) ∧ ∀ td H', BkB K C CT 2 H' B td [] → (∀ a o, a ≠ B → H a = some o → H' a = some o) → H td = none → Q .non H'
/-- what an entry's object is told as -/
def optV (f : Nat → Int) : Option Nat → V
  | none => .non
  | some k => .int (f k)
def spAddr0 : Sp := fun vs H Q _ => ∃ (v : V) (e : En) (f : Nat → Int) (m : Nat), vs = [v] ∧ Rep H v (e.d f) ∧ e.ok m ∧ Q (optV f e.tg) H
def spAddrP : Sp := fun vs H Q _ => ∃ (v : V) (r : Int) (e : En) (f : Nat → Int) (m : Nat), vs = [v] ∧ Rep H v ((Ent.pend r e).d f) ∧ e.ok m ∧ Q (optV f e.tg) H
def spAddr : Sp := fun vs H Q _ => ∃ (v : V) (e : Ent) (f : Nat → Int) (m : Nat), vs = [v] ∧ Rep H v (e.d f) ∧ e.ok m ∧ Q (optV f e.tg) H
def spPMov0 : Sp := fun vs H Q _ => ∃ (v : V) (t : Addr) (e : En) (f g : Nat → Int) (m : Nat) (kvs : List (Key × V)), vs = [v, .ref t] ∧ Rep H v (e.d f) ∧ e.ok m ∧ H t = some (.dK kvs) ∧ (∀ x, e.tg = some x → valV kvs (.inl (f x)) = some (.int (g x))) ∧ ∀ v' H', Same H H' → Rep H' v' (e.d g) → Q v' H'
def spPMovP : Sp := fun vs H Q _ => ∃ (v : V) (t : Addr) (r : Int) (e : En) (f g : Nat → Int) (m : Nat) (kvs : List (Key × V)), vs = [v, .ref t] ∧ Rep H v ((Ent.pend r e).d f) ∧ e.ok m ∧ H t = some (.dK kvs) ∧ (∀ x, e.tg = some x → valV kvs (.inl (f x)) = some (.int (g x))) ∧ ∀ v' H', Same H H' → Rep H' v' ((Ent.pend r e).d g) → Q v' H'
def spPMov : Sp := fun vs H Q _ => ∃ (v : V) (t : Addr) (e : Ent) (f g : Nat → Int) (m : Nat) (kvs : List (Key × V)), vs = [v, .ref t] ∧ Rep H v (e.d f) ∧ e.ok m ∧ H t = some (.dK kvs) ∧ (∀ x, e.tg = some x → valV kvs (.inl (f x)) = some (.int (g x))) ∧ ∀ v' H', Same H H' → Rep H' v' (e.d g) → Q v' H'
section
variable {P : Program} {w : World} {K : PySem.W.Frag} {mg : Str → Option Value} {base : Heap} {C CT : Addr}
theorem ok_Store___init__ {f : Addr} {fd : FuncData} (F : Fun K "__init__" "Store.__init__" s_Store___init__ f fd) : FnOk P w K mg base CX0 1 f fd p_Store___init__ (spStoreInit K) := by
  refine F.ok sc_Store___init__ (fun vs H Q E h => ?_) (fun cdv A outer s H vs Q E hr h => ?_)
  · obtain ⟨B, C, dx, rfl, _⟩ := h; rfl
  obtain ⟨B, C, dx, rfl, hB, cl, na, q⟩ := h
  refine ⟨_, (pss_one (ps_fld (pv 0) pe_dnewK rfl)), ?_⟩
  intro td htd
  exact ⟨_, rfl, B, C, dx, [], rfl, (by rw [upd_ne (ne_of_none hB htd)]; exact hB), cl, na, (by show 0 < 1000; decide), q td htd⟩
theorem ok_Heap___init__ {CS : Addr} (TS : StT K mg CS) (TX : StX K mg CS) (TB : HeT K mg C) {f : Addr} {fd : FuncData} (F : Fun K "__init__" "Heap.__init__" s_Heap___init__ f fd) : FnOk P w K mg base CX0 2 f fd p_Heap___init__ (spHeapInit K C CT) := by
  obtain ⟨mc, cr, ⟨fI, fdI, hf, kp, hb, FI⟩⟩ := TX.cr
  have GI := ok_Store___init__ (P := P) (w := w) (mg := mg) (base := base) FI
  refine F.ok sc_Heap___init__ (fun vs H Q E h => ?_) (fun cdv A outer s H vs Q E hr h => ?_)
  · obtain ⟨B, dx, rfl, _⟩ := h; rfl
  obtain ⟨B, dx, rfl, hB, q⟩ := h
  refine ⟨_, (pss_cons (ps_expr (pe_ccall (pe_glob (v := .ref CS) rfl TS.gl rfl) cr hf kp GI hr hb pass0 (pa_cons (pv 0) pa_nil)))
      (pss_cons (ps_fld (pv 0) pe_int rfl)
      (pss_cons (ps_fld (pv 0) pe_int rfl)
      (pss_one (ps_fld (pv 0) pe_dnewK rfl))))), ?_⟩
  refine ⟨rfl, _, rfl, B, C, dx, rfl, hB, TB.bk.cl, TB.bk.n_things, fun td htd => ?_⟩
  have n1 : fThings ≠ fYM ∧ fThings ≠ fOM ∧ fThings ≠ fMk ∧ fYM ≠ fOM ∧ fYM ≠ fMk ∧ fOM ≠ fMk := by decide +kernel
  obtain ⟨n1, n2, n3, n4, n5, n6⟩ := n1
  have nb : B ≠ td := ne_of_none hB htd
  have e1 : putF fYM (V.int 0) [(fThings, V.ref td)] = [(fThings, V.ref td), (fYM, .int 0)] := by simp only [putF, if_neg n1]
  have e2 : putF fOM (V.int 0) [(fThings, V.ref td), (fYM, .int 0)] = [(fThings, V.ref td), (fYM, .int 0), (fOM, .int 0)] := by simp only [putF, if_neg n2, if_neg n4]
  have e3 : ∀ md, putF fMk (V.ref md) [(fThings, V.ref td), (fYM, .int 0), (fOM, .int 0)] = [(fThings, V.ref td), (fYM, .int 0), (fOM, .int 0), (fMk, .ref md)] := fun md => by simp only [putF, if_neg n3, if_neg n5, if_neg n6]
  refine ⟨_, rfl, B, C, dx, _, rfl, upd_same, TB.bk.cl, TB.n_young_many, (by show 1 < 1000; decide), ?_⟩
  rw [upd_upd]
  refine ⟨_, rfl, B, C, dx, _, rfl, upd_same, TB.bk.cl, TB.n_old_many, (by show (putF fYM (V.int 0) [(fThings, V.ref td)]).length < 1000; rw [e1]; show 2 < 1000; decide), ?_⟩
  rw [upd_upd]
  intro md hmd
  have hmd' : upd (upd H td (.dK [])) B (.ins C dx (putF fOM (V.int 0) (putF fYM (V.int 0) [(fThings, V.ref td)]))) md = none := hmd
  have nm : md ≠ B := fun z => by rw [z, upd_same] at hmd'; cases hmd'
  refine ⟨_, rfl, B, C, dx, _, rfl, (by rw [upd_ne (Ne.symm nm), upd_same]), TB.bk.cl, TB.n_marked, (by show (putF fOM (V.int 0) (putF fYM (V.int 0) [(fThings, V.ref td)])).length < 1000; rw [e1, e2]; show 3 < 1000; decide), ?_⟩
  have nmt : md ≠ td := fun z => by rw [z, upd_ne (Ne.symm nb), upd_same] at hmd'; cases hmd'
  refine q td _ ⟨⟨[(fYM, .int 0), (fOM, .int 0), (fMk, .ref md)], BkA.empty (dx := dx) ?_ ?_, .inr ⟨rfl, md, rfl⟩⟩, rfl⟩ (fun a o na ha => ?_) htd
  · rw [upd_same]
    show some (HO.ins C dx (putF fMk (V.ref md) (putF fOM (V.int 0) (putF fYM (V.int 0) [(fThings, V.ref td)])))) = _
    rw [e1, e2, e3]
  · rw [upd_ne (Ne.symm nb), upd_ne (Ne.symm nmt), upd_ne (Ne.symm nb), upd_same]
  · have n7 : a ≠ td := ne_of_none ha htd
    have n8 : a ≠ md := fun z => by
      rw [z] at ha na
      rw [upd_ne na, upd_ne nmt, ha] at hmd'; cases hmd'
    rw [upd_ne na, upd_ne n8, upd_ne na, upd_ne n7]; exact ha
theorem okm0_address_of (T : Txt K w mg) : OkD P w K mg base CX0 1 "address_of" p_address_of spAddr0 := by
  have O : OkD P w K mg base CX0 0 "address_of" p_address_of (fun _ _ _ _ => False) := T.g_address_of.none fun _ _ _ _ h => h
  refine T.g_address_of.ok sc_address_of (fun vs H Q E h => ?_) (fun f cdv A outer s H vs Q E hr h => ?_)
  · obtain ⟨v, e, f, m, rfl, _⟩ := h; rfl
  obtain ⟨v, e, f, m, rfl, rv, oe, q⟩ := h
  refine ⟨_, (pss_cons (ps_set (i := 1) sc_address_of.nd rfl (.inl rfl) (pe_ix ix_tup (pv 0) pe_int (fun _ _ => rfl)))
      (pss_cons (ps_if (PW.pt (pw_or (pt_cmpR op_eq (pv 1) pe_str (nomark _)) (pw_or1 (pt_cmpR op_eq (pv 1) pe_str (nomark _))))) (pss_one (ps_ret (pe_ix ix_tup (pv 0) pe_int (fun _ _ => rfl)))) pss_nil)
      (pss_cons (ps_if (pt_cmpR op_eq (pv 1) pe_str (nomark _)) (pss_one (ps_ret (pcall O hr (pa_cons (pe_ix ix_tup (pv 0) pe_int (fun _ _ => rfl)) pa_nil)))) pss_nil)
      (pss_one (ps_ret pe_non))))), ?_⟩
  have dd : ∀ a c : List Nat, decide (V.str (S a) = V.str (S c)) = decide (a = c) := str_dec
  obtain ⟨n1, n2, n3, n4, n5, n6⟩ := n_rh
  cases e with
  | ref k =>
    obtain ⟨a, rfl, h⟩ := rep_two_inv rv
    refine ⟨_, rfl, a, _, 0, .str (S wRef), rfl, rfl, SqT.of h, rfl, _, rfl, rfl, _, rfl, ?_⟩
    rw [eR, dd, decide_eq_true rfl]
    exact iteT (iteT ⟨_, rfl, a, _, 1, _, rfl, rfl, SqT.of h, rfl, q⟩)
  | hand k =>
    obtain ⟨a, rfl, h⟩ := rep_two_inv rv
    refine ⟨_, rfl, a, _, 0, .str (S wHandled), rfl, rfl, SqT.of h, rfl, _, rfl, rfl, _, rfl, ?_⟩
    rw [eR, dd, decide_eq_false n4]
    refine iteF ⟨_, rfl, rfl, _, rfl, ?_⟩
    rw [eH, dd, decide_eq_true rfl]
    exact iteT ⟨_, rfl, a, _, 1, _, rfl, rfl, SqT.of h, rfl, q⟩
  | oth l ds =>
    obtain ⟨o1, o2, o3, o4⟩ := oe
    obtain ⟨a, us, rfl, h, _⟩ := rep_cons_inv rv
    have z0 : atI (V.str (S l) :: us) ((0 : Nat) : Int) = some (.str (S l)) := atI_nat rfl
    refine ⟨_, rfl, a, _, 0, .str (S l), rfl, rfl, SqT.of h, z0, _, rfl, rfl, _, rfl, ?_⟩
    rw [eR, dd, decide_eq_false o1]
    refine iteF ⟨_, rfl, rfl, _, rfl, ?_⟩
    rw [eH, dd, decide_eq_false o2]
    refine iteF ⟨_, rfl, rfl, _, rfl, ?_⟩
    rw [eP, dd, decide_eq_false o3]
    exact iteF q
theorem okmp_address_of (T : Txt K w mg) : OkD P w K mg base CX0 2 "address_of" p_address_of spAddrP := by
  have O := okm0_address_of (P := P) (base := base) T
  refine T.g_address_of.ok sc_address_of (fun vs H Q E h => ?_) (fun f cdv A outer s H vs Q E hr h => ?_)
  · obtain ⟨v, r, e, f, m, rfl, _⟩ := h; rfl
  obtain ⟨v, r, e, f, m, rfl, rv, oe, q⟩ := h
  refine ⟨_, (pss_cons (ps_set (i := 1) sc_address_of.nd rfl (.inl rfl) (pe_ix ix_tup (pv 0) pe_int (fun _ _ => rfl)))
      (pss_cons (ps_if (PW.pt (pw_or (pt_cmpR op_eq (pv 1) pe_str (nomark _)) (pw_or1 (pt_cmpR op_eq (pv 1) pe_str (nomark _))))) (pss_one (ps_ret (pe_ix ix_tup (pv 0) pe_int (fun _ _ => rfl)))) pss_nil)
      (pss_cons (ps_if (pt_cmpR op_eq (pv 1) pe_str (nomark _)) (pss_one (ps_ret (pcall O hr (pa_cons (pe_ix ix_tup (pv 0) pe_int (fun _ _ => rfl)) pa_nil)))) pss_nil)
      (pss_one (ps_ret pe_non))))), ?_⟩
  obtain ⟨n1, n2, n3, n4, n5, n6⟩ := n_rh
  obtain ⟨a, u, rfl, h, ru⟩ := rep_pend_inv rv
  refine ⟨_, rfl, a, _, 0, .str (S wPending), rfl, rfl, SqT.of h, rfl, _, rfl, rfl, _, rfl, ?_⟩
  rw [eR, str_dec, decide_eq_false n5]
  refine iteF ⟨_, rfl, rfl, _, rfl, ?_⟩
  rw [eH, str_dec, decide_eq_false n6]
  refine iteF ⟨_, rfl, rfl, _, rfl, ?_⟩
  rw [eP, str_dec, decide_eq_true rfl]
  exact iteT ⟨_, rfl, a, _, 2, _, rfl, rfl, SqT.of h, rfl, u, e, f, m, rfl, ru, oe, q⟩
theorem ok_address_of (T : Txt K w mg) : OkD P w K mg base CX0 2 "address_of" p_address_of spAddr := by
  refine (((okm0_address_of T).mono (by omega)).or (okmp_address_of T)).imp fun vs H Q E h => ?_
  obtain ⟨v, e, f, m, rfl, rv, oe, q⟩ := h
  cases e with
  | pl e => exact .inl ⟨v, e, f, m, rfl, rv, oe, q⟩
  | pend r e => exact .inr ⟨v, r, e, f, m, rfl, rv, oe, q⟩
theorem okm0_moved (T : Txt K w mg) : OkD P w K mg base CX0 1 "moved" p_moved spPMov0 := by
  have O : OkD P w K mg base CX0 0 "moved" p_moved (fun _ _ _ _ => False) := T.g_moved.none fun _ _ _ _ h => h
  refine T.g_moved.ok sc_moved (fun vs H Q E h => ?_) (fun f cdv A outer s H vs Q E hr h => ?_)
  · obtain ⟨v, t, e, f, g, m, kvs, rfl, _⟩ := h; rfl
  obtain ⟨v, t, e, f, g, m, kvs, rfl, rv, oe, ht, hk, q⟩ := h
  refine ⟨_, (pss_cons (ps_set (i := 2) sc_moved.nd rfl (.inl rfl) (pe_ix ix_tup (pv 0) pe_int (fun _ _ => rfl)))
      (pss_cons (ps_if (PW.pt (pw_or (pt_cmpR op_eq (pv 2) pe_str (nomark _)) (pw_or1 (pt_cmpR op_eq (pv 2) pe_str (nomark _))))) (pss_one (ps_ret (pe_tup (pa_cons (pv 2) (pa_cons (pe_dget2 (hu_of' hr) (pv 1) (pe_ix ix_tup (pv 0) pe_int (fun _ _ => rfl)) (pe_ix ix_tup (pv 0) pe_int (fun _ _ => rfl)) ⟨rfl, rfl, rfl, rfl⟩) pa_nil))))) pss_nil)
      (pss_cons (ps_if (pt_cmpR op_eq (pv 2) pe_str (nomark _)) (pss_one (ps_ret (pe_tup (pa_cons (pv 2) (pa_cons (pe_ix ix_tup (pv 0) pe_int (fun _ _ => rfl)) (pa_cons (pcall O hr (pa_cons (pe_ix ix_tup (pv 0) pe_int (fun _ _ => rfl)) (pa_cons (pv 1) pa_nil))) pa_nil)))))) pss_nil)
      (pss_one (ps_ret (pv 0)))))), ?_⟩
  have dd : ∀ a c : List Nat, decide (V.str (S a) = V.str (S c)) = decide (a = c) := str_dec
  have two : 2 ≤ sizeLine := by decide
  obtain ⟨n1, n2, n3, n4, n5, n6⟩ := n_rh
  cases e with
  | ref k =>
    obtain ⟨a, rfl, h⟩ := rep_two_inv rv
    refine ⟨_, rfl, a, _, 0, .str (S wRef), rfl, rfl, SqT.of h, rfl, _, rfl, rfl, _, rfl, ?_⟩
    rw [eR, dd, decide_eq_true rfl]
    refine iteT (iteT ⟨_, rfl, _, rfl, t, rfl, .inl ⟨kvs, .inl ht⟩, _, rfl, a, _, 1, _, rfl, rfl, SqT.of h, rfl, _, rfl, a, _, 1, _, rfl, rfl, SqT.of h, rfl, _, DGet.k (k := Sum.inl (f k)) ht, ?_⟩)
    rw [hk k rfl]
    exact ⟨two, fun p hp => q _ _ (same_new hp _) (Rep.two upd_same (.str wRef) (.int _))⟩
  | hand k =>
    obtain ⟨a, rfl, h⟩ := rep_two_inv rv
    refine ⟨_, rfl, a, _, 0, .str (S wHandled), rfl, rfl, SqT.of h, rfl, _, rfl, rfl, _, rfl, ?_⟩
    rw [eR, dd, decide_eq_false n4]
    refine iteF ⟨_, rfl, rfl, _, rfl, ?_⟩
    rw [eH, dd, decide_eq_true rfl]
    refine iteT ⟨_, rfl, _, rfl, t, rfl, .inl ⟨kvs, .inl ht⟩, _, rfl, a, _, 1, _, rfl, rfl, SqT.of h, rfl, _, rfl, a, _, 1, _, rfl, rfl, SqT.of h, rfl, _, DGet.k (k := Sum.inl (f k)) ht, ?_⟩
    rw [hk k rfl]
    exact ⟨two, fun p hp => q _ _ (same_new hp _) (Rep.two upd_same (.str wHandled) (.int _))⟩
  | oth l ds =>
    have rv0 := rv
    obtain ⟨o1, o2, o3, o4⟩ := oe
    obtain ⟨a, us, rfl, h, _⟩ := rep_cons_inv rv
    have z0 : atI (V.str (S l) :: us) ((0 : Nat) : Int) = some (.str (S l)) := atI_nat rfl
    refine ⟨_, rfl, a, _, 0, .str (S l), rfl, rfl, SqT.of h, z0, _, rfl, rfl, _, rfl, ?_⟩
    rw [eR, dd, decide_eq_false o1]
    refine iteF ⟨_, rfl, rfl, _, rfl, ?_⟩
    rw [eH, dd, decide_eq_false o2]
    refine iteF ⟨_, rfl, rfl, _, rfl, ?_⟩
    rw [eP, dd, decide_eq_false o3]
    exact iteF ⟨_, rfl, q _ _ (.refl _) rv0⟩
theorem okmp_moved (T : Txt K w mg) : OkD P w K mg base CX0 2 "moved" p_moved spPMovP := by
  have O := okm0_moved (P := P) (base := base) T
  refine T.g_moved.ok sc_moved (fun vs H Q E h => ?_) (fun f cdv A outer s H vs Q E hr h => ?_)
  · obtain ⟨v, t, r, e, f, g, m, kvs, rfl, _⟩ := h; rfl
  obtain ⟨v, t, r, e, f, g, m, kvs, rfl, rv, oe, ht, hk, q⟩ := h
  refine ⟨_, (pss_cons (ps_set (i := 2) sc_moved.nd rfl (.inl rfl) (pe_ix ix_tup (pv 0) pe_int (fun _ _ => rfl)))
      (pss_cons (ps_if (PW.pt (pw_or (pt_cmpR op_eq (pv 2) pe_str (nomark _)) (pw_or1 (pt_cmpR op_eq (pv 2) pe_str (nomark _))))) (pss_one (ps_ret (pe_tup (pa_cons (pv 2) (pa_cons (pe_dget2 (hu_of' hr) (pv 1) (pe_ix ix_tup (pv 0) pe_int (fun _ _ => rfl)) (pe_ix ix_tup (pv 0) pe_int (fun _ _ => rfl)) ⟨rfl, rfl, rfl, rfl⟩) pa_nil))))) pss_nil)
      (pss_cons (ps_if (pt_cmpR op_eq (pv 2) pe_str (nomark _)) (pss_one (ps_ret (pe_tup (pa_cons (pv 2) (pa_cons (pe_ix ix_tup (pv 0) pe_int (fun _ _ => rfl)) (pa_cons (pcall O hr (pa_cons (pe_ix ix_tup (pv 0) pe_int (fun _ _ => rfl)) (pa_cons (pv 1) pa_nil))) pa_nil)))))) pss_nil)
      (pss_one (ps_ret (pv 0)))))), ?_⟩
  obtain ⟨n1, n2, n3, n4, n5, n6⟩ := n_rh
  obtain ⟨a, u, rfl, h, ru⟩ := rep_pend_inv rv
  refine ⟨_, rfl, a, _, 0, .str (S wPending), rfl, rfl, SqT.of h, rfl, _, rfl, rfl, _, rfl, ?_⟩
  rw [eR, str_dec, decide_eq_false n5]
  refine iteF ⟨_, rfl, rfl, _, rfl, ?_⟩
  rw [eH, str_dec, decide_eq_false n6]
  refine iteF ⟨_, rfl, rfl, _, rfl, ?_⟩
  rw [eP, str_dec, decide_eq_true rfl]
  refine iteT ⟨_, rfl, _, rfl, a, _, 1, _, rfl, rfl, SqT.of h, rfl, _, rfl, a, _, 2, _, rfl, rfl, SqT.of h, rfl, _, rfl, u, t, e, f, g, m, kvs, rfl, ru, oe, ht, hk, fun v' H1 s1 r1 => ⟨by show 3 ≤ sizeLine; decide, fun p hp => ?_⟩⟩
  exact q _ _ (s1.trans (same_new hp _)) (Rep.three upd_same (.str wPending) (.int r) (r1.mono (.new hp)))
theorem ok_moved (T : Txt K w mg) : OkD P w K mg base CX0 2 "moved" p_moved spPMov := by
  refine (((okm0_moved T).mono (by omega)).or (okmp_moved T)).imp fun vs H Q E h => ?_
  obtain ⟨v, t, e, f, g, m, kvs, rfl, rv, oe, ht, hk, q⟩ := h
  cases e with
  | pl e => exact .inl ⟨v, t, e, f, g, m, kvs, rfl, rv, oe, ht, hk, q⟩
  | pend r e => exact .inr ⟨v, t, r, e, f, g, m, kvs, rfl, rv, oe, ht, hk, q⟩
end
end D0
namespace D0
open PySem PySem.Spec PyProof.Rows L2 SX NumText
/-- L holds the nodes nds at the addresses f -/
structure Vw (L : List Th) (f : Nat → Int) (nds : List Nd) : Prop where
  at_ : ∀ k n, nds[k]? = some n → ∃ x ∈ L, x.key = f k ∧ x.kind = n.kind ∧ x.tag = n.tag ∧ x.row = rowD f n.row
  inj : ∀ i j, i < nds.length → j < nds.length → f i = f j → i = j
def ordV (f : Nat → Int) (os : List Nat) : List V := os.map fun x => V.int (f x)
def metK (f : Nat → Int) (os : List Nat) : List (Key × V) := os.map fun x => (.inl (f x), .bl true)
theorem ordV_len (f : Nat → Int) (os : List Nat) : (ordV f os).length = os.length := by unfold ordV; rw [List.length_map]
theorem metK_len (f : Nat → Int) (os : List Nat) : (metK f os).length = os.length := by unfold metK; rw [List.length_map]
theorem ordV_app (f : Nat → Int) (a b : List Nat) : ordV f (a ++ b) = ordV f a ++ ordV f b := List.map_append
theorem ordV_at {f : Nat → Int} {os : List Nat} {j : Nat} (h : j < os.length) : atI (ordV f os) (j : Int) = some (.int (f os[j])) := atI_nat (by unfold ordV; rw [List.getElem?_map, List.getElem?_eq_getElem h]; rfl)
section
variable {f : Nat → Int} {N : Nat}
theorem metK_get (inj : ∀ i j, i < N → j < N → f i = f j → i = j) : ∀ {os : List Nat} {x : Nat}, (∀ y ∈ os, y < N) → x < N → (valV (metK f os) (.inl (f x))).isSome = decide (x ∈ os)
  | [], x, _, _ => by rfl
  | y :: r, x, h, hx => by
    unfold metK valV
    rw [List.map_cons]
    by_cases e : y = x
    · subst e
      rw [List.find?_cons_of_pos (by simp)]
      rw [decide_eq_true (List.mem_cons_self ..)]; rfl
    · have ih := metK_get inj (os := r) (x := x) (fun z hz => h z (List.mem_cons_of_mem _ hz)) hx
      rw [List.find?_cons_of_neg]
      · rw [show decide (x ∈ y :: r) = decide (x ∈ r) by rw [decide_eq_decide]; simp [Ne.symm e]]
        exact ih
      · intro z
        have z2 : (Sum.inl (f y) : Key) = .inl (f x) := of_decide_eq_true z
        exact e (inj y x (h y (List.mem_cons_self ..)) hx (Sum.inl.inj z2))
theorem metK_put (inj : ∀ i j, i < N → j < N → f i = f j → i = j) {os : List Nat} {x : Nat} (h : ∀ y ∈ os, y < N) (hx : x < N) (n : x ∉ os) : putK (metK f os) (.inl (f x)) (.bl true) = metK f (os ++ [x]) := by
  unfold putK
  rw [if_neg]
  · unfold metK; rw [List.map_append]; rfl
  · intro z
    obtain ⟨kv, h1, h2⟩ := List.any_eq_true.mp z
    obtain ⟨y, hy, rfl⟩ := List.mem_map.mp h1
    have h2 : (Sum.inl (f y) : Key) = .inl (f x) := of_decide_eq_true h2
    exact n (by rw [← inj y x (h y hy) hx (Sum.inl.inj h2)]; exact hy)
/-- numbers for addresses -/
def kvN (f : Nat → Int) : Nat → List Nat → List (Key × V)
  | _, [] => []
  | i, x :: r => (.inl (f x), .int (i : Nat)) :: kvN f (i + 1) r
theorem kvN_app (x : Nat) : ∀ (os : List Nat) (i : Nat), kvN f i (os ++ [x]) = kvN f i os ++ [(.inl (f x), .int ((i + os.length : Nat) : Int))]
  | [], i => rfl
  | a :: r, i => by
    show _ :: kvN f (i + 1) (r ++ [x]) = _ :: (kvN f (i + 1) r ++ _)
    rw [kvN_app x r (i + 1), show i + 1 + r.length = i + (a :: r).length by simp; omega]
theorem kvN_mem : ∀ {os : List Nat} {i : Nat} {kv : Key × V}, kv ∈ kvN f i os → ∃ y ∈ os, kv.1 = .inl (f y)
  | [], _, _, h => by cases h
  | a :: r, i, kv, h => by
    rcases List.mem_cons.mp h with rfl | h
    · exact ⟨a, List.mem_cons_self .., rfl⟩
    · obtain ⟨y, h1, h2⟩ := kvN_mem h
      exact ⟨y, List.mem_cons_of_mem _ h1, h2⟩
theorem kvN_len : ∀ {os : List Nat} {i : Nat}, (kvN f i os).length = os.length
  | [], _ => rfl
  | a :: r, i => congrArg Nat.succ (kvN_len (os := r))
theorem kvN_put (inj : ∀ i j, i < N → j < N → f i = f j → i = j) {os : List Nat} {x : Nat} (h : ∀ y ∈ os, y < N) (hx : x < N) (n : x ∉ os) : putK (kvN f 0 os) (.inl (f x)) (.int (os.length : Nat)) = kvN f 0 (os ++ [x]) := by
  unfold putK
  rw [if_neg]
  · rw [kvN_app, Nat.zero_add]
  · intro z
    obtain ⟨kv, h1, h2⟩ := List.any_eq_true.mp z
    obtain ⟨y, hy, e⟩ := kvN_mem h1
    have h2 : kv.1 = .inl (f x) := of_decide_eq_true h2
    rw [e] at h2
    exact n (by rw [← inj y x (h y hy) hx (Sum.inl.inj h2)]; exact hy)
theorem kvN_get (inj : ∀ i j, i < N → j < N → f i = f j → i = j) : ∀ {os : List Nat} {i j : Nat}, (∀ y ∈ os, y < N) → os.Nodup → (hj : j < os.length) → valV (kvN f i os) (.inl (f os[j])) = some (.int ((i + j : Nat) : Int))
  | a :: r, i, 0, h, nd, hj => by
    unfold kvN valV
    rw [List.find?_cons_of_pos (by simp)]; rfl
  | a :: r, i, j + 1, h, nd, hj => by
    have hj' : j < r.length := by simpa using hj
    rw [List.nodup_cons] at nd
    have ih := kvN_get inj (os := r) (i := i + 1) (j := j) (fun z hz => h z (List.mem_cons_of_mem _ hz)) nd.2 hj'
    unfold kvN valV
    rw [List.getElem_cons_succ]
    rw [List.find?_cons_of_neg]
    · rw [show i + (j + 1) = i + 1 + j by omega]; exact ih
    · intro z
      have z2 : (Sum.inl (f a) : Key) = .inl (f r[j]) := of_decide_eq_true z
      have hm := List.getElem_mem hj'
      have := inj a r[j] (h a (List.mem_cons_self ..)) (h _ (List.mem_cons_of_mem _ hm)) (Sum.inl.inj z2)
      exact nd.1 (by rw [this]; exact hm)
theorem kvN_plc (inj : ∀ i j, i < N → j < N → f i = f j → i = j) {os : List Nat} {x : Nat} (h : ∀ y ∈ os, y < N) (nd : os.Nodup) (hx : x ∈ os) : valV (kvN f 0 os) (.inl (f x)) = some (.int (plc os x)) := by
  obtain ⟨j, hj, rfl⟩ := List.getElem_of_mem hx
  rw [kvN_get inj h nd hj, plc_at nd hj, Nat.zero_add]
end
theorem tgs_one (e : Ent) : tgs [e] = e.tg.toList := by
  unfold tgs
  cases h : e.tg <;> simp [h]
def spMeet : Sp := fun vs H Q _ => ∃ (B a m o : Addr) (ws : List V) (es : List Ent) (f : Nat → Int) (N : Nat) (os : List Nat), vs = [.ref B, .ref a, .ref m, .ref o] ∧ H a = some (.lst ws) ∧ Reps H ws (rowD f es) ∧ (∀ e ∈ es, e.ok N) ∧ N ≤ 2000 ∧
  (∀ i j, i < N → j < N → f i = f j → i = j) ∧ H m = some (.dK (metK f os)) ∧ H o = some (.lst (ordV f os)) ∧ (∀ x ∈ os, x < N) ∧ os.Nodup ∧ a ≠ o ∧
  ∀ H', Chg [m, o] H H' → H' m = some (.dK (metK f (meet (tgs es) os))) → H' o = some (.lst (ordV f (meet (tgs es) os))) → Q .non H'
/-- the steps of reach -/
def RchW (H : Hp) (B a m o : Addr) (nds : List Nd) (f : Nat → Int) (R : List Nat) : Nat → L2.St → Hp → Prop := fun n σ H' => ∃ (os : List Nat) (k : Nat), σ = [some (.ref B), some (.ref a), some (.ref m), some (.ref o), some (.int (k : Nat))] ∧ n = nds.length + 1 - k ∧
  Same H H' ∧ H' m = some (.dK (metK f os)) ∧ H' o = some (.lst (ordV f os)) ∧ (∀ x ∈ os, x < nds.length) ∧ os.Nodup ∧ bfs (scN nds) (nds.length + 1 - k) os k = R
def spReach (K : PySem.W.Frag) (C CT : Addr) : Sp := fun vs H Q _ => ∃ (B td a : Addr) (L : List Th) (more : List (Str × V)) (f : Nat → Int) (nds : List Nd) (ws : List V) (es : List Ent), vs = [.ref B, .ref a] ∧ BkA K C CT H B td more L ∧ List.lookup (Str.ofString "meet_all") ((fThings, V.ref td) :: more) = none ∧
  Vw L f nds ∧ (∀ n ∈ nds, ∀ e ∈ n.row, e.ok nds.length) ∧ nds.length ≤ 2000 ∧ H a = some (.lst ws) ∧ Reps H ws (rowD f es) ∧ (∀ e ∈ es, e.ok nds.length) ∧
  ∀ p H', Same H H' → H p = none → H' p = some (.lst (ordV f (reachN nds es))) → Q (.ref p) H'
section
variable {P : Program} {w : World} {K : PySem.W.Frag} {mg : Str → Option Value} {base : Heap} {C CT : Addr}
theorem ok_meet_all (T : Txt K w mg) (TB : BkT K C) (Oa : OkD P w K mg base CX0 2 "address_of" p_address_of spAddr) : OkM P w K mg base C CX0 3 "meet_all" p_Store_meet_all spMeet := by
  refine TB.g_meet_all.ok sc_Store_meet_all (fun vs H Q E h => ?_) (fun f cdv A outer s H vs Q E hr h => ?_)
  · obtain ⟨B, a, m, o, ws, es, f, N, os, rfl, _⟩ := h; rfl
  obtain ⟨B, a, m, o, ws, es, f, N, os, rfl, ha, rs, oe, hN, inj, hm, ho, lt, nd, nao, q⟩ := h
  refine ⟨_, (pss_one (ps_for PassesOwn.never rfl (pi_list (pv 1)) (pg_name (i := 4) sc_Store_meet_all.nd rfl (Or.inl rfl)) (pss_cons (ps_set (i := 5) sc_Store_meet_all.nd rfl (.inl rfl) (pcall Oa hr (pa_cons (pv 4) pa_nil)))
      (pss_one (ps_if (PW.pt (pw_and (pt_cmpR op_notN (pv 5) pe_non (nomark _)) (pw_and1 (pt_cmp (pc_dnotin (hu_of' hr) (pv 5) (pv 2)))))) (pss_cons (ps_dput (hu_of' hr) (pv 2) (pv 5) pe_bl rfl)
      (pss_one (ps_expr (pe_bm PySem.F.plainAttrs_list PySem.F.slot_list_append PySem.F.type_list_append mt_append (pv 3) (pa_cons (pv 5) pa_nil))))) pss_nil))))), ?_⟩
  have lim : (4000 : Nat) < sizeLine := by decide
  have wl : ws.length = es.length := by rw [rs.len]; unfold rowD; rw [List.length_map]
  have nam : a ≠ m := ne_ob ha hm (fun z => by cases z)
  have nmo : m ≠ o := ne_ob hm ho (fun z => by cases z)
  refine ⟨_, rfl, a, rfl, ⟨ws, SqL.of ha⟩, ?_⟩
  refine for_it (walk_list (xs := ws)) (fun i σ H' => ∃ o4 o5, σ = [some (.ref B), some (.ref a), some (.ref m), some (.ref o), o4, o5] ∧ Chg [m, o] H H' ∧ H' m = some (.dK (metK f (meet (tgs (es.take i)) os))) ∧ H' o = some (.lst (ordV f (meet (tgs (es.take i)) os))))
    ⟨none, none, rfl, .refl, hm, ho⟩ (fun i σ H' _ h => by
      obtain ⟨o4, o5, rfl, c, _⟩ := h
      exact SqL.of (c.keep _ _ (by simp [nam, nao]) ha)) ?_ ?_
  · rintro i x σ H1 H2 hi ⟨o4, o5, rfl, c, h1, h2⟩ ⟨rfl, hx⟩
    have hi' : i < es.length := by omega
    obtain ⟨d, hd, rd⟩ := (rs.mono c.tups).get hx
    have hd' : (es.map (Ent.d f))[i]? = some d := hd
    rw [List.getElem?_map, List.getElem?_eq_getElem hi'] at hd'
    have hd' : es[i].d f = d := Option.some.inj hd'
    subst hd'
    have oei := oe _ (List.getElem_mem hi')
    obtain ⟨os1, e1⟩ : ∃ os1, os1 = meet (tgs (es.take i)) os := ⟨_, rfl⟩
    rw [← e1] at h1 h2
    have lt1 : ∀ y ∈ os1, y < N := fun y hy => by
      rw [e1] at hy
      rcases meet_mem.mp hy with h | h
      · exact lt y h
      · exact tgs_lt (fun e he => oe e (List.mem_of_mem_take he)) y h
    have nd1 : os1.Nodup := by rw [e1]; exact meet_nodup nd
    have l1 := nodup_le N nd1 lt1
    have st : meet (tgs (es.take (i + 1))) os = meet (es[i].tg.toList) os1 := by
      have e : es.take (i + 1) = es.take i ++ [es[i]] := by rw [List.take_add_one, List.getElem?_eq_getElem hi']; rfl
      rw [e, tgs_app, meet_app, e1, tgs_one]
    refine ⟨_, rfl, x, es[i], f, N, rfl, rd, oei, ?_⟩
    cases ht : es[i].tg with
    | none =>
      rw [ht] at st
      refine ⟨_, rfl, rfl, _, rfl, iteF ?_⟩
      exact ⟨_, _, rfl, c, by rw [st]; exact h1, by rw [st]; exact h2⟩
    | some k =>
      rw [ht] at st
      have hk := Ent.tg_lt oei ht
      refine ⟨_, rfl, rfl, _, rfl, iteT ?_⟩
      refine ⟨_, rfl, _, rfl, m, _, rfl, DGet.k (k := Sum.inl (f k)) h1, _, rfl, ?_⟩
      rw [metK_get inj lt1 hk]
      have st2 : meet (some k).toList os1 = put1 os1 k := rfl
      rw [st2] at st
      by_cases hm1 : k ∈ os1
      · rw [decide_eq_true hm1]
        refine iteF ⟨_, _, rfl, c, ?_, ?_⟩
        · rw [st]; unfold put1; rw [if_pos hm1]; exact h1
        · rw [st]; unfold put1; rw [if_pos hm1]; exact h2
      · rw [decide_eq_false hm1]
        refine iteT ⟨_, rfl, _, rfl, m, _, rfl, .inl ⟨_, .inl (f k), h1, rfl, by rw [metK_len]; omega, rfl⟩, ?_⟩
        rw [metK_put inj lt1 hk hm1]
        have h2' : upd H2 m (.dK (metK f (os1 ++ [k]))) o = some (.lst (ordV f os1)) := by rw [upd_ne (Ne.symm nmo)]; exact h2
        refine ⟨_, rfl, .inl ⟨rfl, _, SqL.of h2'⟩, _, rfl, o, _, _, rfl, rfl, h2', by rw [ordV_len]; omega, ?_⟩
        refine ⟨_, _, rfl, (c.trans (.upd h1 (fun _ z => by cases z) (by simp))).trans (.upd h2' (fun _ z => by cases z) (by simp)), ?_, ?_⟩
        · rw [upd_ne nmo, upd_same, st]; unfold put1; rw [if_neg hm1]
        · rw [upd_same, st]; unfold put1; rw [if_neg hm1, ordV_app]; rfl
  · rintro σ H1 ⟨o4, o5, rfl, c, h1, h2⟩
    rw [wl, List.take_length] at h1 h2
    exact q H1 c h1 h2
end
end D0
namespace D0
open PySem PySem.Spec PyProof.Rows L2 SX NumText
theorem Rep.tupOf {H : Hp} {p : Addr} {vs : List V} {ds : List D} (h : H p = some (.tup vs)) (r : Reps H vs ds) (l : ds.length ≤ 2000) : Rep H (.ref p) (.tup ds) := .tup h (by rw [r.len]; exact l) r
theorem same_chg2 {H H1 H2 : Hp} {F : List Addr} (s : Same H H1) (h : ∀ a ∈ F, H a = none) (c : Chg F H1 H2) : Same H H2 := fun a o e => c.keep a o (fun z => by rw [h a z] at e; cases e) (s a o e)
/-- one object as graph tells it -/
def objD (nds : List Nd) (g : Nat → Int) (x : Nat) : D := match nds[x]? with
  | some n => .tup [.str n.kind, n.tag, .tup (rowD g n.row)]
  | none => .non
def graphD (nds : List Nd) (es : List Ent) : D := .tup [.tup (rowD (plc (reachN nds es)) es), .tup ((reachN nds es).map (objD nds (plc (reachN nds es))))]
def spGraph (K : PySem.W.Frag) (C CT : Addr) : Sp := fun vs H Q _ => ∃ (B td a : Addr) (L : List Th) (more : List (Str × V)) (f : Nat → Int) (nds : List Nd) (ws : List V) (es : List Ent), vs = [.ref B, .ref a] ∧ BkA K C CT H B td more L ∧ List.lookup (Str.ofString "meet_all") ((fThings, V.ref td) :: more) = none ∧ List.lookup (Str.ofString "reach") ((fThings, V.ref td) :: more) = none ∧
  Vw L f nds ∧ (∀ n ∈ nds, n.ok nds.length) ∧ nds.length ≤ 2000 ∧ H a = some (.lst ws) ∧ Reps H ws (rowD f es) ∧ (∀ e ∈ es, e.ok nds.length) ∧ es.length ≤ 100 ∧
  ∀ v H', Same H H' → Rep H' v (graphD nds es) → Q v H'
/-- a dict comprehension over what is walked -/
theorem dc_it {J : It} {n : Nat} {G : Hp → Prop} {Y : Nat → Hp → V → Hp → Prop} (w : Walk J n G Y) {g : TG} {tt : TT} {tk tv : TE} {vs : List Nat} {σ : L2.St} {H1 : Hp} {D : Addr} {Qd : Hp → Prop} (Pv : Nat → Hp → Prop)
    (h0 : Pv 0 (upd H1 D (.dK []))) (hG : ∀ i H, i ≤ n → Pv i H → G H)
    (hs : ∀ i x H H', i < n → Pv i H → Y i H x H' → g x (wipe σ vs) H' fun σ2 H2 => wipe σ2 vs = wipe σ vs ∧ tt σ2 H2 fun b H3 =>
      if b = true then tk σ2 H3 fun y H4 => tv σ2 H4 fun z H5 => ∃ kvs k, y = kV k ∧ H5 D = some (.dK kvs) ∧ kvs.length < sizeLine ∧ Pv (i + 1) (upd H5 D (.dK (putK kvs k z))) else Pv (i + 1) H3) (hd : ∀ H, Pv n H → Qd H) :
    ∃ W : Nat → Nat → Hp → Prop, (∃ m, W 0 m (upd H1 D (.dK []))) ∧ ∀ i m H, W i m H → (J.stop i H ∧ Qd H) ∨
      (J.go i H ∧ ∃ Nx : Hp → Prop, (∀ H', Nx H' → ∃ m', m' < m ∧ W (i + 1) m' H') ∧ ∀ x H', J.yld i H x H' → g x (wipe σ vs) H' fun σ2 H2 => wipe σ2 vs = wipe σ vs ∧ tt σ2 H2 fun b H3 =>
        if b = true then tk σ2 H3 fun y H4 => tv σ2 H4 fun z H5 => ∃ kvs k, y = kV k ∧ H5 D = some (.dK kvs) ∧ kvs.length < sizeLine ∧ Nx (upd H5 D (.dK (putK kvs k z))) else Nx H3) := by
  refine ⟨fun i m H => Pv i H ∧ i ≤ n ∧ m = n - i, ⟨n, h0, Nat.zero_le n, (Nat.sub_zero n).symm⟩, fun i m H hW => ?_⟩
  obtain ⟨p, hi, em⟩ := hW
  have hg := hG i H hi p
  rcases Nat.lt_or_ge i n with l | l
  · refine .inr ⟨w.goes i H l hg, Pv (i + 1), fun H' p' => ⟨n - (i + 1), by omega, p', l, rfl⟩, fun x H' y => ?_⟩
    exact hs i x H H' l p (w.yields i H x H' l hg y)
  · have e : i = n := by omega
    subst e
    exact .inl ⟨w.stops H hg, hd H p⟩
section
variable {P : Program} {w : World} {K : PySem.W.Frag} {mg : Str → Option Value} {base : Heap} {C CT : Addr}
theorem ok_reach (T : Txt K w mg) (TT : ThT K mg CT) (TB : BkT K C) (Om : OkM P w K mg base C CX0 3 "meet_all" p_Store_meet_all spMeet) : OkM P w K mg base C CX0 4 "reach" p_Store_reach (spReach K C CT) := by
  refine TB.g_reach.ok sc_Store_reach (fun vs H Q E h => ?_) (fun f cdv A outer s H vs Q E hr h => ?_)
  · obtain ⟨B, td, a, L, more, f, nds, ws, es, rfl, _⟩ := h; rfl
  obtain ⟨B, td, a, L, more, f, nds, ws, es, rfl, X, nl, Z, rok, hN, ha, rs, oe, q⟩ := h
  refine ⟨_, (pss_cons (ps_set (i := 2) sc_Store_reach.nd rfl (.inl rfl) pe_dnewK)
      (pss_cons (ps_set (i := 3) sc_Store_reach.nd rfl (.inl rfl) (pe_lst pa_nil))
      (pss_cons (ps_expr (pmethE Om TB.cl hr pass0 (pv 0) (pa_cons (pv 1) (pa_cons (pv 2) (pa_cons (pv 3) pa_nil)))))
      (pss_cons (ps_set (i := 4) sc_Store_reach.nd rfl (.inl rfl) pe_int)
      (pss_cons (ps_while PassesOwn.never (pt_cmpR op_lt (pv 4) (pe_callB call_len_seq (by rfl) T.z_len PySem.boot_len (pa_cons (pv 3) pa_nil)) (nomark _)) (pss_cons (ps_expr (pmethE Om TB.cl hr pass0 (pv 0) (pa_cons (pe_fld (pe_dget (hu_of' hr) (pe_fld (pv 0) rfl) (pe_ix ix_list (pv 3) (pv 4) (fun _ _ => rfl)) (fun _ _ => rfl)) rfl) (pa_cons (pv 2) (pa_cons (pv 3) pa_nil)))))
      (pss_one (ps_aug (i := 4) sc_Store_reach.nd rfl (.inl rfl) pe_int ip_add))))
      (pss_one (ps_ret (pv 3)))))))), ?_⟩
  obtain ⟨dx0, hB0⟩ := X.hB
  intro m hm
  refine ⟨Nat.zero_le _, fun o ho => ?_⟩
  have s1 := same_new hm (.dK [])
  have s2 := same_new ho (.lst [])
  have S2 := s1.trans s2
  have fo : H o = none := s1.free ho
  have hm2 := s2 _ _ (upd_same (H := H) (a := m) (o := .dK []))
  have ho2 : upd (upd H m (.dK [])) o (.lst []) o = some (.lst []) := upd_same
  generalize upd (upd H m (.dK [])) o (.lst []) = H2 at S2 hm2 ho2
  have nao : a ≠ o := ne_of_none ha fo
  refine ⟨_, rfl, B, dx0, _, rfl, S2 _ _ hB0, nl, _, rfl, _, rfl, _, rfl, B, a, m, o, ws, es, f, nds.length, [], rfl, S2 _ _ ha, rs.mono (.same S2), oe, hN, Z.inj, hm2, ho2, (fun x h => by cases h), List.Pairwise.nil, nao, fun H3 c3 hm3 ho3 => ?_⟩
  have S3 : Same H H3 := same_chg2 S2 (fun b hb => by simp at hb; rcases hb with rfl | rfl; exact hm; exact fo) c3
  have lt0 : ∀ x ∈ meet (tgs es) [], x < nds.length := fun x hx => by
    rcases meet_mem.mp hx with h | h
    · cases h
    · exact tgs_lt oe x h
  refine ⟨RchW H B a m o nds f (reachN nds es), ⟨_, meet (tgs es) [], 0, rfl, rfl, S3, hm3, ho3, lt0, meet_nodup List.Pairwise.nil, rfl⟩, ?_⟩
  rintro n σ H4 ⟨os, k, rfl, rfl, S4, hm4, ho4, lt4, nd4, e4⟩
  have l4 := nodup_le _ nd4 lt4
  refine ⟨_, rfl, _, rfl, o, _, rfl, .inl (SqL.of ho4), _, _, rfl, rfl, _, rfl, ?_⟩
  rw [ordV_len]
  refine ite2 (fun c => ?_) (fun c => ?_)
  · have c := of_decide_eq_true c
    have hk : k < os.length := by omega
    have X4 := X.same S4
    have hx := lt4 _ (List.getElem_mem hk)
    obtain ⟨x, hxL, ek, _, _, er⟩ := Z.at_ os[k] nds[os[k]] (List.getElem?_eq_getElem hx)
    obtain ⟨dx, dx2, tv, us, hB, hg, g, r, g2, r2⟩ := X4.look hxL
    rw [ek] at hg
    rw [er] at r2
    refine ⟨_, fun _ _ h => h, ?_⟩
    refine ⟨_, rfl, B, dx, _, rfl, hB, nl, _, rfl, B, C, dx, _, .ref td, rfl, hB, TB.cl, TB.n_things, rfl, _, rfl, _, rfl, o, _, _, _, rfl, rfl, SqL.of ho4, ordV_at hk, td, _, rfl, hg, ?_⟩
    refine ⟨x.t, CT, dx2, _, .ref x.s, rfl, g, TT.cl, TT.n_slots, rfl, _, rfl, _, rfl, ?_⟩
    have rowok := rok _ (List.getElem_mem hx)
    refine ⟨B, x.s, m, o, us, nds[os[k]].row, f, nds.length, os, rfl, g2, r2, rowok, hN, Z.inj, hm4, ho4, lt4, nd4, ?_, fun H5 c5 hm5 ho5 => ?_⟩
    · intro z
      have : o ∈ FB B td L := by rw [← z]; exact fb_s hxL
      exact X.here o this fo
    have S5 : Same H H5 := same_chg2 S4 (fun b hb => by simp at hb; rcases hb with rfl | rfl; exact hm; exact fo) c5
    refine ⟨_, rfl, _, _, rfl, rfl, _, ?_, meet (tgs nds[os[k]].row) os, k + 1, rfl, rfl, S5, hm5, ho5, fun y hy => ?_, meet_nodup nd4, ?_⟩
    · omega
    · rcases meet_mem.mp hy with h | h
      · exact lt4 y h
      · exact tgs_lt rowok y h
    · rw [← e4, show nds.length + 1 - k = (nds.length + 1 - (k + 1)) + 1 by omega, bfs_step hk, scN_at (List.getElem?_eq_getElem hx)]
  · have c : ¬ ((k : Int) < (os.length : Int)) := of_decide_eq_false (by simpa using c)
    rw [bfs_stop (by omega)] at e4
    subst e4
    exact ⟨_, rfl, q o H4 S4 fo ho4⟩
end
end D0
namespace D0
open PySem PySem.Spec PyProof.Rows L2 SX NumText
theorem rowD_one (f : Nat → Int) (e : Ent) : rowD f [e] = [e.d f] := rfl
theorem rowD_len (f : Nat → Int) (es : List Ent) : (rowD f es).length = es.length := by unfold rowD; rw [List.length_map]
theorem take_next {α : Type} {l : List α} {i : Nat} (h : i < l.length) : l.take (i + 1) = l.take i ++ [l[i]] := by rw [List.take_add_one, List.getElem?_eq_getElem h]; rfl
theorem rows_at {H : Hp} {f : Nat → Int} {vs : List V} {es : List Ent} {i : Nat} {x : V} (r : Reps H vs (rowD f es)) (hx : vs[i]? = some x) : ∃ hi : i < es.length, Rep H x (es[i].d f) := by
  obtain ⟨d, hd, rd⟩ := r.get hx
  have hd' : (es.map (Ent.d f))[i]? = some d := hd
  rw [List.getElem?_map] at hd'
  by_cases hi : i < es.length
  · rw [List.getElem?_eq_getElem hi] at hd'
    exact ⟨hi, by rw [← Option.some.inj hd'] at rd; exact rd⟩
  · rw [List.getElem?_eq_none (by omega)] at hd'; cases hd'
section
variable {P : Program} {w : World} {K : PySem.W.Frag} {mg : Str → Option Value} {base : Heap} {C CT : Addr}
theorem ok_graph (T : Txt K w mg) (TT : ThT K mg CT) (TB : BkT K C) (Orh : OkM P w K mg base C CX0 4 "reach" p_Store_reach (spReach K C CT)) (Om : OkD P w K mg base CX0 2 "moved" p_moved spPMov) : OkM P w K mg base C CX0 5 "graph" p_Store_graph (spGraph K C CT) := by
  refine TB.g_graph.ok sc_Store_graph (fun vs H Q E h => ?_) (fun f cdv A outer s H vs Q E hr h => ?_)
  · obtain ⟨B, td, a, L, more, f, nds, ws, es, rfl, _⟩ := h; rfl
  obtain ⟨B, td, a, L, more, f, nds, ws, es, rfl, X, nl, nl2, Z, rok, hN, ha, rs, oe, hes, q⟩ := h
  refine ⟨_, (pss_cons (ps_set (i := 2) sc_Store_graph.nd rfl (.inl rfl) (pmethE Orh TB.cl hr pass0 (pv 0) (pa_cons (pv 1) pa_nil)))
      (pss_cons (ps_set (i := 4) sc_Store_graph.nd rfl (.inr rfl) (pe_dc (own := [("number", 9), ("address", 3)]) (g := gTup K 2 (gCons (gName 9) (gCons (gName 3) gNil))) (tt := tYes) rfl sc_Store_graph.nd (pi_enum rfl T.z_enumerate (pa_cons (pv 2) pa_nil)) (blkOk_by (own := [("number", 9), ("address", 3)]) (N := n_Store_graph) (sc := defScope s_Store_graph) (by decide +kernel))
      (fun _ _ _ _ _ => pg_tup rfl (pgs_cons (pg_name (i := 9) sc_Store_graph.nd rfl (Or.inl rfl)) (pgs_cons (pg_name (i := 3) sc_Store_graph.nd rfl (Or.inl rfl)) pgs_nil))) (fun _ _ _ _ _ => pts_nil) (fun _ _ _ _ _ => (pv 3)) (fun _ _ _ _ _ => (pv 9))))
      (pss_cons (ps_set (i := 5) sc_Store_graph.nd rfl (.inl rfl) (pe_callTy call_tuple_of (by rfl) T.z_tuple PyProof.Rows.boot_tuple (pa_cons (pe_lc (own := [("entry", 10)]) (g := gName 10) (tt := tYes) rfl sc_Store_graph.nd (pi_list (pv 1)) (blkOk_by (own := [("entry", 10)]) (N := n_Store_graph) (sc := defScope s_Store_graph) (by decide +kernel)) (fun _ _ _ _ _ => (pg_name (i := 10) sc_Store_graph.nd rfl (Or.inl rfl))) (fun _ _ _ _ _ => pts_nil) (fun _ _ _ _ _ => (pcall Om hr (pa_cons (pv 10) (pa_cons (pv 4) pa_nil))))) pa_nil)))
      (pss_cons (ps_set (i := 6) sc_Store_graph.nd rfl (.inl rfl) (pe_lst pa_nil))
      (pss_cons (ps_for PassesOwn.never rfl (pi_list (pv 2)) (pg_name (i := 3) sc_Store_graph.nd rfl (Or.inl rfl)) (pss_cons (ps_set (i := 7) sc_Store_graph.nd rfl (.inl rfl) (pe_dget (hu_of' hr) (pe_fld (pv 0) rfl) (pv 3) (fun _ _ => rfl)))
      (pss_cons (ps_set (i := 8) sc_Store_graph.nd rfl (.inl rfl) (pe_callTy call_tuple_of (by rfl) T.z_tuple PyProof.Rows.boot_tuple (pa_cons (pe_lc (own := [("entry", 10)]) (g := gName 10) (tt := tYes) rfl sc_Store_graph.nd (pi_list (pe_fld (pv 7) rfl)) (blkOk_by (own := [("entry", 10)]) (N := n_Store_graph) (sc := defScope s_Store_graph) (by decide +kernel)) (fun _ _ _ _ _ => (pg_name (i := 10) sc_Store_graph.nd rfl (Or.inl rfl))) (fun _ _ _ _ _ => pts_nil) (fun _ _ _ _ _ => (pcall Om hr (pa_cons (pv 10) (pa_cons (pv 4) pa_nil))))) pa_nil)))
      (pss_one (ps_expr (pe_bm PySem.F.plainAttrs_list PySem.F.slot_list_append PySem.F.type_list_append mt_append (pv 6) (pa_cons (pe_tup (pa_cons (pe_fld (pv 7) rfl) (pa_cons (pe_fld (pv 7) rfl) (pa_cons (pv 8) pa_nil)))) pa_nil)))))))
      (pss_one (ps_ret (pe_tup (pa_cons (pv 5) (pa_cons (pe_callTy call_tuple_of (by rfl) T.z_tuple PyProof.Rows.boot_tuple (pa_cons (pv 6) pa_nil)) pa_nil)))))))))), ?_⟩
  have lim : (4000 : Nat) < sizeLine := by decide
  obtain ⟨dx0, hB0⟩ := X.hB
  have rok2 : ∀ n ∈ nds, ∀ e ∈ n.row, e.ok nds.length := fun n hn => (rok n hn).row
  have CL := reachN_clo (es := es) rok2 oe
  refine ⟨_, rfl, B, dx0, _, rfl, hB0, nl2, _, rfl, B, td, a, L, more, f, nds, ws, es, rfl, X, nl, Z, rok2, hN, ha, rs, oe, fun p H1 s1 fp hp => ?_⟩
  obtain ⟨R, eR⟩ : ∃ R, R = reachN nds es := ⟨_, rfl⟩
  rw [← eR] at CL hp
  have lR := nodup_le _ CL.nd CL.lt
  -- numbers
  refine ⟨_, rfl, p, _, rfl, SqL.of hp, fun d hd => ?_⟩
  have fd : H d = none := s1.free hd
  refine dc_it (walk_enum (xs := ordV f R)) (fun i H' => Same H H' ∧ H' p = some (.lst (ordV f R)) ∧ H' d = some (.dK (kvN f 0 (R.take i)))) ⟨s1.trans (same_new hd _), by rw [upd_ne (ne_of_none hp hd)]; exact hp, upd_same⟩ (fun i H' _ h => SqL.of h.2.1) ?_ ?_
  · rintro i x H2 H3 hi ⟨s2, h2, h3⟩ ⟨T0, x0, y0, rfl, hT0, rfl, e1, e2⟩
    rw [ordV_len] at hi
    have e2' : (ordV f R)[i]? = some y0 := e2
    unfold ordV at e2'
    rw [List.getElem?_map, List.getElem?_eq_getElem hi] at e2'
    have e2' := Option.some.inj e2'
    have e1 := Option.some.inj e1
    subst e1; subst e2'
    have s3 := same_new hT0 (.tup [V.int (i : Nat), V.int (f R[i])])
    refine ⟨T0, _, rfl, SqT.of upd_same, rfl, _, _, rfl, _, _, rfl, rfl, ?_⟩
    refine ⟨rfl, iteT (B := True) (iteT ?_)⟩
    refine ⟨_, rfl, _, rfl, _, .inl (f R[i]), rfl, s3 _ _ h3, by rw [kvN_len, List.length_take]; omega, same_grow (s2.trans s3) fd, ?_, ?_⟩
    · rw [upd_ne (ne_ob (s3 _ _ h2) (s3 _ _ h3) (fun z => by cases z))]; exact s3 _ _ h2
    · rw [upd_same]
      have lt : ∀ y ∈ R.take i, y < nds.length := fun y hy => CL.lt y (List.mem_of_mem_take hy)
      have nm : R[i] ∉ R.take i := fun z => by
        obtain ⟨j, hj, e⟩ := List.getElem_of_mem z
        rw [List.getElem_take] at e
        have := (List.getElem_inj CL.nd).mp e
        rw [List.length_take] at hj; omega
      have := kvN_put Z.inj lt (CL.lt _ (List.getElem_mem hi)) nm
      rw [List.length_take, Nat.min_eq_left (by omega)] at this
      rw [take_next hi, ← this]
  rintro H2 ⟨s2, hp2, hd2⟩
  rw [ordV_len, List.take_length] at hd2
  have look : ∀ e : Ent, (∀ k, e.tg = some k → k ∈ R) → ∀ k, e.tg = some k → valV (kvN f 0 R) (.inl (f k)) = some (.int (plc R k)) := fun e h k hk => kvN_plc Z.inj CL.lt CL.nd (h k hk)
  have tin : ∀ e ∈ es, ∀ k, e.tg = some k → k ∈ R := fun e he k hk => CL.top k (List.mem_filterMap.mpr ⟨e, he, hk⟩)
  -- tops
  refine ⟨_, rfl, a, rfl, ⟨ws, SqL.of (s2 _ _ ha)⟩, fun t1 ht1 => ?_⟩
  have wl : ws.length = es.length := by rw [rs.len, rowD_len]
  refine lc_it (walk_list (xs := ws)) (fun i H' => Same H2 H' ∧ ∃ us, H' t1 = some (.lst us) ∧ Reps H' us (rowD (plc R) (es.take i)) ∧ us.length = i) ⟨same_new ht1 _, [], upd_same, .nil, rfl⟩ (fun i H' _ h => SqL.of (h.1 _ _ (s2 _ _ ha))) ?_ ?_
  · rintro i x H3 H4 hi ⟨s3, us, h3, r3, l3⟩ ⟨rfl, hx⟩
    obtain ⟨hi', rd⟩ := rows_at (rs.mono (.same (s2.trans s3))) hx
    refine ⟨rfl, iteT (B := True) (iteT ?_)⟩
    refine ⟨_, rfl, _, rfl, x, d, es[i], f, plc R, nds.length, _, rfl, rd, oe _ (List.getElem_mem hi'), s3 _ _ hd2, look _ (tin _ (List.getElem_mem hi')), fun v' H5 s5 r5 => ?_⟩
    have h5 := s5 _ _ h3
    refine ⟨_, h5, by omega, same_grow (s3.trans s5) ht1, us ++ [v'], upd_same, ?_, by simp [l3]⟩
    rw [take_next hi', rowD_app]
    exact (r3.mono ((Tups.same s5).trans (.lst h5))).app (.one (r5.mono (.lst h5)))
  rintro H3 ⟨s3, us, h3, r3, l3⟩
  rw [wl, List.take_length] at r3
  refine ⟨t1, us, rfl, .inl ⟨SqL.of h3, fun t2 ht2 => ?_⟩⟩
  have s4 := same_new ht2 (.tup us)
  have r4 : Rep (upd H3 t2 (.tup us)) (.ref t2) (.tup (rowD (plc R) es)) := Rep.tupOf upd_same (r3.mono (.same s4)) (by rw [rowD_len]; omega)
  have S4 := s2.trans (s3.trans s4)
  have hd4 := (s3.trans s4) _ _ hd2
  have hp4 := (s3.trans s4) _ _ hp2
  generalize upd H3 t2 (.tup us) = H4 at r4 S4 hd4 hp4
  refine ⟨Nat.zero_le _, fun ob hob => ?_⟩
  have fob : H ob = none := S4.free hob
  have npo : p ≠ ob := ne_of_none hp4 hob
  have ndo : d ≠ ob := ne_of_none hd4 hob
  -- objects
  refine ⟨_, rfl, p, rfl, ⟨_, SqL.of (by rw [upd_ne npo]; exact hp4)⟩, ?_⟩
  refine for_it (walk_list (xs := ordV f R)) (fun i σ H' => ∃ o3 o7 o8, σ = [some (.ref B), some (.ref a), some (.ref p), o3, some (.ref d), some (.ref t2), some (.ref ob), o7, o8, none, none] ∧ Same H4 H' ∧ ∃ us, H' ob = some (.lst us) ∧ Reps H' us ((R.take i).map (objD nds (plc R))) ∧ us.length = i)
    ⟨_, none, none, rfl, same_new hob _, [], upd_same, .nil, rfl⟩ (fun i σ H' _ h => by
      obtain ⟨o3, o7, o8, rfl, s, _⟩ := h
      exact SqL.of (s _ _ hp4)) ?_ ?_
  · rintro i x σ H5 H6 hi ⟨o3, o7, o8, rfl, s5, us, h5, r5, l5⟩ ⟨rfl, hx⟩
    rw [ordV_len] at hi
    unfold ordV at hx
    rw [List.getElem?_map, List.getElem?_eq_getElem hi] at hx
    have hx := Option.some.inj hx
    subst hx
    have hk := CL.lt _ (List.getElem_mem hi)
    obtain ⟨n, hn⟩ : ∃ n, nds[R[i]]? = some n := ⟨_, List.getElem?_eq_getElem hk⟩
    obtain ⟨x, hxL, ek, e2, e3, er⟩ := Z.at_ _ n hn
    have X6 := X.same (S4.trans s5)
    obtain ⟨dx, dx2, tv, vs, hB, hg, g, rt, g2, r2⟩ := X6.look hxL
    rw [ek] at hg
    rw [er] at r2
    rw [e3] at rt
    have nok := rok n (List.mem_of_getElem? hn)
    refine ⟨_, rfl, B, C, dx, _, .ref td, rfl, hB, TB.cl, TB.n_things, rfl, _, rfl, td, _, rfl, hg, ?_⟩
    refine ⟨_, rfl, x.t, CT, dx2, _, .ref x.s, rfl, g, TT.cl, TT.n_slots, rfl, x.s, rfl, ⟨vs, SqL.of g2⟩, fun l1 hl1 => ?_⟩
    have vl : vs.length = n.row.length := by rw [r2.len, rowD_len]
    have rin : ∀ e ∈ n.row, ∀ k, e.tg = some k → k ∈ R := fun e he k hk => CL.clo R[i] (List.getElem_mem hi) k (by rw [scN_at hn]; exact List.mem_filterMap.mpr ⟨e, he, hk⟩)
    refine lc_it (walk_list (xs := vs)) (fun i H' => Same H6 H' ∧ ∃ us, H' l1 = some (.lst us) ∧ Reps H' us (rowD (plc R) (n.row.take i)) ∧ us.length = i) ⟨same_new hl1 _, [], upd_same, .nil, rfl⟩ (fun i H' _ h => SqL.of (h.1 _ _ g2)) ?_ ?_
    · rintro j y H7 H8 hj ⟨s7, us, h7, r7, l7⟩ ⟨rfl, hy⟩
      obtain ⟨hj', rd⟩ := rows_at (r2.mono (.same s7)) hy
      refine ⟨rfl, iteT (B := True) (iteT ?_)⟩
      refine ⟨_, rfl, _, rfl, y, d, n.row[j], f, plc R, nds.length, _, rfl, rd, nok.row _ (List.getElem_mem hj'), (s5.trans s7) _ _ hd4, look _ (rin _ (List.getElem_mem hj')), fun v' H9 s9 r9 => ?_⟩
      have h9 := s9 _ _ h7
      refine ⟨_, h9, by have := nok.len; omega, same_grow (s7.trans s9) hl1, us ++ [v'], upd_same, ?_, by simp [l7]⟩
      rw [take_next hj', rowD_app]
      exact (r7.mono ((Tups.same s9).trans (.lst h9))).app (.one (r9.mono (.lst h9)))
    rintro H7 ⟨s7, us1, h7, r7, l7⟩
    rw [vl, List.take_length] at r7
    refine ⟨l1, us1, rfl, .inl ⟨SqL.of h7, fun t3 ht3 => ?_⟩⟩
    have s8 := same_new ht3 (.tup us1)
    have r8 : Rep (upd H7 t3 (.tup us1)) (.ref t3) (.tup (rowD (plc R) n.row)) := Rep.tupOf upd_same (r7.mono (.same s8)) (by rw [rowD_len]; have := nok.len; omega)
    have S8 := s7.trans s8
    generalize upd H7 t3 (.tup us1) = H8 at r8 S8
    have h8 := S8 _ _ h5
    have g8 := S8 _ _ g
    refine ⟨_, rfl, .inl ⟨rfl, _, SqL.of h8⟩, _, rfl, x.t, CT, dx2, _, _, rfl, g8, TT.cl, TT.n_kind, rfl, _, rfl, x.t, CT, dx2, _, tv, rfl, g8, TT.cl, TT.n_tag, rfl, _, rfl, by show 3 ≤ sizeLine; omega, fun t4 ht4 => ?_⟩
    have s9 := same_new ht4 (.tup [.str (S x.kind), tv, .ref t3])
    have h9 := s9 _ _ h8
    refine ⟨ob, us, _, rfl, rfl, h9, by omega, ?_⟩
    have S9 := S8.trans s9
    refine ⟨_, _, _, rfl, ?_, us ++ [.ref t4], upd_same, ?_, by simp [l5]⟩
    · intro b o hb
      rw [upd_ne (ne_of_none hb hob)]
      exact (s5.trans S9) _ _ hb
    · have tt : Tups (upd H8 t4 (.tup [.str (S x.kind), tv, .ref t3])) (upd (upd H8 t4 (.tup [.str (S x.kind), tv, .ref t3])) ob (.lst (us ++ [.ref t4]))) := .lst h9
      have t69 : Tups H6 (upd H8 t4 (.tup [.str (S x.kind), tv, .ref t3])) := .same S9
      rw [take_next hi, List.map_append]
      refine (r5.mono (t69.trans tt)).app (.one ?_)
      have eo : objD nds (plc R) R[i] = .tup [.str n.kind, n.tag, .tup (rowD (plc R) n.row)] := by unfold objD; rw [hn]
      rw [eo, ← e2]
      exact Rep.mono tt (Rep.three upd_same (.str _) ((rt.mono t69)) (r8.mono (.new ht4)))
  · rintro σ H5 ⟨o3, o7, o8, rfl, s5, us, h5, r5, l5⟩
    rw [ordV_len, List.take_length] at r5
    rw [ordV_len] at l5
    refine ⟨_, rfl, _, rfl, ob, us, rfl, .inl ⟨SqL.of h5, fun t5 ht5 => ⟨by show 2 ≤ sizeLine; omega, fun t6 ht6 => ?_⟩⟩⟩
    have s6 := same_new ht5 (.tup us)
    have s7 := same_new ht6 (.tup [.ref t2, .ref t5])
    refine q _ _ (S4.trans (s5.trans (s6.trans s7))) ?_
    unfold graphD
    rw [← eR]
    refine Rep.two upd_same (r4.mono (.same (s5.trans (s6.trans s7)))) (Rep.tupOf ?_ (r5.mono (.same (s6.trans s7))) (by rw [List.length_map]; omega))
    exact s7 _ _ upd_same
end
end D0
namespace D0
open PySem PySem.Spec PyProof.Rows L2 SX NumText
section
variable {K : PySem.W.Frag} {H H' : Hp} {nb : Addr} {as rs : List Addr} {nds : List Nd}
theorem BoA.frame (X : BoA H nb as rs nds) {F : List Addr} (c : Chg F H H') (d : ∀ a ∈ FN nb as rs, a ∉ F) : BoA H' nb as rs nds := by
  refine ⟨X.la, X.lr, c.keep _ _ (d _ (by simp [FN])) X.h0, fun k a r n h1 h2 h3 => ?_, fun k r n h1 h2 => ?_, X.nd⟩
  · obtain ⟨tv, h, q⟩ := X.hN k a r n h1 h2 h3
    exact ⟨tv, c.keep _ _ (d _ (by have := List.mem_of_getElem? h1; simp [FN, this])) h, q.mono c.tups⟩
  · obtain ⟨vs, h, q⟩ := X.hR k r n h1 h2
    exact ⟨vs, c.keep _ _ (d _ (by have := List.mem_of_getElem? h1; simp [FN, this])) h, q.mono c.tups⟩
/-- the k-th node -/
theorem BoA.look (X : BoA H nb as rs nds) {k : Nat} {n : Nd} (hn : nds[k]? = some n) : ∃ a r tv vs, as[k]? = some a ∧ rs[k]? = some r ∧ H a = some (.lst [.str (S n.kind), tv, .ref r]) ∧ Rep H tv n.tag ∧ H r = some (.lst vs) ∧ Reps H vs (rowD ixD n.row) ∧ vs.length = n.row.length := by
  obtain ⟨hk, _⟩ := List.getElem?_eq_some_iff.mp hn
  have h1 := X.la; have h2 := X.lr
  have ea : as[k]? = some (as[k]'(by omega)) := List.getElem?_eq_getElem (by omega)
  have er : rs[k]? = some (rs[k]'(by omega)) := List.getElem?_eq_getElem (by omega)
  obtain ⟨tv, g, q⟩ := X.hN k _ _ n ea er hn
  obtain ⟨vs, g2, q2⟩ := X.hR k _ n er hn
  exact ⟨_, _, tv, vs, ea, er, g, q, g2, q2, by rw [q2.len]; unfold rowD; rw [List.length_map]⟩
theorem BoA.here (X : BoA H nb as rs nds) : ∀ a ∈ FN nb as rs, H a ≠ none := by
  intro a h
  have l3 := X.la; have l4 := X.lr
  rcases List.mem_cons.mp h with rfl | h
  · rw [X.h0]; exact fun z => nomatch z
  rcases List.mem_append.mp h with h | h
  · obtain ⟨j, hj⟩ := List.getElem?_of_mem h
    obtain ⟨hj', _⟩ := List.getElem?_eq_some_iff.mp hj
    obtain ⟨tv, g, _⟩ := X.hN j a _ _ hj (List.getElem?_eq_getElem (by omega)) (List.getElem?_eq_getElem (by omega))
    rw [g]; exact fun z => nomatch z
  · obtain ⟨j, hj⟩ := List.getElem?_of_mem h
    obtain ⟨hj', _⟩ := List.getElem?_eq_some_iff.mp hj
    obtain ⟨vs, g, _⟩ := X.hR j a _ hj (List.getElem?_eq_getElem (by omega))
    rw [g]; exact fun z => nomatch z
theorem BoA.fresh (X : BoA H nb as rs nds) {a : Addr} (h : H a = none) : a ∉ as ∧ a ∉ rs ∧ a ≠ nb := by
  have l3 := X.la; have l4 := X.lr
  refine ⟨fun m => ?_, fun m => ?_, fun z => ?_⟩
  · obtain ⟨j, hj⟩ := List.getElem?_of_mem m
    obtain ⟨hj', _⟩ := List.getElem?_eq_some_iff.mp hj
    obtain ⟨tv, g, _⟩ := X.hN j a _ _ hj (List.getElem?_eq_getElem (by omega)) (List.getElem?_eq_getElem (by omega))
    rw [h] at g; cases g
  · obtain ⟨j, hj⟩ := List.getElem?_of_mem m
    obtain ⟨hj', _⟩ := List.getElem?_eq_some_iff.mp hj
    obtain ⟨vs, g, _⟩ := X.hR j a _ hj (List.getElem?_eq_getElem (by omega))
    rw [h] at g; cases g
  · rw [z, X.h0] at h; cases h
theorem BoA.nas (X : BoA H nb as rs nds) {j : Nat} {a : Addr} (h : as[j]? = some a) : a ≠ nb ∧ a ∉ rs := ⟨fun z => X.nd.n1 (by rw [← z]; exact List.mem_of_getElem? h), X.nd.dj a (List.mem_of_getElem? h)⟩
theorem BoA.nrs (X : BoA H nb as rs nds) {j : Nat} {r : Addr} (h : rs[j]? = some r) : r ≠ nb ∧ r ∉ as := ⟨fun z => X.nd.n2 (by rw [← z]; exact List.mem_of_getElem? h), fun m => X.nd.dj r m (List.mem_of_getElem? h)⟩
/-- one more node -/
theorem BoA.more (X : BoA H nb as rs nds) {a r : Addr} {n : Nd} {tv : V} {vs : List V} (fa : H a = none) (fr : H r = none) (ne : a ≠ r) {F : List Addr} (c : Chg F H H') (dF : ∀ x ∈ as ++ rs, x ∉ F) (h0 : H' nb = some (.lst ((as.map V.ref) ++ [.ref a])))
    (h1 : H' a = some (.lst [.str (S n.kind), tv, .ref r])) (h2 : H' r = some (.lst vs)) (r1 : Rep H' tv n.tag) (r2 : Reps H' vs (rowD ixD n.row)) : BoA H' nb (as ++ [a]) (rs ++ [r]) (nds ++ [n]) := by
  have la := X.la; have lr := X.lr
  obtain ⟨a1, a2, a3⟩ := X.fresh fa
  obtain ⟨r1', r2', r3'⟩ := X.fresh fr
  refine ⟨by simp [X.la], by simp [X.lr], by rw [List.map_append]; exact h0, fun j x y m e1 e2 e3 => ?_, fun j y m e2 e3 => ?_, X.nd.more a1 a2 a3 r1' r2' r3' ne⟩
  · rcases Nat.lt_or_ge j nds.length with l | l
    · rw [List.getElem?_append_left (by omega)] at e1 e2 e3
      obtain ⟨tv1, g, q⟩ := X.hN j x y m e1 e2 e3
      exact ⟨tv1, c.keep _ _ (dF _ (List.mem_append_left _ (List.mem_of_getElem? e1))) g, q.mono c.tups⟩
    · rw [List.getElem?_append_right (by omega)] at e1 e2 e3
      have e5 : j - nds.length = 0 := by
        cases q : j - nds.length with
        | zero => rfl
        | succ x => rw [q] at e3; simp at e3
      rw [show j - as.length = 0 by omega] at e1
      rw [show j - rs.length = 0 by omega] at e2
      rw [e5] at e3
      cases e1; cases e2; cases e3
      exact ⟨tv, h1, r1⟩
  · rcases Nat.lt_or_ge j nds.length with l | l
    · rw [List.getElem?_append_left (by omega)] at e2 e3
      obtain ⟨vs1, g, q⟩ := X.hR j y m e2 e3
      exact ⟨vs1, c.keep _ _ (dF _ (List.mem_append_right _ (List.mem_of_getElem? e2))) g, q.mono c.tups⟩
    · rw [List.getElem?_append_right (by omega)] at e2 e3
      have e5 : j - nds.length = 0 := by
        cases q : j - nds.length with
        | zero => rfl
        | succ x => rw [q] at e3; simp at e3
      rw [show j - rs.length = 0 by omega] at e2
      rw [e5] at e3
      cases e2; cases e3
      exact ⟨vs, h2, r2⟩
/-- the node k is another -/
theorem BoA.setNode (X : BoA H nb as rs nds) {k : Nat} {a r : Addr} {n : Nd} {tv : V} {vs : List V} (hk : k < nds.length) (fa : H a = none) (fr : H r = none) (ne : a ≠ r) (c : Chg [nb] H H') (h0 : H' nb = some (.lst ((as.map V.ref).set k (.ref a))))
    (h1 : H' a = some (.lst [.str (S n.kind), tv, .ref r])) (h2 : H' r = some (.lst vs)) (r1 : Rep H' tv n.tag) (r2 : Reps H' vs (rowD ixD n.row)) : BoA H' nb (as.set k a) (rs.set k r) (nds.set k n) := by
  have la := X.la; have lr := X.lr
  obtain ⟨a1, a2, a3⟩ := X.fresh fa
  obtain ⟨r1', r2', r3'⟩ := X.fresh fr
  refine ⟨by simp [X.la], by simp [X.lr], by rw [List.map_set]; exact h0, fun j x y m e1 e2 e3 => ?_, fun j y m e2 e3 => ?_, X.nd.put a1 a2 a3 r1' r2' r3' ne⟩
  · rw [List.getElem?_set] at e1 e2 e3
    by_cases e : k = j
    · subst e
      rw [if_pos rfl, if_pos (by omega)] at e1 e2 e3
      cases e1; cases e2; cases e3
      exact ⟨tv, h1, r1⟩
    · rw [if_neg e] at e1 e2 e3
      obtain ⟨tv1, g, q⟩ := X.hN j x y m e1 e2 e3
      exact ⟨tv1, c.keep _ _ (by simp; exact (X.nas e1).1) g, q.mono c.tups⟩
  · rw [List.getElem?_set] at e2 e3
    by_cases e : k = j
    · subst e
      rw [if_pos rfl, if_pos (by omega)] at e2 e3
      cases e2; cases e3
      exact ⟨vs, h2, r2⟩
    · rw [if_neg e] at e2 e3
      obtain ⟨vs1, g, q⟩ := X.hR j y m e2 e3
      exact ⟨vs1, c.keep _ _ (by simp; exact (X.nrs e2).1) g, q.mono c.tups⟩
/-- the row of the node k is another -/
theorem BoA.setRow (X : BoA H nb as rs nds) {k : Nat} {n : Nd} {r : Addr} {vs : List V} {row : List Ent} (hn : nds[k]? = some n) (hr : rs[k]? = some r) (r2 : Reps H vs (rowD ixD row)) :
    BoA (upd H r (.lst vs)) nb as rs (nds.set k ⟨n.kind, n.tag, row⟩) ∧ Chg [r] H (upd H r (.lst vs)) := by
  obtain ⟨vs0, g0, _⟩ := X.hR k r n hr hn
  have c : Chg [r] H (upd H r (.lst vs)) := .upd g0 (fun _ z => by cases z) (List.mem_singleton_self _)
  obtain ⟨nr1, nr2⟩ := X.nrs hr
  refine ⟨⟨by simp [X.la], by simp [X.lr], by rw [upd_ne (Ne.symm nr1)]; exact X.h0, fun j x y m e1 e2 e3 => ?_, fun j y m e2 e3 => ?_, X.nd⟩, c⟩
  · have nx : x ≠ r := fun z => nr2 (by rw [← z]; exact List.mem_of_getElem? e1)
    rw [List.getElem?_set] at e3
    by_cases e : k = j
    · subst e
      rw [if_pos rfl] at e3
      split at e3
      · cases e3
        obtain ⟨tv1, g, q⟩ := X.hN k x y n e1 e2 hn
        exact ⟨tv1, by rw [upd_ne nx]; exact g, q.mono c.tups⟩
      · cases e3
    · rw [if_neg e] at e3
      obtain ⟨tv1, g, q⟩ := X.hN j x y m e1 e2 e3
      exact ⟨tv1, by rw [upd_ne nx]; exact g, q.mono c.tups⟩
  · rw [List.getElem?_set] at e3
    by_cases e : k = j
    · subst e
      rw [if_pos rfl] at e3
      have : y = r := Option.some.inj (e2.symm.trans hr)
      subst this
      split at e3
      · cases e3; exact ⟨vs, upd_same, r2.mono c.tups⟩
      · cases e3
    · rw [if_neg e] at e3
      have ny : y ≠ r := fun z => e (inj_nodup X.nd.nr (by rw [← z] at hr; exact hr) e2)
      obtain ⟨vs1, g, q⟩ := X.hR j y m e2 e3
      exact ⟨vs1, by rw [upd_ne ny]; exact g, q.mono c.tups⟩
theorem BoA.same (X : BoA H nb as rs nds) (s : Same H H') : BoA H' nb as rs nds := X.frame (F := []) (.same s) (fun _ _ h => by cases h)
end
end D0
namespace D0
open PySem PySem.Spec PyProof.Rows L2 SX NumText
def tgV : Option Nat → Int
  | none => -1
  | some k => ((k : Nat) : Int)
def spTarget0 : Sp := fun vs H Q _ => ∃ (v : V) (e : En) (m : Nat), vs = [v] ∧ Rep H v (e.d ixD) ∧ e.ok m ∧ Q (.int (tgV e.tg)) H
def spTargetP : Sp := fun vs H Q _ => ∃ (v : V) (r : Int) (e : En) (m : Nat), vs = [v] ∧ Rep H v ((Ent.pend r e).d ixD) ∧ e.ok m ∧ Q (.int (tgV e.tg)) H
def spTarget : Sp := fun vs H Q _ => ∃ (v : V) (e : Ent) (m : Nat), vs = [v] ∧ Rep H v (e.d ixD) ∧ e.ok m ∧ Q (.int (tgV e.tg)) H
def seenL (N : Nat) (os : List Nat) : List V := (List.range N).map fun k => V.bl (decide (k ∈ os))
theorem seenL_len (N : Nat) (os : List Nat) : (seenL N os).length = N := by unfold seenL; rw [List.length_map, List.length_range]
theorem seenL_at {N k : Nat} {os : List Nat} (h : k < N) : (seenL N os)[k]? = some (.bl (decide (k ∈ os))) := by unfold seenL; rw [List.getElem?_map, List.getElem?_range h]; rfl
theorem rep_flat {x : V} : ∀ n : Nat, (List.replicate n [x]).flatten = List.replicate n x
  | 0 => rfl
  | n + 1 => by rw [List.replicate_succ, List.flatten_cons, rep_flat n]; rfl
theorem map_range_const {x : V} (n : Nat) : (List.range n).map (fun _ => x) = List.replicate n x := by
  induction n with
  | zero => rfl
  | succ n ih => rw [List.range_succ, List.map_append, ih, List.replicate_succ']; rfl
theorem seenL_nil (N : Nat) : seenL N [] = List.replicate N (.bl false) := by
  rw [← map_range_const]
  unfold seenL
  exact List.map_congr_left fun k _ => by simp
theorem seenL_set {N k : Nat} {os : List Nat} (h : k < N) : (seenL N os).set k (.bl true) = seenL N (os ++ [k]) := by
  refine List.ext_getElem? fun i => ?_
  rw [List.getElem?_set]
  by_cases e : k = i
  · subst e
    rw [if_pos rfl, if_pos (by rw [seenL_len]; exact h), seenL_at h]; simp
  · rw [if_neg e]
    by_cases hi : i < N
    · rw [seenL_at hi, seenL_at hi]
      have : decide (i ∈ os ++ [k]) = decide (i ∈ os) := by
        rw [decide_eq_decide]; simp [Ne.symm e]
      rw [this]
    · rw [List.getElem?_eq_none (by rw [seenL_len]; omega), List.getElem?_eq_none (by rw [seenL_len]; omega)]
def spWalk : Sp := fun vs H Q _ => ∃ (ea nb : Addr) (as rs : List Addr) (nds : List Nd) (ws : List V) (es : List Ent), vs = [.ref ea, .ref nb] ∧ BoA H nb as rs nds ∧ (∀ n ∈ nds, ∀ e ∈ n.row, e.ok nds.length) ∧ nds.length ≤ 2000 ∧ H ea = some (.lst ws) ∧ Reps H ws (rowD ixD es) ∧ (∀ e ∈ es, e.ok nds.length) ∧
  ∀ p H', Same H H' → H p = none → H' p = some (.lst (nats (reachN nds es))) → Q (.ref p) H'
theorem nats_at {ks : List Nat} {j : Nat} (h : j < ks.length) : atI (nats ks) (j : Int) = some (.int (ks[j] : Nat)) := atI_nat (by unfold nats; rw [List.getElem?_map, List.getElem?_eq_getElem h]; rfl)
theorem nats_len (ks : List Nat) : (nats ks).length = ks.length := by unfold nats; rw [List.length_map]
theorem node_at {as : List Addr} {k : Nat} {a : Addr} (h : as[k]? = some a) : atI (as.map V.ref) (k : Int) = some (.ref a) := atI_nat (by rw [List.getElem?_map, h]; rfl)
section
variable {P : Program} {w : World} {K : PySem.W.Frag} {mg : Str → Option Value} {base : Heap}
theorem okm0__law_target (T : Txt K w mg) : OkD P w K mg base CX0 1 "_law_target" p__law_target spTarget0 := by
  have O : OkD P w K mg base CX0 0 "_law_target" p__law_target (fun _ _ _ _ => False) := T.g__law_target.none fun _ _ _ _ h => h
  refine T.g__law_target.ok sc__law_target (fun vs H Q E h => ?_) (fun f cdv A outer s H vs Q E hr h => ?_)
  · obtain ⟨v, e, m, rfl, _⟩ := h; rfl
  obtain ⟨v, e, m, rfl, rv, oe, q⟩ := h
  refine ⟨_, (pss_cons (ps_if (pt_cmpR op_eq (pe_ix ix_tup (pv 0) pe_int (fun _ _ => rfl)) pe_str (nomark _)) (pss_one (ps_ret (pcall O hr (pa_cons (pe_ix ix_tup (pv 0) pe_int (fun _ _ => rfl)) pa_nil)))) pss_nil)
      (pss_cons (ps_if (PW.pt (pw_or (pt_cmpR op_eq (pe_ix ix_tup (pv 0) pe_int (fun _ _ => rfl)) pe_str (nomark _)) (pw_or1 (pt_cmpR op_eq (pe_ix ix_tup (pv 0) pe_int (fun _ _ => rfl)) pe_str (nomark _))))) (pss_one (ps_ret (pe_ix ix_tup (pv 0) pe_int (fun _ _ => rfl)))) pss_nil)
      (pss_one (ps_ret (pe_un un_neg pe_int))))), ?_⟩
  have dd : ∀ a c : List Nat, decide (V.str (S a) = V.str (S c)) = decide (a = c) := str_dec
  obtain ⟨n1, n2, n3, n4, n5, n6⟩ := n_rh
  cases e with
  | ref k =>
    obtain ⟨a, rfl, h⟩ := rep_two_inv rv
    refine ⟨_, rfl, a, _, 0, .str (S wRef), rfl, rfl, SqT.of h, rfl, rfl, _, rfl, ?_⟩
    rw [eP, dd, decide_eq_false n2]
    refine iteF ⟨_, rfl, a, _, 0, .str (S wRef), rfl, rfl, SqT.of h, rfl, rfl, _, rfl, ?_⟩
    rw [eR, dd, decide_eq_true rfl]
    exact iteT (iteT ⟨_, rfl, a, _, 1, _, rfl, rfl, SqT.of h, rfl, q⟩)
  | hand k =>
    obtain ⟨a, rfl, h⟩ := rep_two_inv rv
    refine ⟨_, rfl, a, _, 0, .str (S wHandled), rfl, rfl, SqT.of h, rfl, rfl, _, rfl, ?_⟩
    rw [eP, dd, decide_eq_false n3]
    refine iteF ⟨_, rfl, a, _, 0, .str (S wHandled), rfl, rfl, SqT.of h, rfl, rfl, _, rfl, ?_⟩
    rw [eR, dd, decide_eq_false n4]
    refine iteF ⟨_, rfl, a, _, 0, .str (S wHandled), rfl, rfl, SqT.of h, rfl, rfl, _, rfl, ?_⟩
    rw [eH, dd, decide_eq_true rfl]
    exact iteT ⟨_, rfl, a, _, 1, _, rfl, rfl, SqT.of h, rfl, q⟩
  | oth l ds =>
    obtain ⟨o1, o2, o3, o4⟩ := oe
    obtain ⟨a, us, rfl, h, _⟩ := rep_cons_inv rv
    have z0 : atI (V.str (S l) :: us) ((0 : Nat) : Int) = some (.str (S l)) := atI_nat rfl
    refine ⟨_, rfl, a, _, 0, .str (S l), rfl, rfl, SqT.of h, z0, rfl, _, rfl, ?_⟩
    rw [eP, dd, decide_eq_false o3]
    refine iteF ⟨_, rfl, a, _, 0, .str (S l), rfl, rfl, SqT.of h, z0, rfl, _, rfl, ?_⟩
    rw [eR, dd, decide_eq_false o1]
    refine iteF ⟨_, rfl, a, _, 0, .str (S l), rfl, rfl, SqT.of h, z0, rfl, _, rfl, ?_⟩
    rw [eH, dd, decide_eq_false o2]
    exact iteF ⟨1, rfl, q⟩
theorem okmp__law_target (T : Txt K w mg) : OkD P w K mg base CX0 2 "_law_target" p__law_target spTargetP := by
  have O := okm0__law_target (P := P) (base := base) T
  refine T.g__law_target.ok sc__law_target (fun vs H Q E h => ?_) (fun f cdv A outer s H vs Q E hr h => ?_)
  · obtain ⟨v, r, e, m, rfl, _⟩ := h; rfl
  obtain ⟨v, r, e, m, rfl, rv, oe, q⟩ := h
  refine ⟨_, (pss_cons (ps_if (pt_cmpR op_eq (pe_ix ix_tup (pv 0) pe_int (fun _ _ => rfl)) pe_str (nomark _)) (pss_one (ps_ret (pcall O hr (pa_cons (pe_ix ix_tup (pv 0) pe_int (fun _ _ => rfl)) pa_nil)))) pss_nil)
      (pss_cons (ps_if (PW.pt (pw_or (pt_cmpR op_eq (pe_ix ix_tup (pv 0) pe_int (fun _ _ => rfl)) pe_str (nomark _)) (pw_or1 (pt_cmpR op_eq (pe_ix ix_tup (pv 0) pe_int (fun _ _ => rfl)) pe_str (nomark _))))) (pss_one (ps_ret (pe_ix ix_tup (pv 0) pe_int (fun _ _ => rfl)))) pss_nil)
      (pss_one (ps_ret (pe_un un_neg pe_int))))), ?_⟩
  obtain ⟨a, u, rfl, h, ru⟩ := rep_pend_inv rv
  refine ⟨_, rfl, a, _, 0, .str (S wPending), rfl, rfl, SqT.of h, rfl, rfl, _, rfl, ?_⟩
  rw [eP, str_dec, decide_eq_true rfl]
  exact iteT ⟨_, rfl, a, _, 2, _, rfl, rfl, SqT.of h, rfl, u, e, m, rfl, ru, oe, q⟩
theorem ok__law_target (T : Txt K w mg) : OkD P w K mg base CX0 2 "_law_target" p__law_target spTarget := by
  refine (((okm0__law_target T).mono (by omega)).or (okmp__law_target T)).imp fun vs H Q E h => ?_
  obtain ⟨v, e, m, rfl, rv, oe, q⟩ := h
  cases e with
  | pl e => exact .inl ⟨v, e, m, rfl, rv, oe, q⟩
  | pend r e => exact .inr ⟨v, r, e, m, rfl, rv, oe, q⟩
theorem ok__law_walk (T : Txt K w mg) (Ot : OkD P w K mg base CX0 2 "_law_target" p__law_target spTarget) : OkD P w K mg base CX0 3 "_law_walk" p__law_walk spWalk := by
  refine T.g__law_walk.ok sc__law_walk (fun vs H Q E h => ?_) (fun f cdv A outer s H vs Q E hr h => ?_)
  · obtain ⟨ea, nb, as, rs, nds, ws, es, rfl, _⟩ := h; rfl
  obtain ⟨ea, nb, as, rs, nds, ws, es, rfl, X, rok, hN, he, re, oe, q⟩ := h
  have lim : (4000 : Nat) < sizeLine := by decide
  refine ⟨_, (pss_cons (ps_set (i := 2) sc__law_walk.nd rfl (.inl rfl) (pe_lst pa_nil))
      (pss_cons (ps_set (i := 3) sc__law_walk.nd rfl (.inl rfl) (pe_op op_rep (pe_lst (pa_cons pe_bl pa_nil)) (pe_callB call_len_seq (by rfl) T.z_len PySem.boot_len (pa_cons (pv 1) pa_nil))))
      (pss_cons (ps_set (i := 4) sc__law_walk.nd rfl (.inl rfl) (pv 0))
      (pss_cons (ps_for PassesOwn.never rfl (pi_range1 rfl T.z_range (pa_cons (pe_op op_add (pe_callB call_len_seq (by rfl) T.z_len PySem.boot_len (pa_cons (pv 1) pa_nil)) pe_int) pa_nil)) (pg_name (i := 5) sc__law_walk.nd rfl (Or.inl rfl)) (pss_cons (ps_for PassesOwn.never rfl (pi_list (pv 4)) (pg_name (i := 6) sc__law_walk.nd rfl (Or.inl rfl)) (pss_cons (ps_set (i := 7) sc__law_walk.nd rfl (.inl rfl) (pcall Ot hr (pa_cons (pv 6) pa_nil)))
      (pss_one (ps_if (PW.pt (pw_and (pt_cmpR op_ge (pv 7) pe_int (nomark _)) (pw_and1 (pt_not (pt_val (pe_ix ix_list (pv 3) (pv 7) (fun _ _ => rfl))))))) (pss_cons (ps_asg pe_bl (pg_sub (pv 3) (pv 7) set_list))
      (pss_one (ps_expr (pe_bm PySem.F.plainAttrs_list PySem.F.slot_list_append PySem.F.type_list_append mt_append (pv 2) (pa_cons (pv 7) pa_nil))))) pss_nil))))
      (pss_cons (ps_if (pt_cmpR op_ge (pv 5) (pe_callB call_len_seq (by rfl) T.z_len PySem.boot_len (pa_cons (pv 2) pa_nil)) (nomark _)) (pss_one ps_break) pss_nil)
      (pss_one (ps_set (i := 4) sc__law_walk.nd rfl (.inl rfl) (pe_ix ix_list (pe_ix ix_list (pv 1) (pe_ix ix_list (pv 2) (pv 5) (fun _ _ => rfl)) (fun _ _ => rfl)) pe_int (fun _ _ => rfl)))))))
      (pss_one (ps_ret (pv 2))))))), ?_⟩
  have la : (as.map V.ref).length = nds.length := by rw [List.length_map, X.la]
  refine ⟨Nat.zero_le _, fun fo hfo => ⟨by show 1 ≤ sizeLine; omega, fun x0 hx0 => ?_⟩⟩
  have s1 := same_new hfo (.lst [])
  have s2 := same_new hx0 (.lst [.bl false])
  have S2 := s1.trans s2
  have hf2 := s2 _ _ (upd_same (H := H) (a := fo) (o := .lst []))
  have hx2 : upd (upd H fo (.lst [])) x0 (.lst [.bl false]) x0 = some (.lst [.bl false]) := upd_same
  generalize upd (upd H fo (.lst [])) x0 (.lst [.bl false]) = H2 at S2 hf2 hx2
  refine ⟨_, rfl, nb, _, rfl, .inl (SqL.of (S2 _ _ X.h0)), x0, _, _, rfl, rfl, hx2, by rw [la]; omega, by rw [la]; omega, by rw [la]; show 1 * (nds.length : Int).toNat ≤ _; omega, fun se hse => ?_⟩
  have s3 := same_new hse (.lst ((List.replicate ((as.map V.ref).length : Int).toNat [V.bl false]).flatten))
  have S3 := S2.trans s3
  have hf3 := s3 _ _ hf2
  have hs3 : upd H2 se (.lst ((List.replicate ((as.map V.ref).length : Int).toNat [V.bl false]).flatten)) se = some (.lst (seenL nds.length [])) := by
    rw [upd_same, la, rep_flat, seenL_nil]; rfl
  have nfs : fo ≠ se := ne_of_none hf2 hse
  have fse : H se = none := S2.free hse
  generalize upd H2 se (.lst ((List.replicate ((as.map V.ref).length : Int).toNat [V.bl false]).flatten)) = H3 at S3 hf3 hs3
  refine ⟨_, rfl, _, rfl, nb, _, rfl, .inl (SqL.of (S3 _ _ X.h0)), _, _, rfl, rfl, ((nds.length + 1 : Nat) : Int), by rw [la]; rfl, by omega, by omega, ?_⟩
  refine for_range (lo := 0) (n := nds.length + 1) (fun i σ H' => ∃ os ra vs res o5 o6 o7, σ = [some (.ref ea), some (.ref nb), some (.ref fo), some (.ref se), some (.ref ra), o5, o6, o7] ∧ Same H H' ∧ H' fo = some (.lst (nats os)) ∧ H' se = some (.lst (seenL nds.length os)) ∧
    H ra = some (.lst vs) ∧ Reps H vs (rowD ixD res) ∧ (∀ e ∈ res, e.ok nds.length) ∧ (∀ x ∈ os, x < nds.length) ∧ os.Nodup ∧ bfs (scN nds) (nds.length + 1 - i) (meet (tgs res) os) i = reachN nds es ∧ i ≤ os.length)
    ⟨[], ea, ws, es, none, none, none, rfl, S3, hf3, hs3, he, re, oe, (fun x h => by cases h), List.Pairwise.nil, rfl, Nat.zero_le _⟩ ?_ ?_
  · rintro i σ H4 hi ⟨os, ra, vs, res, o5, o6, o7, rfl, S4, hf4, hs4, hra, rra, ora, lt, nd, eb, lei⟩
    have nraf : ra ≠ fo := ne_of_none hra hfo
    have nras : ra ≠ se := ne_of_none hra fse
    have vl : vs.length = res.length := by rw [rra.len, rowD_len]
    refine ⟨_, rfl, ra, rfl, ⟨vs, SqL.of (S4 _ _ hra)⟩, ?_⟩
    refine for_it (walk_list (xs := vs)) (fun j σ H' => ∃ o6 o7, σ = [some (.ref ea), some (.ref nb), some (.ref fo), some (.ref se), some (.ref ra), some (.int (0 + (i : Int))), o6, o7] ∧ Same H H' ∧ H' fo = some (.lst (nats (meet (tgs (res.take j)) os))) ∧ H' se = some (.lst (seenL nds.length (meet (tgs (res.take j)) os))))
      ⟨o6, o7, rfl, S4, hf4, hs4⟩ (fun j σ H' _ h => by
        obtain ⟨o6, o7, rfl, s, _⟩ := h
        exact SqL.of (s _ _ hra)) ?_ ?_
    · rintro j x σ H5 H6 hj ⟨o6, o7, rfl, S5, h1, h2⟩ ⟨rfl, hx⟩
      obtain ⟨hj', rd⟩ := rows_at (rra.mono (.same S5)) hx
      have oei := ora _ (List.getElem_mem hj')
      obtain ⟨os1, e1⟩ : ∃ os1, os1 = meet (tgs (res.take j)) os := ⟨_, rfl⟩
      rw [← e1] at h1 h2
      have lt1 : ∀ y ∈ os1, y < nds.length := fun y hy => by
        rw [e1] at hy
        rcases meet_mem.mp hy with h | h
        · exact lt y h
        · exact tgs_lt (fun e he => ora e (List.mem_of_mem_take he)) y h
      have nd1 : os1.Nodup := by rw [e1]; exact meet_nodup nd
      have l1 := nodup_le _ nd1 lt1
      have st : meet (tgs (res.take (j + 1))) os = meet (res[j].tg.toList) os1 := by
        rw [take_next hj', tgs_app, meet_app, e1, tgs_one]
      refine ⟨_, rfl, x, res[j], nds.length, rfl, rd, oei, ?_⟩
      cases ht : res[j].tg with
      | none =>
        rw [ht] at st
        refine ⟨_, rfl, _, _, rfl, rfl, _, rfl, ?_⟩
        refine ite2 (fun c => absurd c (by decide)) (fun _ => ⟨_, _, rfl, S5, by rw [st]; exact h1, by rw [st]; exact h2⟩)
      | some k =>
        rw [ht] at st
        have hk := Ent.tg_lt oei ht
        have st2 : meet (some k).toList os1 = put1 os1 k := rfl
        rw [st2] at st
        refine ⟨_, rfl, _, _, rfl, rfl, _, rfl, ?_⟩
        rw [show decide (tgV (some k) ≥ 0) = true from decide_eq_true (by show ((k : Nat) : Int) ≥ 0; omega)]
        refine iteT ⟨_, rfl, _, rfl, se, _, _, .bl (decide (k ∈ os1)), rfl, rfl, SqL.of h2, (show atI _ ((k : Nat) : Int) = _ from atI_nat (seenL_at hk)), _, rfl, ?_⟩
        by_cases hm1 : k ∈ os1
        · rw [decide_eq_true hm1]
          refine iteF ⟨_, _, rfl, S5, ?_, ?_⟩
          · rw [st]; unfold put1; rw [if_pos hm1]; exact h1
          · rw [st]; unfold put1; rw [if_pos hm1]; exact h2
        · rw [decide_eq_false hm1]
          refine iteT ⟨_, rfl, _, rfl, se, _, _, k, rfl, rfl, h2, by rw [seenL_len]; exact ixN_nat hk, ?_⟩
          rw [seenL_set hk]
          have h1' : upd H6 se (.lst (seenL nds.length (os1 ++ [k]))) fo = some (.lst (nats os1)) := by rw [upd_ne nfs]; exact h1
          refine ⟨_, rfl, .inl ⟨rfl, _, SqL.of h1'⟩, _, rfl, fo, _, _, rfl, rfl, h1', by rw [nats_len]; omega, ?_⟩
          refine ⟨_, _, rfl, ?_, ?_, ?_⟩
          · intro b o hb
            rw [upd_ne (ne_of_none hb hfo), upd_ne (ne_of_none hb fse)]; exact S5 _ _ hb
          · rw [upd_same, st]; unfold put1; rw [if_neg hm1, nats_app]; rfl
          · rw [upd_ne (Ne.symm nfs), upd_same, st]; unfold put1; rw [if_neg hm1]
    · rintro σ H5 ⟨o6, o7, rfl, S5, h1, h2⟩
      rw [vl, List.take_length] at h1 h2
      obtain ⟨os2, e2⟩ : ∃ os2, os2 = meet (tgs res) os := ⟨_, rfl⟩
      rw [← e2] at h1 h2 eb
      have lt2 : ∀ y ∈ os2, y < nds.length := fun y hy => by
        rw [e2] at hy
        rcases meet_mem.mp hy with h | h
        · exact lt y h
        · exact tgs_lt ora y h
      have nd2 : os2.Nodup := by rw [e2]; exact meet_nodup nd
      refine ⟨_, rfl, _, rfl, fo, _, rfl, .inl (SqL.of h1), _, _, rfl, rfl, _, rfl, ?_⟩
      rw [nats_len]
      refine ite2 (fun c => ?_) (fun c => ?_)
      · have c : (0 + (i : Int)) ≥ (os2.length : Int) := of_decide_eq_true c
        rw [bfs_stop (by omega)] at eb
        subst eb
        exact ⟨_, rfl, q fo H5 S5 hfo h1⟩
      · have c : ¬ ((0 + (i : Int)) ≥ (os2.length : Int)) := of_decide_eq_false (by simpa using c)
        have hi2 : i < os2.length := by omega
        have hx := lt2 _ (List.getElem_mem hi2)
        have X5 := X.same S5
        obtain ⟨a, r, tv, us, ea', er, g, rt, g2, rr, ul⟩ := X5.look (List.getElem?_eq_getElem hx)
        obtain ⟨a0, r0, tv0, us0, ea0, er0, g0, rt0, g20, rr0, ul0⟩ := X.look (List.getElem?_eq_getElem hx)
        have : r0 = r := Option.some.inj (er0.symm.trans er)
        subst this
        refine ⟨_, rfl, _, rfl, _, rfl, fo, _, _, _, rfl, rfl, SqL.of h1, by rw [Int.zero_add]; exact nats_at hi2, nb, _, _, .ref a, rfl, rfl, SqL.of X5.h0, node_at ea', a, _, 2, _, rfl, rfl, SqL.of g, rfl, ?_⟩
        refine ⟨os2, r0, us0, nds[os2[i]].row, _, _, _, rfl, S5, h1, h2, g20, rr0, rok _ (List.getElem_mem hx), lt2, nd2, ?_, by omega⟩
        rw [← eb, show nds.length + 1 - i = (nds.length + 1 - (i + 1)) + 1 by omega, bfs_step hi2, scN_at (List.getElem?_eq_getElem hx)]
  · rintro σ H4 ⟨os, ra, vs, res, o5, o6, o7, rfl, S4, hf4, hs4, hra, rra, ora, lt, nd, eb, lei⟩
    have := nodup_le _ nd lt
    omega
end
end D0
namespace D0
open PySem PySem.Spec PyProof.Rows L2 SX NumText
theorem plc_nil (x : Nat) : plc [] x = -1 := by unfold plc; rw [if_neg (by simp)]
theorem plc_snoc {l : List Nat} {x : Nat} (n : x ∉ l) (j : Nat) : plc (l ++ [x]) j = if x = j then (l.length : Int) else plc l j := by
  unfold plc
  by_cases e : x = j
  · subst e
    rw [if_pos rfl, if_pos (by simp), List.idxOf_append, if_neg n]; simp
  · rw [if_neg e]
    by_cases h : j ∈ l
    · rw [if_pos h, if_pos (by simp [h]), List.idxOf_append, if_pos h]
    · rw [if_neg h, if_neg (by simp [h, Ne.symm e])]
theorem tbF_const {x : Int} {f : Nat → Int} (h : ∀ k, f k = x) (N : Nat) : tbF f N = List.replicate N (.int x) := by
  unfold tbF
  rw [← map_range_const]
  exact List.map_congr_left fun k _ => by rw [h]
theorem tbF_set {f g : Nat → Int} {N k : Nat} {i : Int} (h : k < N) (e : ∀ j, j < N → g j = if k = j then i else f j) : (tbF f N).set k (.int i) = tbF g N := by
  refine List.ext_getElem? fun j => ?_
  rw [List.getElem?_set]
  by_cases q : k = j
  · subst q
    rw [if_pos rfl, if_pos (by rw [tbF_len]; exact h), tbF_at h, e k h, if_pos rfl]
  · rw [if_neg q]
    by_cases hj : j < N
    · rw [tbF_at hj, tbF_at hj, e j hj, if_neg q]
    · rw [List.getElem?_eq_none (by rw [tbF_len]; omega), List.getElem?_eq_none (by rw [tbF_len]; omega)]
def spLGraph : Sp := fun vs H Q _ => ∃ (ea nb fd : Addr) (as rs : List Addr) (nds : List Nd) (ws : List V) (es : List Ent), vs = [.ref ea, .ref nb, .ref fd] ∧ BoA H nb as rs nds ∧ (∀ n ∈ nds, n.ok nds.length) ∧ nds.length ≤ 2000 ∧ H ea = some (.lst ws) ∧ Reps H ws (rowD ixD es) ∧ (∀ e ∈ es, e.ok nds.length) ∧ es.length ≤ 100 ∧
  H fd = some (.lst (nats (reachN nds es))) ∧ ∀ v H', Same H H' → Rep H' v (graphD nds es) → Q v H'
section
variable {P : Program} {w : World} {K : PySem.W.Frag} {mg : Str → Option Value} {base : Heap}
theorem ok__law_graph (T : Txt K w mg) (Os : OkD P w K mg base CX0 3 "_law_sent" p__law_sent spSent) : OkD P w K mg base CX0 4 "_law_graph" p__law_graph spLGraph := by
  refine T.g__law_graph.ok sc__law_graph (fun vs H Q E h => ?_) (fun f cdv A outer s H vs Q E hr h => ?_)
  · obtain ⟨ea, nb, fd, as, rs, nds, ws, es, rfl, _⟩ := h; rfl
  obtain ⟨ea, nb, fd, as, rs, nds, ws, es, rfl, X, rok, hN, he, re, oe, hes, hfd, q⟩ := h
  have lim : (4000 : Nat) < sizeLine := by decide
  refine ⟨_, (pss_cons (ps_set (i := 3) sc__law_graph.nd rfl (.inl rfl) (pe_op op_rep (pe_lst (pa_cons (pe_un un_neg pe_int) pa_nil)) (pe_callB call_len_seq (by rfl) T.z_len PySem.boot_len (pa_cons (pv 1) pa_nil))))
      (pss_cons (ps_for PassesOwn.never rfl (pi_range1 rfl T.z_range (pa_cons (pe_callB call_len_seq (by rfl) T.z_len PySem.boot_len (pa_cons (pv 2) pa_nil)) pa_nil)) (pg_name (i := 4) sc__law_graph.nd rfl (Or.inl rfl)) (pss_one (ps_asg (pv 4) (pg_sub (pv 3) (pe_ix ix_list (pv 2) (pv 4) (fun _ _ => rfl)) set_list))))
      (pss_cons (ps_set (i := 5) sc__law_graph.nd rfl (.inl rfl) (pe_lst pa_nil))
      (pss_cons (ps_for PassesOwn.never rfl (pi_list (pv 2)) (pg_name (i := 6) sc__law_graph.nd rfl (Or.inl rfl)) (pss_one (ps_expr (pe_bm PySem.F.plainAttrs_list PySem.F.slot_list_append PySem.F.type_list_append mt_append (pv 5) (pa_cons (pe_tup (pa_cons (pe_ix ix_list (pe_ix ix_list (pv 1) (pv 6) (fun _ _ => rfl)) pe_int (fun _ _ => rfl)) (pa_cons (pe_ix ix_list (pe_ix ix_list (pv 1) (pv 6) (fun _ _ => rfl)) pe_int (fun _ _ => rfl)) (pa_cons (pe_callTy call_tuple_of (by rfl) T.z_tuple PyProof.Rows.boot_tuple (pa_cons (pcall Os hr (pa_cons (pe_ix ix_list (pe_ix ix_list (pv 1) (pv 6) (fun _ _ => rfl)) pe_int (fun _ _ => rfl)) (pa_cons (pv 3) pa_nil))) pa_nil)) pa_nil)))) pa_nil)))))
      (pss_one (ps_ret (pe_tup (pa_cons (pe_callTy call_tuple_of (by rfl) T.z_tuple PyProof.Rows.boot_tuple (pa_cons (pcall Os hr (pa_cons (pv 0) (pa_cons (pv 3) pa_nil))) pa_nil)) (pa_cons (pe_callTy call_tuple_of (by rfl) T.z_tuple PyProof.Rows.boot_tuple (pa_cons (pv 5) pa_nil)) pa_nil))))))))), ?_⟩
  have la : (as.map V.ref).length = nds.length := by rw [List.length_map, X.la]
  have rok2 : ∀ n ∈ nds, ∀ e ∈ n.row, e.ok nds.length := fun n hn => (rok n hn).row
  have CL := reachN_clo (es := es) rok2 oe
  obtain ⟨R, eR⟩ : ∃ R, R = reachN nds es := ⟨_, rfl⟩
  rw [← eR] at CL hfd
  have lR := nodup_le _ CL.nd CL.lt
  refine ⟨1, rfl, by show 1 ≤ sizeLine; omega, fun x0 hx0 => ?_⟩
  have s2 := same_new hx0 (.lst [.int (-1)])
  have hx2 : upd H x0 (.lst [.int (-1)]) x0 = some (.lst [.int (-1)]) := upd_same
  refine ⟨_, rfl, nb, _, rfl, .inl (SqL.of (s2 _ _ X.h0)), x0, _, _, rfl, rfl, hx2, by rw [la]; omega, by rw [la]; omega, by rw [la]; show 1 * (nds.length : Int).toNat ≤ _; omega, fun pl hpl => ?_⟩
  have s3 := same_new hpl (.lst ((List.replicate ((as.map V.ref).length : Int).toNat [V.int (-1)]).flatten))
  have S3 := s2.trans s3
  have hp3 : upd (upd H x0 (.lst [.int (-1)])) pl (.lst ((List.replicate ((as.map V.ref).length : Int).toNat [V.int (-1)]).flatten)) pl = some (.lst (tbF (plc (R.take 0)) nds.length)) := by
    rw [upd_same, la, rep_flat, tbF_const (x := -1) (fun k => by rw [List.take_zero]; exact plc_nil k)]; rfl
  have fpl : H pl = none := s2.free hpl
  generalize upd (upd H x0 (.lst [.int (-1)])) pl (.lst ((List.replicate ((as.map V.ref).length : Int).toNat [V.int (-1)]).flatten)) = H3 at S3 hp3
  refine ⟨_, rfl, fd, _, rfl, .inl (SqL.of (S3 _ _ hfd)), (R.length : Nat), by rw [nats_len], by omega, by omega, ?_⟩
  refine for_range (lo := 0) (n := R.length) (fun i σ H' => ∃ o4, σ = [some (.ref ea), some (.ref nb), some (.ref fd), some (.ref pl), o4, none, none] ∧ Same H H' ∧ H' pl = some (.lst (tbF (plc (R.take i)) nds.length))) ⟨none, rfl, S3, hp3⟩ ?_ ?_
  · rintro i σ H4 hi ⟨o4, rfl, S4, h4⟩
    have hx := CL.lt _ (List.getElem_mem hi)
    refine ⟨_, rfl, _, rfl, _, rfl, _, rfl, fd, _, _, _, rfl, rfl, SqL.of (S4 _ _ hfd), by rw [Int.zero_add]; exact nats_at hi, pl, _, _, R[i], rfl, rfl, h4, by rw [tbF_len]; exact ixN_nat hx, ?_⟩
    refine ⟨_, rfl, same_grow S4 fpl, ?_⟩
    rw [upd_same]
    have nm : R[i] ∉ R.take i := fun z => by
      obtain ⟨j, hj, e⟩ := List.getElem_of_mem z
      rw [List.getElem_take] at e
      have := (List.getElem_inj CL.nd).mp e
      rw [List.length_take] at hj; omega
    have lt : (R.take i).length = i := by rw [List.length_take]; omega
    rw [show (0 + (i : Int)) = (i : Int) by omega, tbF_set (g := plc (R.take (i + 1))) hx]
    intro j hj
    rw [take_next hi, plc_snoc nm, lt]
  rintro σ H4 ⟨o4, rfl, S4, h4⟩
  rw [List.take_length] at h4
  refine ⟨Nat.zero_le _, fun ob hob => ?_⟩
  have fob : H ob = none := S4.free hob
  have S5 := S4.trans (same_new hob (.lst []))
  have h5 : upd H4 ob (.lst []) pl = some (.lst (tbF (plc R) nds.length)) := by rw [upd_ne (ne_of_none h4 hob)]; exact h4
  have o5 : upd H4 ob (.lst []) ob = some (.lst []) := upd_same
  have npo : pl ≠ ob := ne_of_none h4 hob
  generalize upd H4 ob (.lst []) = H5 at S5 h5 o5
  refine ⟨_, rfl, fd, rfl, ⟨_, SqL.of (S5 _ _ hfd)⟩, ?_⟩
  refine for_it (walk_list (xs := nats R)) (fun i σ H' => ∃ o6, σ = [some (.ref ea), some (.ref nb), some (.ref fd), some (.ref pl), o4, some (.ref ob), o6] ∧ Same H H' ∧ H' pl = some (.lst (tbF (plc R) nds.length)) ∧ ∃ us, H' ob = some (.lst us) ∧ Reps H' us ((R.take i).map (objD nds (plc R))) ∧ us.length = i)
    ⟨none, rfl, S5, h5, [], o5, .nil, rfl⟩ (fun i σ H' _ h => by
      obtain ⟨o6, rfl, s, _⟩ := h
      exact SqL.of (s _ _ hfd)) ?_ ?_
  · rintro i x σ H6 H7 hi ⟨o6, rfl, S6, h6, us, u6, r6, l6⟩ ⟨rfl, hx⟩
    rw [nats_len] at hi
    unfold nats at hx
    rw [List.getElem?_map, List.getElem?_eq_getElem hi] at hx
    have hx := Option.some.inj hx
    subst hx
    have hk := CL.lt _ (List.getElem_mem hi)
    obtain ⟨n, hn⟩ : ∃ n, nds[R[i]]? = some n := ⟨_, List.getElem?_eq_getElem hk⟩
    have nok := rok n (List.mem_of_getElem? hn)
    have X7 := X.same S6
    obtain ⟨a, r, tv, vs, ea', er, g, rt, g2, rr, vl⟩ := X7.look hn
    refine ⟨_, rfl, .inl ⟨rfl, _, SqL.of u6⟩, _, rfl, _, rfl, nb, _, _, .ref a, rfl, rfl, SqL.of X7.h0, node_at ea', a, _, 0, _, rfl, rfl, SqL.of g, rfl, _, rfl, _, rfl, nb, _, _, .ref a, rfl, rfl, SqL.of X7.h0, node_at ea', a, _, 1, _, rfl, rfl, SqL.of g, rfl, ?_⟩
    refine ⟨_, rfl, _, rfl, nb, _, _, .ref a, rfl, rfl, SqL.of X7.h0, node_at ea', a, _, 2, _, rfl, rfl, SqL.of g, rfl, _, rfl, r, pl, vs, n.row, plc R, nds.length, rfl, g2, rr, nok.row, nok.len, h6, fun p us2 H8 s8 fp hp ru => ?_⟩
    refine ⟨p, us2, rfl, .inl ⟨SqL.of hp, fun t3 ht3 => ?_⟩⟩
    have s9 := same_new ht3 (.tup us2)
    have r8 : Rep (upd H8 t3 (.tup us2)) (.ref t3) (.tup (rowD (plc R) n.row)) := Rep.tupOf upd_same (ru.mono (.same s9)) (by rw [rowD_len]; have := nok.len; omega)
    have S9 := s8.trans s9
    generalize upd H8 t3 (.tup us2) = H9 at r8 S9
    refine ⟨by show 3 ≤ sizeLine; omega, fun t4 ht4 => ?_⟩
    have s10 := same_new ht4 (.tup [.str (S n.kind), tv, .ref t3])
    have h10 := s10 _ _ (S9 _ _ u6)
    have S10 := S9.trans s10
    refine ⟨ob, us, _, rfl, rfl, h10, by omega, ?_⟩
    refine ⟨_, rfl, same_grow (S6.trans S10) fob, by rw [upd_ne npo]; exact S10 _ _ h6, us ++ [.ref t4], upd_same, ?_, by simp [l6]⟩
    have tt : Tups (upd H9 t4 (.tup [.str (S n.kind), tv, .ref t3])) (upd (upd H9 t4 (.tup [.str (S n.kind), tv, .ref t3])) ob (.lst (us ++ [.ref t4]))) := .lst h10
    rw [take_next hi, List.map_append]
    refine (r6.mono ((Tups.same S10).trans tt)).app (.one ?_)
    have eo : objD nds (plc R) R[i] = .tup [.str n.kind, n.tag, .tup (rowD (plc R) n.row)] := by unfold objD; rw [hn]
    rw [eo]
    exact Rep.mono tt (Rep.three upd_same (.str _) (rt.mono (.same S10)) (r8.mono (.new ht4)))
  · rintro σ H6 ⟨o6, rfl, S6, h6, us, u6, r6, l6⟩
    rw [nats_len, List.take_length] at r6
    rw [nats_len] at l6
    refine ⟨_, rfl, _, rfl, ea, pl, ws, es, plc R, nds.length, rfl, S6 _ _ he, re.mono (.same S6), oe, hes, h6, fun p us2 H8 s8 fp hp ru => ?_⟩
    refine ⟨p, us2, rfl, .inl ⟨SqL.of hp, fun t3 ht3 => ?_⟩⟩
    have s9 := same_new ht3 (.tup us2)
    have r8 : Rep (upd H8 t3 (.tup us2)) (.ref t3) (.tup (rowD (plc R) es)) := Rep.tupOf upd_same (ru.mono (.same s9)) (by rw [rowD_len]; omega)
    have S9 := s8.trans s9
    generalize upd H8 t3 (.tup us2) = H9 at r8 S9
    refine ⟨_, rfl, ob, us, rfl, .inl ⟨SqL.of (S9 _ _ u6), fun t5 ht5 => ⟨by show 2 ≤ sizeLine; omega, fun t6 ht6 => ?_⟩⟩⟩
    have s10 := same_new ht5 (.tup us)
    have s11 := same_new ht6 (.tup [.ref t3, .ref t5])
    refine q _ _ (S6.trans (S9.trans (s10.trans s11))) ?_
    unfold graphD
    rw [← eR]
    exact Rep.two upd_same (r8.mono (.same (s10.trans s11))) (Rep.tupOf (s11 _ _ upd_same) (r6.mono (.same (S9.trans (s10.trans s11)))) (by rw [List.length_map]; omega))
end
end D0
namespace D0
open PySem PySem.Spec PyProof.Rows L2 SX NumText
theorem sqL_sm {K : PySem.W.Frag} {H H' : Hp} {a : Addr} {vs : List V} (h : SqL K H a vs) (s : Same H H') : SqL K H' a vs := by
  rcases h with (h | ⟨o, h⟩) | h
  · exact .inl (.inl (s _ _ h))
  · exact .inl (.inr ⟨o, s _ _ h⟩)
  · exact .inr h
theorem Bag.ln {b a : Addr} {H : Hp} {vs : List V} (x : Bag H b) (h : H a = some (.lst vs)) (n : ∀ c n s t k : Int, vs ≠ C5 c n s t k) : a ≠ b := by
  obtain ⟨c, t, m, u, v, e⟩ := x
  rintro rfl
  rw [e] at h; cases h
  exact n _ _ _ _ _ rfl
theorem reps_row_ref {H : Hp} {f : Nat → Int} {vs : List V} {es : List Ent} (r : Reps H vs (rowD f es)) (c n s t k : Int) : vs ≠ C5 c n s t k := by
  rintro rfl
  have h0 : (C5 c n s t k)[0]? = some (V.int c) := rfl
  obtain ⟨hi, rd⟩ := rows_at r h0
  obtain ⟨a, z, us, e, _⟩ := ent_head rd
  cases e
theorem BoA.nbag {H : Hp} {nb b : Addr} {as rs : List Addr} {nds : List Nd} (X : BoA H nb as rs nds) (x : Bag H b) : b ∉ FN nb as rs := fun m => by
  have la := X.la; have lr := X.lr
  unfold FN at m
  rcases List.mem_cons.mp m with h | h
  · refine Bag.ln x X.h0 (fun c n s t k e => ?_) h.symm
    cases as with
    | nil => cases e
    | cons y r => cases e
  · rcases List.mem_append.mp h with h | h
    · obtain ⟨j, hj⟩ := List.getElem?_of_mem h
      obtain ⟨hj', _⟩ := List.getElem?_eq_some_iff.mp hj
      obtain ⟨tv, g, _⟩ := X.hN j b _ _ hj (List.getElem?_eq_getElem (by omega)) (List.getElem?_eq_getElem (by omega))
      exact Bag.ln x g (fun c n s t k e => by cases e) rfl
    · obtain ⟨j, hj⟩ := List.getElem?_of_mem h
      obtain ⟨hj', _⟩ := List.getElem?_eq_some_iff.mp hj
      obtain ⟨vs, g, r⟩ := X.hR j b _ hj (List.getElem?_eq_getElem (by omega))
      exact Bag.ln x g (reps_row_ref r) rfl
theorem Bag.stp {H H' : Hp} {b c : Addr} (x : Bag H b) (s : Stp c H H') : Bag H' b := by
  by_cases e : b = c
  · rw [e]; exact s.b1
  · obtain ⟨c1, c2, c3, c4, c5, h⟩ := x
    exact ⟨c1, c2, c3, c4, c5, s.keep _ _ e h⟩
def tallN (many k : Nat) : Nd := ⟨cs (Str.ofString "list"), .non, [.pl (.ref (many + k + 1))]⟩
def tallZ : Nd := ⟨cs (Str.ofString "list"), .non, [.pl (.ref 0)]⟩
def spNodes (K : PySem.W.Frag) : Sp := fun vs H Q _ => ∃ (a : Addr) (ns : List Int) (many tall : Nat), vs = [.ref a, .int many, .int tall] ∧ SqL K H a (ns.map V.int) ∧ 1 ≤ many ∧ many ≤ 30 ∧ tall ≤ 1200 ∧
  ∀ nb as rs nds H', Same H H' → BoA H' nb as rs nds → nds.length = many + tall → (∀ n ∈ nds, n.ok nds.length) → (∀ x ∈ FN nb as rs, H x = none) → Q (.ref nb) H'
/-- the row of one reference -/
theorem reps_ref {H : Hp} {p : Addr} {k : Nat} {i : Int} (h : H p = some (.tup [.str sRef, .int i])) (e : i = ixD k) : Reps H [.ref p] (rowD ixD [.pl (.ref k)]) := .one (rep_ref h e)
theorem fn_more {nb a r x : Addr} {as rs : List Addr} (h : x ∈ FN nb (as ++ [a]) (rs ++ [r])) : x ∈ FN nb as rs ∨ x = a ∨ x = r := by
  simp only [FN, List.mem_cons, List.mem_append, List.not_mem_nil, or_false] at h ⊢
  rcases h with h | (h | h) | (h | h)
  · exact .inl (.inl h)
  · exact .inl (.inr (.inl h))
  · exact .inr (.inl h)
  · exact .inl (.inr (.inr h))
  · exact .inr (.inr h)
theorem fn_set {nb a r x : Addr} {as rs : List Addr} {k : Nat} (h : x ∈ FN nb (as.set k a) (rs.set k r)) : x ∈ FN nb as rs ∨ x = a ∨ x = r := by
  simp only [FN, List.mem_cons, List.mem_append] at h ⊢
  rcases h with h | h | h
  · exact .inl (.inl h)
  · rcases List.mem_or_eq_of_mem_set h with h | h
    · exact .inl (.inr (.inl h))
    · exact .inr (.inl h)
  · rcases List.mem_or_eq_of_mem_set h with h | h
    · exact .inl (.inr (.inr h))
    · exact .inr (.inr h)
section
variable {P : Program} {w : World} {K : PySem.W.Frag} {mg : Str → Option Value} {base : Heap}
theorem ok__law_nodes (T : Txt K w mg) (Ob : OkD P w K mg base CX0 2 "_law_box" p__law_box (spBox K)) (Ok : OkD P w K mg base CX0 2 "_law_kind" p__law_kind spKind)
    (Of : OkD P w K mg base CX0 7 "_law_form" p__law_form spForm) : OkD P w K mg base CX0 8 "_law_nodes" p__law_nodes (spNodes K) := by
  refine T.g__law_nodes.ok sc__law_nodes (fun vs H Q E h => ?_) (fun f cdv A outer s H vs Q E hr h => ?_)
  · obtain ⟨a, ns, many, tall, rfl, _⟩ := h; rfl
  obtain ⟨a, ns, many, tall, rfl, hS, m1, m30, t12, q⟩ := h
  have lim : (4000 : Nat) < sizeLine := by decide
  refine ⟨_, (pss_cons (ps_setLc (i := 4) (own := [("k", 3)]) (g := gName 3) (tt := tYes) rfl sc__law_nodes.nd rfl rfl rfl (pi_range1 rfl T.z_range (pa_cons (pv 1) pa_nil)) (blkOk_by (own := [("k", 3)]) (N := n__law_nodes) (sc := defScope s__law_nodes) (by decide +kernel)) (fun _ _ _ _ _ => (pg_name (i := 3) sc__law_nodes.nd rfl (Or.inl rfl))) (fun _ _ _ _ _ => pts_nil) (fun _ _ _ _ _ => (pcall Ob hr (pa_cons (pv 0) (pa_cons (pe_op op_add pe_int (pv 3)) pa_nil)))))
      (pss_cons (ps_set (i := 5) sc__law_nodes.nd rfl (.inr rfl) (pe_lc (own := [("box", 10)]) (g := gName 10) (tt := tYes) rfl sc__law_nodes.nd (pi_list (pv 4)) (blkOk_by (own := [("box", 10)]) (N := n__law_nodes) (sc := defScope s__law_nodes) (by decide +kernel)) (fun _ _ _ _ _ => (pg_name (i := 10) sc__law_nodes.nd rfl (Or.inl rfl))) (fun _ _ _ _ _ => pts_nil) (fun _ _ _ _ _ => (pcall Ok hr (pa_cons (pv 10) pa_nil)))))
      (pss_cons (ps_setLc (i := 6) (own := [("k", 3)]) (g := gName 3) (tt := tYes) rfl sc__law_nodes.nd rfl rfl rfl (pi_range1 rfl T.z_range (pa_cons (pe_op op_add (pv 1) (pe_callTy call_int1 (by rfl) T.z_int PyProof.Rows.boot_int (pa_cons (pe_cmpR op_gt (pv 2) pe_int (nomark _)) pa_nil))) pa_nil)) (blkOk_by (own := [("k", 3)]) (N := n__law_nodes) (sc := defScope s__law_nodes) (by decide +kernel)) (fun _ _ _ _ _ => (pg_name (i := 3) sc__law_nodes.nd rfl (Or.inl rfl))) (fun _ _ _ _ _ => pts_nil) (fun _ _ _ _ _ => (pv 3)))
      (pss_cons (ps_setLc (i := 7) (own := [("k", 3)]) (g := gName 3) rfl sc__law_nodes.nd rfl rfl rfl (pi_range1 rfl T.z_range (pa_cons (pv 1) pa_nil)) (blkOk_by (own := [("k", 3)]) (N := n__law_nodes) (sc := defScope s__law_nodes) (by decide +kernel)) (fun _ _ _ _ _ => (pg_name (i := 3) sc__law_nodes.nd rfl (Or.inl rfl))) (fun _ _ _ _ _ => (pts_one (pt_cmpR op_eq (pe_ix (show IxR _ (rIxL K) from ix_list) (pv 5) (pv 3) (fun _ _ => rfl)) pe_str (nomark _)))) (fun _ _ _ _ _ => (pv 3)))
      (pss_cons (ps_set (i := 8) sc__law_nodes.nd rfl (.inl rfl) (pe_lst pa_nil))
      (pss_cons (ps_for PassesOwn.never rfl (pi_range1 rfl T.z_range (pa_cons (pv 1) pa_nil)) (pg_name (i := 3) sc__law_nodes.nd rfl (Or.inl rfl)) (pss_cons (ps_set (i := 9) sc__law_nodes.nd rfl (.inl rfl) (pcall Of hr (pa_cons (pe_ix ix_list (pv 4) (pv 3) (fun _ _ => rfl)) (pa_cons (pe_ix ix_list (pv 5) (pv 3) (fun _ _ => rfl)) (pa_cons (pv 6) (pa_cons (pv 7) pa_nil))))))
      (pss_one (ps_expr (pe_bm PySem.F.plainAttrs_list PySem.F.slot_list_append PySem.F.type_list_append mt_append (pv 8) (pa_cons (pe_lst (pa_cons (pe_ix ix_list (pv 5) (pv 3) (fun _ _ => rfl)) (pa_cons (pe_ix ix_tup (pv 9) pe_int (fun _ _ => rfl)) (pa_cons (pe_ix ix_tup (pv 9) pe_int (fun _ _ => rfl)) pa_nil)))) pa_nil))))))
      (pss_cons (ps_for PassesOwn.never rfl (pi_range1 rfl T.z_range (pa_cons (pv 2) pa_nil)) (pg_name (i := 3) sc__law_nodes.nd rfl (Or.inl rfl)) (pss_one (ps_expr (pe_bm PySem.F.plainAttrs_list PySem.F.slot_list_append PySem.F.type_list_append mt_append (pv 8) (pa_cons (pe_lst (pa_cons pe_str (pa_cons pe_non (pa_cons (pe_lst (pa_cons (pe_tup (pa_cons pe_str (pa_cons (pe_op op_add (pe_op op_add (pv 1) (pv 3)) pe_int) pa_nil))) pa_nil)) pa_nil)))) pa_nil)))))
      (pss_cons (ps_if (pt_cmpR op_gt (pv 2) pe_int (nomark _)) (pss_one (ps_asg (pe_lst (pa_cons pe_str (pa_cons pe_non (pa_cons (pe_lst (pa_cons (pe_tup (pa_cons pe_str (pa_cons pe_int pa_nil))) pa_nil)) pa_nil)))) (pg_sub (pv 8) (pe_op op_sub (pe_op op_add (pv 1) (pv 2)) pe_int) set_list))) pss_nil)
      (pss_one (ps_ret (pv 8))))))))))), ?_⟩
  -- boxes
  refine ⟨_, rfl, many, rfl, by omega, by omega, fun bl hbl => ?_⟩
  refine lc_it walk_range (fun i H' => Same H H' ∧ ∃ bs : List Addr, H' bl = some (.lst (bs.map V.ref)) ∧ bs.length = i ∧ (∀ b ∈ bs, Bag H' b) ∧ ∀ b ∈ bs, H b = none) ⟨same_new hbl _, [], upd_same, rfl, (fun b h => by cases h), fun b h => by cases h⟩ (fun _ _ _ _ => trivial) ?_ ?_
  · rintro i x H3 H4 hi ⟨s3, bs, h3, l3, b3, f3⟩ ⟨rfl, rfl⟩
    have hi' : i < many := by simpa using hi
    refine ⟨rfl, iteT (B := True) (iteT ?_)⟩
    refine ⟨_, rfl, _, rfl, _, _, rfl, rfl, a, ns, 1 + i, (by show [V.ref a, V.int (1 + (0 + (i : Int)))] = _; rw [show (1 + (0 + (i : Int))) = ((1 + i : Nat) : Int) by omega]), sqL_sm hS s3, by omega, fun p H5 s5 fp bp => ?_⟩
    have h5 := s5 _ _ h3
    have nb : ∀ b, Bag H5 b → b ≠ bl := fun b hb => (Bag.ln hb h5 (fun c n s t k e => by cases bs with | nil => cases e | cons _ _ => cases e)).symm
    have bg : ∀ b, Bag H5 b → Bag (upd H5 bl (.lst (bs.map V.ref ++ [.ref p]))) b := fun b hb => by
      have n := nb b hb
      obtain ⟨c1, c2, c3, c4, c5, e⟩ := hb
      exact ⟨c1, c2, c3, c4, c5, by rw [upd_ne n]; exact e⟩
    refine ⟨_, h5, by rw [List.length_map]; omega, same_grow (s3.trans s5) hbl, bs ++ [p], by rw [upd_same, List.map_append]; rfl, by simp [l3], fun b hb => ?_, fun b hb => ?_⟩
    · rcases List.mem_append.mp hb with h | h
      · exact bg b ((b3 b h).same s5)
      · rw [List.mem_singleton.mp h]; exact bg p bp
    · rcases List.mem_append.mp hb with h | h
      · exact f3 b h
      · rw [List.mem_singleton.mp h]; exact s3.free fp
  rintro H1 ⟨s1, bs, hb1, lb, bg1, fb⟩
  have lb : bs.length = many := by simpa using lb
  -- kinds
  refine ⟨_, rfl, bl, rfl, ⟨_, SqL.of hb1⟩, fun kd hkd => ?_⟩
  have fkd : H kd = none := s1.free hkd
  have nkb : ∀ b ∈ bs, kd ≠ b := fun b hb => (bg1 b hb).ne hkd
  have nblb : ∀ b ∈ bs, bl ≠ b := fun b hb => Bag.ln (bg1 b hb) hb1 (fun c n s t k e => by cases bs with | nil => cases e | cons _ _ => cases e)
  have nbk : bl ≠ kd := ne_of_none hb1 hkd
  refine lc_it (walk_list (xs := bs.map V.ref)) (fun i H' => Chg (kd :: bs) H1 H' ∧ (∀ b ∈ bs, Bag H' b) ∧ ∃ zs : List Str, H' kd = some (.lst (zs.map V.str)) ∧ zs.length = i) ⟨.new hkd, fun b hb => (bg1 b hb).same (same_new hkd _), [], upd_same, rfl⟩ (fun i H' _ h => SqL.of (h.1.keep _ _ (fun m => by
      rcases List.mem_cons.mp m with e | e
      · exact nbk e
      · exact nblb _ e rfl) hb1)) ?_ ?_
  · rintro i x H3 H4 hi ⟨c3, b3, zs, h3, l3⟩ ⟨rfl, hx⟩
    rw [List.length_map] at hi
    rw [List.getElem?_map, List.getElem?_eq_getElem hi] at hx
    have hx := Option.some.inj hx
    subst hx
    have hm := List.getElem_mem hi
    refine ⟨rfl, iteT (B := True) (iteT ?_)⟩
    refine ⟨_, rfl, bs[i], rfl, b3 _ hm, fun z H5 x5 _ => ?_⟩
    have h5 := x5.keep _ _ (nkb _ hm) h3
    have b5 : ∀ b ∈ bs, Bag H5 b := fun b hb => (b3 b hb).stp x5
    refine ⟨_, h5, by rw [List.length_map]; omega, (c3.trans (x5.chg.mono fun a h => by rw [List.mem_singleton.mp h]; exact List.mem_cons_of_mem _ hm)).trans (.upd h5 (fun _ z => by cases z) (List.mem_cons_self ..)), fun b hb => ?_, zs ++ [z], by rw [upd_same, List.map_append]; rfl, by simp [l3]⟩
    obtain ⟨c1, c2, c3, c4, c5, e⟩ := b5 b hb
    exact ⟨c1, c2, c3, c4, c5, by rw [upd_ne (Ne.symm (nkb b hb))]; exact e⟩
  rintro H2 ⟨c2, bg2, zs, hk2, lz⟩
  have lz : zs.length = many := by rw [List.length_map] at lz; omega
  have S2 : Same H H2 := fun b o hb => c2.keep b o (fun m => by
    rcases List.mem_cons.mp m with e | e
    · rw [e, fkd] at hb; cases hb
    · rw [fb b e] at hb; cases hb) (s1 b o hb)
  have hb2 : H2 bl = some (.lst (bs.map V.ref)) := c2.keep _ _ (fun m => by
      rcases List.mem_cons.mp m with e | e
      · exact nbk e
      · exact nblb _ e rfl) hb1
  -- pool
  have hc : ∃ pm : Nat, (many : Int) + (if decide ((tall : Int) > 0) = true then (1 : Int) else 0) = (pm : Nat) ∧ pm ≤ many + tall ∧ pm ≤ 31 := by
    by_cases e : (tall : Int) > 0
    · exact ⟨many + 1, by rw [if_pos (decide_eq_true e)]; omega, by omega, by omega⟩
    · exact ⟨many, by rw [if_neg (by simpa using e)]; omega, by omega, by omega⟩
  obtain ⟨pm, epm, pm1, pm2⟩ := hc
  refine ⟨_, rfl, _, rfl, _, _, rfl, rfl, .inr ⟨_, rfl, _, _, rfl, rfl, ?_⟩⟩
  refine ⟨(pm : Int), by rw [← epm], by omega, by omega, fun pl hpl => ?_⟩
  refine lc_it walk_range (fun i H' => Same H2 H' ∧ H' pl = some (.lst (nats (List.range i)))) ⟨same_new hpl _, upd_same⟩ (fun _ _ _ _ => trivial) ?_ ?_
  · rintro i x H3 H4 hi ⟨s3, h3⟩ ⟨rfl, rfl⟩
    refine ⟨rfl, iteT (B := True) (iteT ?_)⟩
    have hi' : i < pm := by simpa using hi
    refine ⟨_, rfl, _, h3, by rw [nats_len, List.length_range]; omega, same_grow s3 hpl, ?_⟩
    rw [upd_same, List.range_succ, nats_app]
    show some (HO.lst (nats (List.range i) ++ [V.int (0 + (i : Int))])) = some (HO.lst (nats (List.range i) ++ [V.int (i : Int)]))
    rw [Int.zero_add]
  rintro H3 ⟨s3, hp3⟩
  have hp3 : H3 pl = some (.lst (nats (List.range pm))) := by simpa using hp3
  -- errors
  refine ⟨_, rfl, many, rfl, by omega, by omega, fun er her => ?_⟩
  refine lc_it walk_range (fun i H' => Same H3 H' ∧ ∃ ks, H' er = some (.lst (nats ks)) ∧ (∀ k ∈ ks, k < many + tall) ∧ ks.length ≤ i) ⟨same_new her _, [], upd_same, (fun k h => by cases h), Nat.le_refl _⟩ (fun _ _ _ _ => trivial) ?_ ?_
  · rintro i x H4 H5 hi ⟨s4, ks, h4, o4, l4⟩ ⟨rfl, rfl⟩
    have hi' : i < many := by simpa using hi
    refine ⟨rfl, ?_⟩
    have hzi : i < zs.length := by omega
    refine ⟨_, rfl, _, rfl, kd, _, _, .str zs[i], rfl, rfl, SqL.of ((s3.trans s4) _ _ hk2), by rw [Int.zero_add]; exact atI_nat (by rw [List.getElem?_map, List.getElem?_eq_getElem hzi]; rfl), rfl, _, rfl, ite2 (fun _ => ?_) (fun _ => ?_)⟩
    · refine ⟨_, rfl, _, h4, by rw [nats_len]; omega, same_grow s4 her, ks ++ [i], ?_, ?_, by simp; omega⟩
      · rw [upd_same, nats_app]; show some (HO.lst (nats ks ++ [V.int (0 + (i : Int))])) = some (HO.lst (nats ks ++ [V.int (i : Int)])); rw [Int.zero_add]
      · intro k hk
        rcases List.mem_append.mp hk with h | h
        · exact o4 k h
        · rw [List.mem_singleton.mp h]; omega
    · exact ⟨s4, ks, h4, o4, by omega⟩
  rintro H4 ⟨s4, ks, he4, ok4, lk4⟩
  have lk4 : ks.length ≤ many := by simpa using lk4
  refine ⟨Nat.zero_le _, fun nb hnb => ?_⟩
  have S24 := s3.trans s4
  have s5 := same_new hnb (.lst [])
  have S25 := S24.trans s5
  have n5 : upd H4 nb (.lst []) nb = some (.lst []) := upd_same
  have k5 := S25 _ _ hk2
  have b5 := S25 _ _ hb2
  have p5 := s5 _ _ (s4 _ _ hp3)
  have e5 := s5 _ _ he4
  have bg5 : ∀ b ∈ bs, Bag (upd H4 nb (.lst [])) b := fun b hb => (bg2 b hb).same S25
  have npl : ∀ b ∈ bs, pl ≠ b := fun b hb => (bg2 b hb).ne hpl
  have ner : ∀ b ∈ bs, er ≠ b := fun b hb => ((bg2 b hb).same s3).ne her
  have nnb : ∀ b ∈ bs, nb ≠ b := fun b hb => ((bg2 b hb).same S24).ne hnb
  have fnb : H nb = none := S2.free (S24.free hnb)
  have nkn : kd ≠ nb := ne_of_none (S24 _ _ hk2) hnb
  have nbn : bl ≠ nb := ne_of_none (S24 _ _ hb2) hnb
  have npn : pl ≠ nb := ne_of_none (s4 _ _ hp3) hnb
  have nen : er ≠ nb := ne_of_none he4 hnb
  have S5 : Same H (upd H4 nb (.lst [])) := S2.trans S25
  generalize upd H4 nb (.lst []) = H5 at S5 n5 k5 b5 p5 e5 bg5
  have X0 : BoA H5 nb [] [] [] := ⟨rfl, rfl, n5, fun k a r n h => by simp at h, fun k r n h => by simp at h, ⟨by simp, by simp, List.Pairwise.nil, List.Pairwise.nil, by simp⟩⟩
  have kp : ∀ {H' : Hp} {x : Addr} {o : HO}, Chg (nb :: bs) H5 H' → x ≠ nb → (∀ b ∈ bs, x ≠ b) → H5 x = some o → H' x = some o := fun c n1 n2 h => c.keep _ _ (fun m => by
    rcases List.mem_cons.mp m with e | e
    · exact n1 e
    · exact n2 _ e rfl) h
  refine ⟨_, rfl, many, rfl, by omega, by omega, ?_⟩
  refine for_range (lo := 0) (n := many) (fun i σ H' => ∃ o3 o9, σ = [some (.ref a), some (.int (many : Nat)), some (.int (tall : Nat)), o3, some (.ref bl), some (.ref kd), some (.ref pl), some (.ref er), some (.ref nb), o9, none] ∧ Chg (nb :: bs) H5 H' ∧ (∀ b ∈ bs, Bag H' b) ∧
    ∃ as rs nds, BoA H' nb as rs nds ∧ nds.length = i ∧ (∀ n ∈ nds, n.ok (many + tall)) ∧ ∀ x ∈ FN nb as rs, x = nb ∨ H5 x = none) ⟨_, none, rfl, .refl, bg5, [], [], [], X0, rfl, (fun n h => by cases h), fun x h => by simp [FN] at h; exact .inl h⟩ ?_ ?_
  · rintro i σ H6 hi ⟨o3, o9, rfl, c6, bg6, as, rs, nds, X6, ln, ok6, fr6⟩
    have hib : i < bs.length := by omega
    have hiz : i < zs.length := by omega
    have hm := List.getElem_mem hib
    refine ⟨_, rfl, _, rfl, bl, _, _, .ref bs[i], rfl, rfl, SqL.of (kp c6 nbn nblb b5), by rw [Int.zero_add]; exact node_at (List.getElem?_eq_getElem hib), _, rfl, _, rfl, kd, _, _, .str zs[i], rfl, rfl, SqL.of (kp c6 nkn nkb k5), by rw [Int.zero_add]; exact atI_nat (by rw [List.getElem?_map, List.getElem?_eq_getElem hiz]; rfl), _, rfl, _, rfl, ?_⟩
    refine ⟨bs[i], pl, er, zs[i], many + tall, rfl, bg6 _ hm, ⟨npl _ hm, List.range pm, kp c6 npn npl p5, fun k hk => by have := List.mem_range.mp hk; omega, by rw [List.length_range]; omega⟩, ⟨ner _ hm, ks, kp c6 nen ner e5, ok4, by omega⟩, fun p tv r tag es ws H7 x7 h7 rt hd fr hrr rr oe le => ?_⟩
    have X7 := X6.frame x7.chg fun x hx z => X6.nbag (bg6 _ hm) (by rw [← List.mem_singleton.mp z]; exact hx)
    have bg7 : ∀ b ∈ bs, Bag H7 b := fun b hb => (bg6 b hb).stp x7
    have c7 : Chg (nb :: bs) H5 H7 := c6.trans (x7.chg.mono fun a h => by rw [List.mem_singleton.mp h]; exact List.mem_cons_of_mem _ hm)
    obtain ⟨lk, ez⟩ : ∃ l, zs[i] = S l := ⟨_, S_cs _⟩
    refine ⟨_, rfl, .inl ⟨rfl, _, SqL.of X7.h0⟩, _, rfl, _, rfl, kd, _, _, .str zs[i], rfl, rfl, SqL.of (kp c7 nkn nkb k5), by rw [Int.zero_add]; exact atI_nat (by rw [List.getElem?_map, List.getElem?_eq_getElem hiz]; rfl), _, rfl, p, _, 0, _, rfl, rfl, SqT.of h7, rfl, _, rfl, p, _, 1, _, rfl, rfl, SqT.of h7, rfl, by show 3 ≤ sizeLine; omega, fun a1 ha1 => ?_⟩
    have s8 := same_new ha1 (.lst [.str zs[i], tv, .ref r])
    have la : (as.map V.ref).length = i := by rw [List.length_map, X6.la, ln]
    have h08 := s8 _ _ X7.h0
    refine ⟨nb, _, _, rfl, rfl, h08, by omega, ?_⟩
    have c8 : Chg [nb, bs[i]] H6 (upd (upd H7 a1 (.lst [.str zs[i], tv, .ref r])) nb (.lst (as.map V.ref ++ [.ref a1]))) := ((x7.chg.mono fun a h => by simp at h; simp [h]).trans (.same s8)).trans (.upd h08 (fun _ z => by cases z) (by simp))
    have fa6 : H6 a1 = none := x7.chg.live _ ha1
    have nar : a1 ≠ r := fun z => by rw [z, hrr] at ha1; cases ha1
    have nan : a1 ≠ nb := fun z => by rw [z, X6.h0] at fa6; cases fa6
    have nrn : r ≠ nb := fun z => by rw [z, X6.h0] at fr; cases fr
    have t78 : Tups H7 (upd (upd H7 a1 (.lst [.str zs[i], tv, .ref r])) nb (.lst (as.map V.ref ++ [.ref a1]))) := (Tups.same s8).trans (.lst h08)
    have X8 := X6.more (n := ⟨lk, tag, es⟩) (tv := tv) (vs := ws) fa6 fr nar c8 (fun x hx z => by
      simp only [List.mem_cons, List.not_mem_nil, or_false] at z
      rcases z with z | z
      · rw [z] at hx
        rcases List.mem_append.mp hx with h | h
        · exact X6.nd.n1 h
        · exact X6.nd.n2 h
      · exact X6.nbag (bg6 _ hm) (by rw [← z]; exact List.mem_cons_of_mem _ hx)) upd_same (by rw [upd_ne nan, upd_same, ez]) (by rw [upd_ne nrn]; exact s8 _ _ hrr) (rt.mono t78) (rr.mono t78)
    refine ⟨_, _, rfl, (c7.trans (.same s8)).trans (.upd h08 (fun _ z => by cases z) (by simp)), fun b hb => ?_, as ++ [a1], rs ++ [r], nds ++ [⟨lk, tag, es⟩], X8, by simp [ln], fun n hn => ?_, fun x hx => ?_⟩
    · obtain ⟨c1, c2, c3, c4, c5, e⟩ := (bg7 b hb).same s8
      exact ⟨c1, c2, c3, c4, c5, by rw [upd_ne (Ne.symm (nnb b hb))]; exact e⟩
    · rcases List.mem_append.mp hn with h | h
      · exact ok6 n h
      · rw [List.mem_singleton.mp h]; exact ⟨hd, oe, le⟩
    · rcases fn_more hx with h | h | h
      · exact fr6 x h
      · rw [h]; exact .inr (c6.live _ fa6)
      · rw [h]; exact .inr (c6.live _ fr)
  rintro σ H6 ⟨o3, o9, rfl, c6, bg6, as0, rs0, nds0, X6, ln0, ok6, fr6⟩
  have S6 : Same H H6 := fun b o hb => c6.keep b o (fun m => by
    rcases List.mem_cons.mp m with e | e
    · rw [e, fnb] at hb; cases hb
    · rw [fb b e] at hb; cases hb) (S5 b o hb)
  have fr6' : ∀ x ∈ FN nb as0 rs0, H x = none := fun x hx => by
    rcases fr6 x hx with h | h
    · rw [h]; exact fnb
    · exact S5.free h
  clear fr6 bg6 c6
  -- the tall ones
  refine ⟨_, rfl, tall, rfl, by omega, by omega, ?_⟩
  refine for_range (lo := 0) (n := tall) (fun i σ H' => ∃ o3, σ = [some (.ref a), some (.int (many : Nat)), some (.int (tall : Nat)), o3, some (.ref bl), some (.ref kd), some (.ref pl), some (.ref er), some (.ref nb), o9, none] ∧ Same H H' ∧
    ∃ as rs, BoA H' nb as rs (nds0 ++ (List.range i).map (tallN many)) ∧ ∀ x ∈ FN nb as rs, H x = none) ⟨_, rfl, S6, as0, rs0, by simpa using X6, fr6'⟩ ?_ ?_
  · rintro i σ H7 hi ⟨o3, rfl, s7, as, rs, X7, fr7⟩
    refine ⟨_, rfl, .inl ⟨rfl, _, SqL.of X7.h0⟩, _, rfl, _, rfl, _, _, rfl, rfl, _, _, rfl, rfl, by show 2 ≤ sizeLine; omega, fun p hp => ⟨by show 1 ≤ sizeLine; omega, fun r hr' => ⟨by show 3 ≤ sizeLine; omega, fun a1 ha1 => ?_⟩⟩⟩
    have la : (as.map V.ref).length = many + i := by rw [List.length_map, X7.la, List.length_append, List.length_map, List.length_range, ln0]
    have s8 := same_new hp (.tup [.str (Str.ofString "ref"), .int ((many : Int) + (0 + (i : Int)) + 1)])
    have s9 := same_new hr' (.lst [.ref p])
    have s10 := same_new ha1 (.lst [.str (Str.ofString "list"), .non, .ref r])
    have S10 := s8.trans (s9.trans s10)
    have h0 := S10 _ _ X7.h0
    refine ⟨nb, _, _, rfl, rfl, h0, by omega, ?_⟩
    have fr7r : H7 r = none := s8.free hr'
    have fr7a : H7 a1 = none := (s8.trans s9).free ha1
    have nar : a1 ≠ r := fun z => by rw [z, upd_same] at ha1; cases ha1
    have nan : a1 ≠ nb := (ne_of_none X7.h0 fr7a).symm
    have nrn : r ≠ nb := (ne_of_none X7.h0 fr7r).symm
    have rp := (s9.trans s10) _ _ (upd_same (H := H7) (a := p) (o := .tup [.str (Str.ofString "ref"), .int ((many : Int) + (0 + (i : Int)) + 1)]))
    have rr' := s10 _ _ (upd_same (H := upd H7 p (.tup [.str (Str.ofString "ref"), .int ((many : Int) + (0 + (i : Int)) + 1)])) (a := r) (o := .lst [.ref p]))
    have h1 : (upd (upd (upd H7 p (.tup [.str (Str.ofString "ref"), .int ((many : Int) + (0 + (i : Int)) + 1)])) r (.lst [.ref p])) a1 (.lst [.str (Str.ofString "list"), .non, .ref r])) a1 = some (.lst [.str (Str.ofString "list"), .non, .ref r]) := upd_same
    generalize (upd (upd (upd H7 p (.tup [.str (Str.ofString "ref"), .int ((many : Int) + (0 + (i : Int)) + 1)])) r (.lst [.ref p])) a1 (.lst [.str (Str.ofString "list"), .non, .ref r])) = H8 at S10 h0 rp rr' h1
    have c8 : Chg [nb] H7 (upd H8 nb (.lst (as.map V.ref ++ [.ref a1]))) := (Chg.same S10).trans (.upd h0 (fun _ z => by cases z) (List.mem_singleton_self _))
    have t8 : Tups H8 (upd H8 nb (.lst (as.map V.ref ++ [.ref a1]))) := .lst h0
    have X8 := X7.more (n := tallN many i) (tv := .non) (vs := [.ref p]) fr7a fr7r nar c8 (fun x hx z => by
      rw [List.mem_singleton.mp z] at hx
      rcases List.mem_append.mp hx with h | h
      · exact X7.nd.n1 h
      · exact X7.nd.n2 h) upd_same (by rw [upd_ne nan, h1]; show _ = some (HO.lst [V.str (S (cs (Str.ofString "list"))), _, _]); rw [← S_cs]) (by rw [upd_ne nrn]; exact rr') .non ((reps_ref rp (by unfold ixD; omega)).mono t8)
    refine ⟨_, rfl, fun b o hb => ?_, as ++ [a1], rs ++ [r], by rw [List.range_succ, List.map_append, ← List.append_assoc]; exact X8, fun x hx => ?_⟩
    · rw [upd_ne (ne_of_none hb fnb)]; exact S10 _ _ (s7 _ _ hb)
    · rcases fn_more hx with h | h | h
      · exact fr7 x h
      · rw [h]; exact s7.free fr7a
      · rw [h]; exact s7.free fr7r
  rintro σ H7 ⟨o3, rfl, s7, as, rs, X7, fr7⟩
  have lN : (nds0 ++ (List.range tall).map (tallN many)).length = many + tall := by rw [List.length_append, List.length_map, List.length_range, ln0]
  refine ⟨_, rfl, _, _, rfl, rfl, _, rfl, ite2 (fun c => ?_) (fun c => ?_)⟩
  · have c : (tall : Int) > 0 := of_decide_eq_true c
    refine ⟨by show 2 ≤ sizeLine; omega, fun p hp => ⟨by show 1 ≤ sizeLine; omega, fun r hr' => ⟨by show 3 ≤ sizeLine; omega, fun a1 ha1 => ?_⟩⟩⟩
    have la : (as.map V.ref).length = many + tall := by rw [List.length_map, X7.la, lN]
    have s8 := same_new hp (.tup [.str (Str.ofString "ref"), .int 0])
    have s9 := same_new hr' (.lst [.ref p])
    have s10 := same_new ha1 (.lst [.str (Str.ofString "list"), .non, .ref r])
    have S10 := s8.trans (s9.trans s10)
    have h0 := S10 _ _ X7.h0
    refine ⟨_, rfl, _, rfl, _, rfl, _, _, rfl, rfl, _, _, rfl, rfl, nb, _, _, many + tall - 1, rfl, rfl, h0, by rw [la, show ((many : Int) + (tall : Int) - 1) = ((many + tall - 1 : Nat) : Int) by omega]; exact ixN_nat (by omega), ?_⟩
    have fr7r : H7 r = none := s8.free hr'
    have fr7a : H7 a1 = none := (s8.trans s9).free ha1
    have nar : a1 ≠ r := fun z => by rw [z, upd_same] at ha1; cases ha1
    have nan : a1 ≠ nb := (ne_of_none X7.h0 fr7a).symm
    have nrn : r ≠ nb := (ne_of_none X7.h0 fr7r).symm
    have rp := (s9.trans s10) _ _ (upd_same (H := H7) (a := p) (o := .tup [.str (Str.ofString "ref"), .int 0]))
    have rr' := s10 _ _ (upd_same (H := upd H7 p (.tup [.str (Str.ofString "ref"), .int 0])) (a := r) (o := .lst [.ref p]))
    have h1 : (upd (upd (upd H7 p (.tup [.str (Str.ofString "ref"), .int 0])) r (.lst [.ref p])) a1 (.lst [.str (Str.ofString "list"), .non, .ref r])) a1 = some (.lst [.str (Str.ofString "list"), .non, .ref r]) := upd_same
    generalize (upd (upd (upd H7 p (.tup [.str (Str.ofString "ref"), .int 0])) r (.lst [.ref p])) a1 (.lst [.str (Str.ofString "list"), .non, .ref r])) = H8 at S10 h0 rp rr' h1
    have c8 : Chg [nb] H7 (upd H8 nb (.lst ((as.map V.ref).set (many + tall - 1) (.ref a1)))) := (Chg.same S10).trans (.upd h0 (fun _ z => by cases z) (List.mem_singleton_self _))
    have t8 : Tups H8 (upd H8 nb (.lst ((as.map V.ref).set (many + tall - 1) (.ref a1)))) := .lst h0
    have X8 := X7.setNode (k := many + tall - 1) (n := tallZ) (tv := .non) (vs := [.ref p]) (by omega) fr7a fr7r nar c8 upd_same (by rw [upd_ne nan, h1]; show _ = some (HO.lst [V.str (S (cs (Str.ofString "list"))), _, _]); rw [← S_cs]) (by rw [upd_ne nrn]; exact rr') .non ((reps_ref rp (by unfold ixD; omega)).mono t8)
    refine ⟨_, rfl, q nb _ _ _ _ (fun b o hb => ?_) X8 (by rw [List.length_set, lN]) (fun n hn => ?_) (fun x hx => ?_)⟩
    · rw [upd_ne (ne_of_none hb fnb)]; exact S10 _ _ (s7 _ _ hb)
    · rw [List.length_set, lN]
      obtain ⟨j, hj, e⟩ := List.getElem_of_mem hn
      rw [List.getElem_set] at e
      rw [List.length_set, lN] at hj
      split at e
      · rw [← e]
        exact ⟨by show dep D.non ≤ 3; unfold dep; omega, fun x hx => by rw [List.mem_singleton.mp hx]; show 0 < _; omega, by show 1 ≤ 100; omega⟩
      · by_cases hjm : j < nds0.length
        · rw [List.getElem_append_left hjm] at e
          rw [← e]; exact ok6 _ (List.getElem_mem hjm)
        · rw [List.getElem_append_right (by omega), List.getElem_map, List.getElem_range] at e
          rw [← e]
          exact ⟨by show dep D.non ≤ 3; unfold dep; omega, fun x hx => by rw [List.mem_singleton.mp hx]; show many + (j - nds0.length) + 1 < _; omega, by show 1 ≤ 100; omega⟩
    · rcases fn_set hx with h | h | h
      · exact fr7 x h
      · rw [h]; exact s7.free fr7a
      · rw [h]; exact s7.free fr7r
  · have c : ¬ (tall : Int) > 0 := of_decide_eq_false (by simpa using c)
    have t0 : tall = 0 := by omega
    subst t0
    have X7 : BoA H7 nb as rs nds0 := by simpa using X7
    exact ⟨_, rfl, q nb as rs nds0 H7 s7 X7 ln0 (fun n hn => by rw [ln0]; exact ok6 n hn) fr7⟩
end
end D0
namespace D0
open PySem PySem.Spec PyProof.Rows L2 SX NumText
def bareE : Ent := .pl (.oth (cs (Str.ofString "none")) [])
def bare (e : Ent) : Ent := if e.tg = none then e else bareE
theorem En.d_none {f g : Nat → Int} : ∀ {e : En}, e.tg = none → e.d f = e.d g
  | .oth _ _, _ => rfl
theorem Ent.d_none {f g : Nat → Int} : ∀ {e : Ent}, e.tg = none → e.d f = e.d g
  | .pl e, h => En.d_none (e := e) h
  | .pend r e, h => by
    have := En.d_none (f := f) (g := g) (e := e) h
    show D.tup [_, _, e.d f] = D.tup [_, _, e.d g]
    rw [this]
theorem bare_tg (e : Ent) : (bare e).tg = none := by
  unfold bare
  split
  · rename_i h; exact h
  · rfl
theorem bareE_ok (m : Nat) : bareE.ok m := oth_ok (.inl rfl) (by unfold deps; rfl)
theorem bare_ok {e : Ent} {m : Nat} (h : e.ok m) : (bare e).ok m := by
  unfold bare
  split
  · exact h
  · exact bareE_ok m
def spBare : Sp := fun vs H Q _ => ∃ (v : V) (e : Ent) (m : Nat), vs = [v] ∧ Rep H v (e.d ixD) ∧ e.ok m ∧ ∀ v' H', Same H H' → Rep H' v' ((bare e).d ixD) → Q v' H'
structure OrdOk (os : List Nat) (N : Nat) : Prop where
  nd : os.Nodup
  mem : ∀ k, k ∈ os ↔ k < N
def spOrder : Sp := fun vs H Q _ => ∃ (b : Addr) (many tall way : Nat), vs = [.ref b, .int many, .int tall, .int way] ∧ Bag H b ∧ many ≤ 30 ∧ tall ≤ 1200 ∧ ∀ p os H', Stp b H H' → H p = none → H' p = some (.lst (nats os)) → OrdOk os (many + tall) → Q (.ref p) H'
def kf (H : Hp) : V → Int × Int
  | .ref t => match H t with
    | some (.tup [.int i, .int j]) => (i, j)
    | _ => (0, 0)
  | _ => (0, 0)
theorem ordOk_range (N : Nat) : OrdOk (List.range N) N := ⟨List.nodup_range, fun k => List.mem_range⟩
theorem ordOk_app {os : List Nat} {many tall : Nat} (p : os.Perm (List.range many)) : OrdOk (os ++ (List.range tall).map fun k => many + tall - 1 - k) (many + tall) := by
  have nd1 : os.Nodup := p.nodup_iff.mpr List.nodup_range
  have m1 : ∀ k, k ∈ os ↔ k < many := fun k => (p.mem_iff).trans List.mem_range
  refine ⟨List.nodup_append.mpr ⟨nd1, ?_, fun a ha b hb z => ?_⟩, fun k => ?_⟩
  · refine List.pairwise_map.mpr (List.Pairwise.imp_of_mem (fun {x y} hx hy h => ?_) (List.nodup_range (n := tall)))
    have hx := List.mem_range.mp hx
    have hy := List.mem_range.mp hy
    have h : x ≠ y := h
    omega
  · obtain ⟨j, hj, e⟩ := List.mem_map.mp hb
    have := List.mem_range.mp hj
    have := (m1 a).mp ha
    omega
  · rw [List.mem_append, m1]
    constructor
    · rintro (h | h)
      · omega
      · obtain ⟨j, hj, e⟩ := List.mem_map.mp h
        have := List.mem_range.mp hj
        omega
    · intro h
      by_cases hk : k < many
      · exact .inl hk
      · exact .inr (List.mem_map.mpr ⟨many + tall - 1 - k, List.mem_range.mpr (by omega), by omega⟩)
section
variable {P : Program} {w : World} {K : PySem.W.Frag} {mg : Str → Option Value} {base : Heap}
theorem ok__law_bare (T : Txt K w mg) (Ot : OkD P w K mg base CX0 2 "_law_target" p__law_target spTarget) : OkD P w K mg base CX0 3 "_law_bare" p__law_bare spBare := by
  refine T.g__law_bare.ok sc__law_bare (fun vs H Q E h => ?_) (fun f cdv A outer s H vs Q E hr h => ?_)
  · obtain ⟨v, e, m, rfl, _⟩ := h; rfl
  obtain ⟨v, e, m, rfl, rv, oe, q⟩ := h
  refine ⟨_, (pss_cons (ps_if (pt_cmpR op_lt (pcall Ot hr (pa_cons (pv 0) pa_nil)) pe_int (nomark _)) (pss_one (ps_ret (pv 0))) pss_nil)
      (pss_one (ps_ret (pe_tup (pa_cons pe_str pa_nil))))), ?_⟩
  refine ⟨_, rfl, v, e, m, rfl, rv, oe, _, _, rfl, rfl, _, rfl, ?_⟩
  cases ht : e.tg with
  | none =>
    refine iteT ⟨_, rfl, q _ _ (.refl _) ?_⟩
    unfold bare; rw [if_pos ht]; exact rv
  | some k =>
    refine ite2 (fun c => absurd (of_decide_eq_true c) (by show ¬ ((k : Nat) : Int) < 0; omega)) (fun _ => ⟨by show 1 ≤ sizeLine; decide, fun p hp => q _ _ (same_new hp _) ?_⟩)
    unfold bare; rw [if_neg (by rw [ht]; exact fun z => nomatch z)]
    exact rep_oth (Rep.one upd_same (Rep.sv _))
theorem ok__law_order (T : Txt K w mg) (O : OkD P w K mg base CX0 1 "_law_take" p__law_take spTake) : OkD P w K mg base CX0 2 "_law_order" p__law_order spOrder := by
  refine T.g__law_order.ok sc__law_order (fun vs H Q E h => ?_) (fun f cdv A outer s H vs Q E hr h => ?_)
  · obtain ⟨b, many, tall, way, rfl, _⟩ := h; rfl
  obtain ⟨b, many, tall, way, rfl, hb, m30, t12, q⟩ := h
  have lim : (4000 : Nat) < sizeLine := by decide
  refine ⟨_, (pss_cons (ps_if (pt_cmpR op_eq (pv 3) pe_int (nomark _)) (pss_one (ps_ret (pe_lc (own := [("k", 5)]) (g := gName 5) (tt := tYes) rfl sc__law_order.nd (pi_range1 rfl T.z_range (pa_cons (pe_op op_add (pv 1) (pv 2)) pa_nil)) (blkOk_by (own := [("k", 5)]) (N := n__law_order) (sc := defScope s__law_order) (by decide +kernel)) (fun _ _ _ _ _ => (pg_name (i := 5) sc__law_order.nd rfl (Or.inl rfl))) (fun _ _ _ _ _ => pts_nil) (fun _ _ _ _ _ => (pv 5))))) pss_nil)
      (pss_cons (ps_set (i := 4) sc__law_order.nd rfl (.inl rfl) (pe_callB cr_sortedPO (by rfl) T.z_sorted (by decide +kernel) (pa_cons (pe_lc (own := [("k", 5)]) (g := gName 5) (tt := tYes) rfl sc__law_order.nd (pi_range1 rfl T.z_range (pa_cons (pv 1) pa_nil)) (blkOk_by (own := [("k", 5)]) (N := n__law_order) (sc := defScope s__law_order) (by decide +kernel)) (fun _ _ _ _ _ => (pg_name (i := 5) sc__law_order.nd rfl (Or.inl rfl))) (fun _ _ _ _ _ => pts_nil) (fun _ _ _ _ _ => (pe_tup (pa_cons (pcall O hr (pa_cons (pv 0) (pa_cons pe_int pa_nil))) (pa_cons (pv 5) pa_nil))))) pa_nil)))
      (pss_one (ps_ret (pe_op op_cat (pe_lc (own := [("rank", 6)]) (g := gName 6) (tt := tYes) rfl sc__law_order.nd (pi_list (pv 4)) (blkOk_by (own := [("rank", 6)]) (N := n__law_order) (sc := defScope s__law_order) (by decide +kernel)) (fun _ _ _ _ _ => (pg_name (i := 6) sc__law_order.nd rfl (Or.inl rfl))) (fun _ _ _ _ _ => pts_nil) (fun _ _ _ _ _ => (pe_ix (show IxR _ (rIxT K) from ix_tup) (pv 6) pe_int (fun _ _ => rfl)))) (pe_lc (own := [("k", 5)]) (g := gName 5) (tt := tYes) rfl sc__law_order.nd (pi_range1 rfl T.z_range (pa_cons (pv 2) pa_nil)) (blkOk_by (own := [("k", 5)]) (N := n__law_order) (sc := defScope s__law_order) (by decide +kernel)) (fun _ _ _ _ _ => (pg_name (i := 5) sc__law_order.nd rfl (Or.inl rfl))) (fun _ _ _ _ _ => pts_nil) (fun _ _ _ _ _ => (pe_op op_sub (pe_op op_sub (pe_op op_add (pv 1) (pv 2)) pe_int) (pv 5))))))))), ?_⟩
  refine ⟨_, rfl, rfl, _, rfl, ite2 (fun _ => ?_) (fun _ => ?_)⟩
  · refine ⟨_, rfl, _, rfl, _, _, rfl, rfl, ((many + tall : Nat) : Int), rfl, by omega, by omega, fun D1 hD1 => ?_⟩
    refine lc_it walk_range (fun i H' => Same H H' ∧ H' D1 = some (.lst (nats (List.range i)))) ⟨same_new hD1 _, upd_same⟩ (fun _ _ _ _ => trivial) ?_ ?_
    · rintro i x H3 H4 hi ⟨s3, h3⟩ ⟨rfl, rfl⟩
      refine ⟨rfl, iteT (B := True) (iteT ?_)⟩
      have hi' : i < many + tall := by omega
      refine ⟨_, rfl, _, h3, by rw [nats_len, List.length_range]; omega, same_grow s3 hD1, ?_⟩
      rw [upd_same, List.range_succ, nats_app]
      show some (HO.lst (nats (List.range i) ++ [V.int (0 + (i : Int))])) = some (HO.lst (nats (List.range i) ++ [V.int (i : Int)]))
      rw [Int.zero_add]
    rintro H1 ⟨s1, hp1⟩
    have hp1 : H1 D1 = some (.lst (nats (List.range (many + tall)))) := by rw [hp1]; rfl
    exact q D1 _ H1 (.same hb s1) hD1 hp1 (ordOk_range _)
  refine ⟨_, rfl, many, rfl, by omega, by omega, fun D1 hD1 => ?_⟩
  have nD : D1 ≠ b := hb.ne hD1
  refine lc_it walk_range (fun i H' => Stp b H H' ∧ ∃ xs : List V, H' D1 = some (.lst xs) ∧ xs.length = i ∧ ∀ j x, xs[j]? = some x → ∃ t r, x = V.ref t ∧ H' t = some (.tup [.int r, .int (j : Nat)])) ⟨(Stp.refl hb).new hD1, [], upd_same, rfl, fun j x h => by simp at h⟩ (fun _ _ _ _ => trivial) ?_ ?_
  · rintro i x H3 H4 hi ⟨x3, xs, h3, l3, p3⟩ ⟨rfl, rfl⟩
    have hi' : i < many := by simpa using hi
    refine ⟨rfl, iteT (B := True) (iteT ?_)⟩
    refine ⟨_, rfl, b, 997, rfl, x3.b1, by decide, by decide, fun r H5 _ _ x5 => ⟨_, rfl, by show 2 ≤ sizeLine; omega, fun t ht => ?_⟩⟩
    have x6 := x5.new (o := .tup [.int r, .int (0 + (i : Int))]) ht
    have h6 := x6.keep _ _ nD h3
    refine ⟨_, h6, by omega, (x3.trans x6).grow hD1 nD, xs ++ [.ref t], upd_same, by simp [l3], fun j x hx => ?_⟩
    have tt : Tups (upd H5 t (.tup [.int r, .int (0 + (i : Int))])) (upd (upd H5 t (.tup [.int r, .int (0 + (i : Int))])) D1 (.lst (xs ++ [.ref t]))) := .lst h6
    by_cases hj : j < xs.length
    · rw [List.getElem?_append_left hj] at hx
      obtain ⟨t', r', e, g⟩ := p3 j x hx
      exact ⟨t', r', e, (x6.tups.trans tt) _ _ g⟩
    · rw [List.getElem?_append_right (by omega)] at hx
      have e0 : j - xs.length = 0 := by
        cases e : j - xs.length with
        | zero => rfl
        | succ y => rw [e] at hx; simp at hx
      rw [e0] at hx
      have hx : V.ref t = x := by simpa using hx
      have ej : (0 + (i : Int)) = ((j : Nat) : Int) := by omega
      refine ⟨t, r, hx.symm, tt _ _ ?_⟩
      rw [upd_same, ej]
  rintro H1 ⟨x1, xs, h1, l1, p1⟩
  have l1 : xs.length = many := by simpa using l1
  have kfx : ∀ j x, xs[j]? = some x → ∃ t, x = V.ref t ∧ H1 t = some (.tup [.int (kf H1 x).1, .int (kf H1 x).2]) ∧ (kf H1 x).2 = ((j : Nat) : Int) := fun j x hx => by
    obtain ⟨t, r, rfl, g⟩ := p1 j x hx
    have e : kf H1 (.ref t) = (r, ((j : Nat) : Int)) := by unfold kf; simp only [g]
    exact ⟨t, rfl, by rw [e]; exact g, by rw [e]⟩
  refine ⟨D1, xs, kf H1, rfl, SqL.of h1, fun x hx => ?_, fun ys p _ st hp => ?_⟩
  · obtain ⟨j, hj⟩ := List.getElem?_of_mem hx
    obtain ⟨t, e, g, _⟩ := kfx j x hj
    exact ⟨t, e, g⟩
  have pm := st.perm
  have s2 := same_new hp (.lst ys)
  have hp2 : upd H1 p (.lst ys) p = some (.lst ys) := upd_same
  obtain ⟨os, eos⟩ : ∃ os, os = ys.map fun x => (kf H1 x).2.toNat := ⟨_, rfl⟩
  have pos : os.Perm (List.range many) := by
    have e : xs.map (fun x => (kf H1 x).2.toNat) = List.range many := by
      refine List.ext_getElem? fun j => ?_
      rw [List.getElem?_map]
      by_cases hj : j < many
      · obtain ⟨t, _, _, e⟩ := kfx j _ (List.getElem?_eq_getElem (show j < xs.length by omega))
        rw [List.getElem?_eq_getElem (show j < xs.length by omega), List.getElem?_range hj]
        exact congrArg some (congrArg Int.toNat e)
      · rw [List.getElem?_eq_none (by omega), List.getElem?_eq_none (by rw [List.length_range]; omega)]; rfl
    rw [eos, ← e]
    exact pm.map _
  have x2 : Stp b H (upd H1 p (.lst ys)) := x1.trans (.same x1.b1 s2)
  have fp : H p = none := x1.chg.live _ hp
  generalize upd H1 p (.lst ys) = H2 at s2 hp2 x2
  refine ⟨_, rfl, p, rfl, ⟨ys, SqL.of hp2⟩, fun D2 hD2 => ?_⟩
  refine lc_it (walk_list (xs := ys)) (fun i H' => Same H2 H' ∧ H' D2 = some (.lst (nats (os.take i)))) ⟨same_new hD2 _, upd_same⟩ (fun i H' _ h => SqL.of (h.1 _ _ hp2)) ?_ ?_
  · rintro i x H3 H4 hi ⟨s3, h3⟩ ⟨rfl, hx⟩
    have hm : x ∈ xs := pm.mem_iff.mp (List.mem_of_getElem? hx)
    obtain ⟨j, hj⟩ := List.getElem?_of_mem hm
    obtain ⟨t, rfl, g, e⟩ := kfx j x hj
    refine ⟨rfl, iteT (B := True) (iteT ?_)⟩
    have g4 := s3 _ _ (s2 _ _ g)
    refine ⟨_, rfl, t, _, 1, _, rfl, rfl, SqT.of g4, rfl, _, h3, by rw [nats_len, List.length_take]; have := pm.length_eq; omega, same_grow s3 hD2, ?_⟩
    have hio : i < os.length := by rw [eos, List.length_map]; exact hi
    have eo : os[i] = (kf H1 (V.ref t)).2.toNat := by
      have : os[i]? = some (kf H1 (V.ref t)).2.toNat := by rw [eos, List.getElem?_map, hx]; rfl
      rw [List.getElem?_eq_getElem hio] at this
      exact Option.some.inj this
    rw [upd_same, take_next hio, nats_app, eo]
    show some (HO.lst (nats (os.take i) ++ [V.int (kf H1 (V.ref t)).2])) = some (HO.lst (nats (os.take i) ++ [V.int (((kf H1 (V.ref t)).2.toNat : Nat) : Int)]))
    rw [e]; rfl
  rintro H3 ⟨s3, h3⟩
  rw [show ys.length = os.length by rw [eos, List.length_map], List.take_length] at h3
  refine ⟨_, rfl, tall, rfl, by omega, by omega, fun D3 hD3 => ?_⟩
  refine lc_it walk_range (fun i H' => Same H3 H' ∧ H' D3 = some (.lst (nats ((List.range i).map fun k => many + tall - 1 - k)))) ⟨same_new hD3 _, upd_same⟩ (fun _ _ _ _ => trivial) ?_ ?_
  · rintro i x H4 H5 hi ⟨s4, h4⟩ ⟨rfl, rfl⟩
    have hi' : i < tall := by simpa using hi
    refine ⟨rfl, iteT (B := True) (iteT ?_)⟩
    refine ⟨_, rfl, _, rfl, _, _, rfl, rfl, _, _, rfl, rfl, _, rfl, _, _, rfl, rfl, _, h4, by rw [nats_len, List.length_map, List.length_range]; omega, same_grow s4 hD3, ?_⟩
    rw [upd_same, List.range_succ, List.map_append, nats_app]
    show some (HO.lst (nats ((List.range i).map fun k => many + tall - 1 - k) ++ [V.int ((many : Int) + (tall : Int) - 1 - (0 + (i : Int)))])) = some (HO.lst (nats ((List.range i).map fun k => many + tall - 1 - k) ++ [V.int ((many + tall - 1 - i : Nat) : Int)]))
    rw [show ((many : Int) + (tall : Int) - 1 - (0 + (i : Int))) = ((many + tall - 1 - i : Nat) : Int) by omega]
  rintro H4 ⟨s4, h4⟩
  have h4 : H4 D3 = some (.lst (nats ((List.range tall).map fun k => many + tall - 1 - k))) := by simpa using h4
  have lo : os.length ≤ 30 := by have := pos.length_eq; rw [List.length_range] at this; omega
  refine ⟨D2, D3, _, _, rfl, rfl, s4 _ _ h3, h4, by rw [nats_len, nats_len, List.length_map, List.length_range]; omega, fun D4 hD4 => ?_⟩
  rw [← nats_app]
  have S4 := s2.trans (s3.trans s4)
  exact q D4 _ _ (x2.trans (.same x2.b1 (s3.trans (s4.trans (same_new hD4 _))))) (x2.chg.live _ ((s3.trans s4).free hD4)) upd_same (ordOk_app pos)
end
end D0
namespace D0
open PySem PySem.Spec PyProof.Rows L2 SX NumText
theorem PS.of {X : Cx} {e : Stmt} {t t' : TS} (h : PS X e t) (f : ∀ D σ H, t' D σ H → t D σ H) : PS X e t' := ⟨fun pins s σ H D I q => h.run pins s σ H D I (f D σ H q)⟩
/-- what a bank's class keeps -/
structure BkM (P : Program) (w : World) (K : PySem.W.Frag) (mg : Str → Option Value) (base : Heap) (C CT : Addr) (st : Nat) : Prop where
  cl : Cls K C
  h1 : 1 ≤ st
  h2 : st ≤ 2
  make : OkM P w K mg base C CX0 3 "make" p_Store_make (spMake K C CT st)
  set_slot : OkM P w K mg base C CX0 3 "set_slot" p_Store_set_slot (spSetSlot K C CT st)
  change : OkM P w K mg base C CX0 3 "change" p_Store_change (spChange K C CT st)
  reach : OkM P w K mg base C CX0 4 "reach" p_Store_reach (spReach K C CT)
  graph : OkM P w K mg base C CX0 5 "graph" p_Store_graph (spGraph K C CT)
theorem rep_tb {H : Hp} {a : Addr} {i : Int} (h : H a = some (.tup [.str (Str.ofString "ref"), .int i])) : Rep H (.ref a) (.tup [.str (cs (Str.ofString "ref")), .int i]) := Rep.two h (Rep.sv _) (.int i)
theorem tb_eq {st n : Nat} (h : 1 ≤ st) : (st : Int) * (n : Nat) + st - 1 = tb st n := by
  unfold tb
  rw [← Int.natCast_mul]; omega
theorem dep_ref (i : Int) : dep (.tup [.str (cs (Str.ofString "ref")), .int i]) < 9 := by rw [dep_tup]; simp [deps, dep]
structure Bas (H3 : Hp) (b B td tl : Addr) : Prop where
  nB : b ≠ B
  nt : b ≠ td
  lb : tl ≠ b
  lB : tl ≠ B
  lt : tl ≠ td
  hb : H3 b ≠ none
  hl : H3 tl ≠ none
structure Bld (K : PySem.W.Frag) (C CT : Addr) (st : Nat) (H3 H' : Hp) (b B td tl : Addr) (L : List Th) (g : Nat → Int) (N : Nat) : Prop where
  ch : Chg [b, B, td, tl] H3 H'
  bg : Bag H' b
  bk : BkB K C CT st H' B td L
  tb : H' tl = some (.lst (tbF g N))
  fr : ∀ a ∈ FB B td L, a = B ∨ a = td ∨ H3 a = none
/-- the nodes ks are things of L, their rows rw -/
def VI (L : List Th) (f : Nat → Int) (nds : List Nd) (ks : List Nat) (rw : Nat → Nd → List D) : Prop := ∀ k n, k ∈ ks → nds[k]? = some n → ∃ x ∈ L, x.key = f k ∧ x.kind = n.kind ∧ x.tag = n.tag ∧ x.row = rw k n
theorem VI.put {L : List Th} {f : Nat → Int} {nds : List Nd} {ks : List Nat} {rw rw' : Nat → Nd → List D} (V : VI L f nds ks rw) (inj : ∀ a ∈ ks, ∀ c ∈ ks, f a = f c → a = c) {k0 : Nat} {n0 : Nd} {x x' : Th} (h0 : k0 ∈ ks) (hn : nds[k0]? = some n0) (hx : x ∈ L) (ek : x.key = x'.key)
    (e1 : x'.key = f k0) (e2 : x'.kind = n0.kind) (e3 : x'.tag = n0.tag) (e4 : x'.row = rw' k0 n0) (o : ∀ k n, k ≠ k0 → rw' k n = rw k n) : VI (putT x' L) f nds ks rw' := fun k n hk h => by
  by_cases e : k = k0
  · subst e
    rw [hn] at h
    cases h
    exact ⟨x', putT_self hx ek, e1, e2, e3, e4⟩
  · obtain ⟨y, hy, f1, f2, f3, f4⟩ := V k n hk h
    refine ⟨y, putT_mem hy (fun z => e (inj k hk k0 h0 ?_)), f1, f2, f3, by rw [o k n e]; exact f4⟩
    rw [← f1, z, e1]
section
variable {K : PySem.W.Frag} {C CT : Addr} {st : Nat} {H3 H H' : Hp} {b B td tl : Addr} {L : List Th} {g : Nat → Int} {N : Nat}
theorem BkB.ins (X : BkB K C CT st H B td L) : ∃ dx fs, H B = some (.ins C dx fs) ∧ List.lookup (Str.ofString "make") fs = none ∧ List.lookup (Str.ofString "set_slot") fs = none ∧ List.lookup (Str.ofString "change") fs = none ∧ List.lookup (Str.ofString "reach") fs = none ∧ List.lookup (Str.ofString "graph") fs = none := by
  obtain ⟨more, Y, M⟩ := X.bk
  obtain ⟨dx, hB⟩ := Y.hB
  obtain ⟨m1, m2, m3, m4, m5, m6, m7⟩ := M.look td
  exact ⟨dx, _, hB, m1, m2, m3, m5, m6⟩
theorem Bld.nb (X : Bld K C CT st H3 H b B td tl L g N) (A : Bas H3 b B td tl) : b ∉ FB B td L := fun m => by
  rcases X.fr b m with h | h | h
  · exact A.nB h
  · exact A.nt h
  · exact A.hb h
theorem Bld.nl (X : Bld K C CT st H3 H b B td tl L g N) (A : Bas H3 b B td tl) : tl ∉ FB B td L := fun m => by
  rcases X.fr tl m with h | h | h
  · exact A.lB h
  · exact A.lt h
  · exact A.hl h
theorem Bld.same (X : Bld K C CT st H3 H b B td tl L g N) (s : Same H H') : Bld K C CT st H3 H' b B td tl L g N :=
  ⟨X.ch.trans (.same s), X.bg.same s, X.bk.same s, s _ _ X.tb, X.fr⟩
theorem Bld.stp (X : Bld K C CT st H3 H b B td tl L g N) (A : Bas H3 b B td tl) (s : Stp b H H') : Bld K C CT st H3 H' b B td tl L g N :=
  ⟨X.ch.trans (s.chg.mono fun a h => by rw [List.mem_singleton.mp h]; exact List.mem_cons_self ..), s.b1, X.bk.frame s.chg (fun a ha z => X.nb A (by rw [← List.mem_singleton.mp z]; exact ha)), s.keep _ _ A.lb X.tb, X.fr⟩
theorem Bld.make (X : Bld K C CT st H3 H b B td tl L g N) (A : Bas H3 b B td tl) {x : Th} (Y : BkB K C CT st H' B td (L ++ [x])) (c : Chg [B, td] H H') (f1 : H x.t = none) (f2 : H x.s = none) : Bld K C CT st H3 H' b B td tl (L ++ [x]) g N := by
  refine ⟨X.ch.trans (c.mono fun a h => by simp at h; rcases h with rfl | rfl <;> simp), ?_, Y, c.keep _ _ (by simp [A.lB, A.lt]) X.tb, fun a ha => ?_⟩
  · obtain ⟨c1, c2, c3, c4, c5, e⟩ := X.bg
    exact ⟨c1, c2, c3, c4, c5, c.keep _ _ (by simp [A.nB, A.nt]) e⟩
  · rcases fb_cases ha with h | h | ⟨y, hy, h⟩ | ⟨y, hy, h⟩
    · exact .inl h
    · exact .inr (.inl h)
    · rcases List.mem_append.mp hy with hy | hy
      · exact X.fr a (by rw [h]; exact fb_t hy)
      · rw [List.mem_singleton.mp hy] at h; exact .inr (.inr (by rw [h]; exact X.ch.live _ f1))
    · rcases List.mem_append.mp hy with hy | hy
      · exact X.fr a (by rw [h]; exact fb_s hy)
      · rw [List.mem_singleton.mp hy] at h; exact .inr (.inr (by rw [h]; exact X.ch.live _ f2))
theorem Bld.tset (X : Bld K C CT st H3 H b B td tl L g N) (A : Bas H3 b B td tl) {g' : Nat → Int} : Bld K C CT st H3 (upd H tl (.lst (tbF g' N))) b B td tl L g' N := by
  have c : Chg [tl] H (upd H tl (.lst (tbF g' N))) := .upd X.tb (fun _ z => by cases z) (List.mem_singleton_self _)
  refine ⟨X.ch.trans (c.mono fun a h => by rw [List.mem_singleton.mp h]; simp), ?_, X.bk.frame c (fun a ha z => X.nl A (by rw [← List.mem_singleton.mp z]; exact ha)), upd_same, X.fr⟩
  obtain ⟨c1, c2, c3, c4, c5, e⟩ := X.bg
  exact ⟨c1, c2, c3, c4, c5, by rw [upd_ne (Ne.symm A.lb)]; exact e⟩
theorem Bld.put (X : Bld K C CT st H3 H b B td tl L g N) (A : Bas H3 b B td tl) {x x' : Th} {F : Addr} (hx : x ∈ L) (et : x'.t = x.t) (es : x'.s = x.s ∨ H x'.s = none) (Y : BkB K C CT st H' B td (putT x' L)) (hF : F = x.t ∨ F = x.s) (c : Chg [F] H H') : Bld K C CT st H3 H' b B td tl (putT x' L) g N := by
  have mF : F ∈ FB B td L := by
    rcases hF with h | h
    · rw [h]; exact fb_t hx
    · rw [h]; exact fb_s hx
  refine ⟨X.ch.trans2 c (fun a h => ?_), ?_, Y, c.keep _ _ (fun z => X.nl A (by rw [List.mem_singleton.mp z]; exact mF)) X.tb, fun a ha => ?_⟩
  · rw [List.mem_singleton.mp h]
    rcases X.fr F mF with h | h | h
    · exact .inl (by simp [h])
    · exact .inl (by simp [h])
    · exact .inr h
  · obtain ⟨c1, c2, c3, c4, c5, e⟩ := X.bg
    exact ⟨c1, c2, c3, c4, c5, c.keep _ _ (fun z => X.nb A (by rw [List.mem_singleton.mp z]; exact mF)) e⟩
  · rcases fb_cases ha with h | h | ⟨y, hy, h⟩ | ⟨y, hy, h⟩
    · exact .inl h
    · exact .inr (.inl h)
    · rcases mem_putT hy with rfl | ⟨hy, _⟩
      · exact X.fr a (by rw [h, et]; exact fb_t hx)
      · exact X.fr a (by rw [h]; exact fb_t hy)
    · rcases mem_putT hy with rfl | ⟨hy, _⟩
      · rcases es with es | es
        · exact X.fr a (by rw [h, es]; exact fb_s hx)
        · exact .inr (.inr (by rw [h]; exact X.ch.live _ es))
      · exact X.fr a (by rw [h]; exact fb_s hy)
end
def bareD (n : Nd) : List D := rowD ixD (n.row.map bare)
def mixD (f : Nat → Int) (n : Nd) (j : Nat) : List D := rowD f (n.row.take j) ++ rowD ixD ((n.row.drop j).map bare)
theorem mixD_zero (f : Nat → Int) (n : Nd) : mixD f n 0 = bareD n := rfl
theorem mixD_all (f : Nat → Int) (n : Nd) : mixD f n n.row.length = rowD f n.row := by
  unfold mixD
  rw [List.take_length, List.drop_length]
  exact List.append_nil _
theorem mixD_len {f : Nat → Int} {n : Nd} {j : Nat} (h : j ≤ n.row.length) : (mixD f n j).length = n.row.length := by
  unfold mixD
  rw [List.length_append, rowD_len, rowD_len, List.length_map, List.length_take, List.length_drop]; omega
theorem mixD_set {f : Nat → Int} {n : Nd} {j : Nat} (h : j < n.row.length) : (mixD f n j).set j (n.row[j].d f) = mixD f n (j + 1) := by
  unfold mixD
  rw [take_next h, rowD_app, List.drop_eq_getElem_cons h, List.map_cons]
  have l : (rowD f (n.row.take j)).length = j := by rw [rowD_len, List.length_take]; omega
  rw [List.set_append_right _ _ (by omega), l, Nat.sub_self]
  show rowD f (n.row.take j) ++ (n.row[j].d f :: _) = _
  rw [List.append_assoc]; rfl
theorem mixD_keep {f : Nat → Int} {n : Nd} {j : Nat} (h : j < n.row.length) (t : n.row[j].tg = none) : mixD f n j = mixD f n (j + 1) := by
  unfold mixD
  rw [take_next h, rowD_app, List.drop_eq_getElem_cons h, List.map_cons, List.append_assoc]
  have e : (bare n.row[j]).d ixD = n.row[j].d f := by
    unfold bare; rw [if_pos t]; exact Ent.d_none t
  show rowD f (n.row.take j) ++ ((bare n.row[j]).d ixD :: rowD ixD ((n.row.drop (j + 1)).map bare)) = rowD f (n.row.take j) ++ (n.row[j].d f :: rowD ixD ((n.row.drop (j + 1)).map bare))
  rw [e]
def spBuilt (K : PySem.W.Frag) (C CT : Addr) (st : Nat) : Sp := fun vs H Q _ => ∃ (b B nb td od : Addr) (as rs : List Addr) (nds : List Nd) (os : List Nat), vs = [.ref b, .ref B, .ref nb, .ref od, .int (st : Nat)] ∧ Bag H b ∧ BkB K C CT st H B td [] ∧ BoA H nb as rs nds ∧ (∀ n ∈ nds, n.ok nds.length) ∧ nds.length ≤ 1300 ∧
  B ∉ FN nb as rs ∧ td ∉ FN nb as rs ∧ H od = some (.lst (nats os)) ∧ od ≠ b ∧ OrdOk os nds.length ∧
  ∀ tl f L H', BkB K C CT st H' B td L → Vw L f nds → H' tl = some (.lst (tbF f nds.length)) → H tl = none → tl ∉ FB B td L → Chg [b, B, td] H H' → Bag H' b → (∀ a ∈ FB B td L, a = B ∨ a = td ∨ H a = none) → Q (.ref tl) H'
end D0
namespace D0
open PySem PySem.Spec PyProof.Rows L2 SX NumText
theorem BoA.fr4 {H H' : Hp} {nb b B td tl : Addr} {as rs : List Addr} {nds : List Nd} (X : BoA H nb as rs nds) (c : Chg [b, B, td, tl] H H') (n1 : b ∉ FN nb as rs) (n2 : B ∉ FN nb as rs) (n3 : td ∉ FN nb as rs) (n4 : tl ∉ FN nb as rs) : BoA H' nb as rs nds :=
  X.frame c fun a ha z => by
    simp only [List.mem_cons, List.not_mem_nil, or_false] at z
    rcases z with rfl | rfl | rfl | rfl
    · exact n1 ha
    · exact n2 ha
    · exact n3 ha
    · exact n4 ha
theorem VI.congr {L : List Th} {f : Nat → Int} {nds : List Nd} {ks : List Nat} {rw rw' : Nat → Nd → List D} (V : VI L f nds ks rw) (h : ∀ k n, nds[k]? = some n → rw k n = rw' k n) : VI L f nds ks rw' := fun k n hk hn => by
  obtain ⟨x, hx, a, b, c, d⟩ := V k n hk hn
  exact ⟨x, hx, a, b, c, by rw [d]; exact h k n hn⟩
def rwI (f : Nat → Int) (os : List Nat) (i : Nat) : Nat → Nd → List D := fun k n => if k ∈ os.take i then rowD f n.row else bareD n
section
variable {P : Program} {w : World} {K : PySem.W.Frag} {mg : Str → Option Value} {base : Heap} {C CT : Addr} {st : Nat}
theorem ok__law_built (T : Txt K w mg) (BK : BkM P w K mg base C CT st) (O : OkD P w K mg base CX0 1 "_law_take" p__law_take spTake) (Oe : OkD P w K mg base CX0 10 "_law_same" p__law_same (spSame K 9)) (Obr : OkD P w K mg base CX0 3 "_law_bare" p__law_bare spBare)
    (Ot : OkD P w K mg base CX0 2 "_law_target" p__law_target spTarget) (Om : OkD P w K mg base CX0 2 "_law_moved" p__law_moved spMoved) (Os : OkD P w K mg base CX0 3 "_law_sent" p__law_sent spSent) : OkD P w K mg base CX0 11 "_law_built" p__law_built (spBuilt K C CT st) := by
  refine T.g__law_built.ok sc__law_built (fun vs H Q E h => ?_) (fun f cdv A outer s H vs Q E hr h => ?_)
  · obtain ⟨b, B, nb, td, od, as, rs, nds, os, rfl, _⟩ := h; rfl
  obtain ⟨b, B, nb, td, od, as, rs, nds, os, rfl, hb, Y, X, nok, hN, nB, nt, hod, nod, OO, q⟩ := h
  have lim : (4000 : Nat) < sizeLine := by decide
  have two : 2 ≤ sizeLine := by omega
  have h1 := BK.h1
  have h2 := BK.h2
  refine ⟨_, (pss_cons (ps_set (i := 5) sc__law_built.nd rfl (.inl rfl) (pe_op op_rep (pe_lst (pa_cons (pe_un un_neg pe_int) pa_nil)) (pe_callB call_len_seq (by rfl) T.z_len PySem.boot_len (pa_cons (pv 2) pa_nil))))
      (pss_cons (ps_set (i := 6) sc__law_built.nd rfl (.inl rfl) pe_int)
      (pss_cons (ps_for PassesOwn.never rfl (pi_list (pv 3)) (pg_name (i := 7) sc__law_built.nd rfl (Or.inl rfl)) (pss_cons (PS.of (t' := fun D σ H' => ∃ (H3 : Hp) (tl : Addr) (k : Nat) (L : List Th) (g : Nat → Int) (N : Nat) (o8 : Option V), σ = [some (.ref b), some (.ref B), some (.ref nb), some (.ref od), some (.int (st : Nat)), some (.ref tl), some (.int (L.length : Nat)), some (.int (k : Nat)), o8, none, none, none] ∧
          Bas H3 b B td tl ∧ Bld K C CT st H3 H' b B td tl L g N ∧ L.length ≤ 2999 ∧ ∀ L' o8' H'', Bld K C CT st H3 H'' b B td tl L' g N → (∀ x ∈ L, x ∈ L') → L'.length ≤ L.length + 1 → (∀ x ∈ L', x ∈ L ∨ True) →
            D.nx [some (.ref b), some (.ref B), some (.ref nb), some (.ref od), some (.int (st : Nat)), some (.ref tl), some (.int (L'.length : Nat)), some (.int (k : Nat)), o8', none, none, none] H'')
        (ps_if (PW.pt (pw_and (pt_cmpR op_lt (pv 7) pe_int (nomark _)) (pw_and (pt_cmpR op_gt (pv 6) pe_int (nomark _)) (pw_and1 (pt_cmpR op_eq (pcall O hr (pa_cons (pv 0) (pa_cons pe_int pa_nil))) pe_int (nomark _)))))) (pss_cons (ps_set (i := 8) sc__law_built.nd rfl (.inl rfl) (pmethE BK.make BK.cl hr pass0 (pv 1) (pa_cons pe_str (pa_cons pe_non (pa_cons (pe_lst (pa_cons (pe_tup (pa_cons pe_str (pa_cons (pe_op op_sub (pe_op op_mul (pv 4) (pv 6)) pe_int) pa_nil))) pa_nil)) pa_nil)))))
      (pss_cons (ps_if (pt_not (pt_val (pcall Oe hr (pa_cons (pv 8) (pa_cons (pe_tup (pa_cons pe_str (pa_cons (pe_op op_sub (pe_op op_add (pe_op op_mul (pv 4) (pv 6)) (pv 4)) pe_int) pa_nil))) pa_nil))))) (pss_one (ps_ret (pe_lst pa_nil))) pss_nil)
      (pss_one (ps_set (i := 6) sc__law_built.nd rfl (.inl rfl) (pe_op op_add (pv 6) pe_int))))) pss_nil) ?junk)
      (pss_cons (ps_set (i := 8) sc__law_built.nd rfl (.inl rfl) (pmethE BK.make BK.cl hr pass0 (pv 1) (pa_cons (pe_ix ix_list (pe_ix ix_list (pv 2) (pv 7) (fun _ _ => rfl)) pe_int (fun _ _ => rfl)) (pa_cons (pe_ix ix_list (pe_ix ix_list (pv 2) (pv 7) (fun _ _ => rfl)) pe_int (fun _ _ => rfl)) (pa_cons (pe_lc (own := [("entry", 11)]) (g := gName 11) (tt := tYes) rfl sc__law_built.nd (pi_list (pe_ix ix_list (pe_ix ix_list (pv 2) (pv 7) (fun _ _ => rfl)) pe_int (fun _ _ => rfl))) (blkOk_by (own := [("entry", 11)]) (N := n__law_built) (sc := defScope s__law_built) (by decide +kernel)) (fun _ _ _ _ _ => (pg_name (i := 11) sc__law_built.nd rfl (Or.inl rfl))) (fun _ _ _ _ _ => pts_nil) (fun _ _ _ _ _ => (pcall Obr hr (pa_cons (pv 11) pa_nil)))) pa_nil)))))
      (pss_cons (ps_if (pt_not (pt_val (pcall Oe hr (pa_cons (pv 8) (pa_cons (pe_tup (pa_cons pe_str (pa_cons (pe_op op_sub (pe_op op_add (pe_op op_mul (pv 4) (pv 6)) (pv 4)) pe_int) pa_nil))) pa_nil))))) (pss_one (ps_ret (pe_lst pa_nil))) pss_nil)
      (pss_cons (ps_asg (pe_ix ix_tup (pv 8) pe_int (fun _ _ => rfl)) (pg_sub (pv 5) (pv 7) set_list))
      (pss_one (ps_set (i := 6) sc__law_built.nd rfl (.inl rfl) (pe_op op_add (pv 6) pe_int))))))))
      (pss_cons (ps_set (i := 9) sc__law_built.nd rfl (.inl rfl) (pcall O hr (pa_cons (pv 0) (pa_cons pe_int pa_nil))))
      (pss_cons (ps_for PassesOwn.never rfl (pi_list (pv 3)) (pg_name (i := 7) sc__law_built.nd rfl (Or.inl rfl)) (pss_one (ps_if (pt_cmpR op_eq (pe_op op_mod (pe_callTy call_int1 (by rfl) T.z_int PyProof.Rows.boot_int (pa_cons (pe_op op_add (pv 7) (pv 9)) pa_nil)) pe_int) pe_int (nomark _)) (pss_one (ps_expr (pmethE BK.change BK.cl hr pass0 (pv 1) (pa_cons (pe_tup (pa_cons pe_str (pa_cons (pe_ix ix_list (pv 5) (pv 7) (fun _ _ => rfl)) pa_nil))) (pa_cons (pe_ix ix_list (pe_ix ix_list (pv 2) (pv 7) (fun _ _ => rfl)) pe_int (fun _ _ => rfl)) (pa_cons (pcall Os hr (pa_cons (pe_ix ix_list (pe_ix ix_list (pv 2) (pv 7) (fun _ _ => rfl)) pe_int (fun _ _ => rfl)) (pa_cons (pv 5) pa_nil))) pa_nil)))))) (pss_one (ps_for PassesOwn.never rfl (pi_range1 rfl T.z_range (pa_cons (pe_callB call_len_seq (by rfl) T.z_len PySem.boot_len (pa_cons (pe_ix ix_list (pe_ix ix_list (pv 2) (pv 7) (fun _ _ => rfl)) pe_int (fun _ _ => rfl)) pa_nil)) pa_nil)) (pg_name (i := 10) sc__law_built.nd rfl (Or.inl rfl)) (pss_one (ps_if (pt_cmpR op_ge (pcall Ot hr (pa_cons (pe_ix ix_list (pe_ix ix_list (pe_ix ix_list (pv 2) (pv 7) (fun _ _ => rfl)) pe_int (fun _ _ => rfl)) (pv 10) (fun _ _ => rfl)) pa_nil)) pe_int (nomark _)) (pss_one (ps_expr (pmethE BK.set_slot BK.cl hr pass0 (pv 1) (pa_cons (pe_tup (pa_cons pe_str (pa_cons (pe_ix ix_list (pv 5) (pv 7) (fun _ _ => rfl)) pa_nil))) (pa_cons (pv 10) (pa_cons (pcall Om hr (pa_cons (pe_ix ix_list (pe_ix ix_list (pe_ix ix_list (pv 2) (pv 7) (fun _ _ => rfl)) pe_int (fun _ _ => rfl)) (pv 10) (fun _ _ => rfl)) (pa_cons (pv 5) pa_nil))) pa_nil)))))) pss_nil)))))))
      (pss_one (ps_ret (pv 5)))))))), ?_⟩
  case junk =>
    rintro D σ H' ⟨H3, tl, k, L, g, N, o8, rfl, A, Z, hL, go⟩
    have old : ∀ {H''}, Bld K C CT st H3 H'' b B td tl L g N → D.nx [some (.ref b), some (.ref B), some (.ref nb), some (.ref od), some (.int (st : Nat)), some (.ref tl), some (.int (L.length : Nat)), some (.int (k : Nat)), o8, none, none, none] H'' := fun Z' => go L _ _ Z' (fun x h => h) (by omega) (fun x h => .inl h)
    refine ⟨_, rfl, _, _, rfl, rfl, _, rfl, ite2 (fun _ => ?_) (fun _ => old Z)⟩
    refine ⟨_, rfl, _, _, rfl, rfl, _, rfl, ite2 (fun c0 => ?_) (fun _ => old Z)⟩
    refine ⟨_, rfl, b, 4, rfl, Z.bg, by decide, by decide, fun r H5 _ _ x5 => ⟨rfl, _, rfl, ite2 (fun _ => ?_) (fun _ => old (Z.stp A x5))⟩⟩
    have Z5 := Z.stp A x5
    obtain ⟨dx, fs, hB, k1, _⟩ := Z5.bk.ins
    refine ⟨_, rfl, B, dx, fs, rfl, hB, k1, _, rfl, _, rfl, _, _, rfl, rfl, .inl ⟨by omega, by omega⟩, _, _, rfl, rfl, two, fun p hp => ⟨by show 1 ≤ sizeLine; omega, fun gl hgl => ?_⟩⟩
    have s6 := same_new hp (.tup [.str (Str.ofString "ref"), .int ((st : Int) * (L.length : Int) - 1)])
    have s7 := same_new hgl (.lst [.ref p])
    have Z7 := Z5.same (s6.trans s7)
    have rp := rep_tb (s7 _ _ (upd_same (H := H5) (a := p) (o := .tup [.str (Str.ofString "ref"), .int ((st : Int) * (L.length : Int) - 1)])))
    have hg7 : upd (upd H5 p (.tup [.str (Str.ofString "ref"), .int ((st : Int) * (L.length : Int) - 1)])) gl (.lst [.ref p]) gl = some (.lst [.ref p]) := upd_same
    generalize upd (upd H5 p (.tup [.str (Str.ofString "ref"), .int ((st : Int) * (L.length : Int) - 1)])) gl (.lst [.ref p]) = H7 at Z7 rp hg7
    refine ⟨B, td, L, cs (Str.ofString "list"), .non, gl, [.ref p], .non, _, rfl, Z7.bk, by omega, .non, hg7, .one rp, fun t s p8 H8 Y8 c8 f1 f2 h8 => ?_⟩
    have Z8 := Z7.make A Y8 c8 f1 f2
    refine ⟨_, rfl, _, rfl, _, rfl, _, _, rfl, rfl, .inl ⟨by omega, by omega⟩, _, rfl, _, _, rfl, rfl, _, _, rfl, rfl, two, fun p9 hp9 => ?_⟩
    have s9 := same_new hp9 (.tup [.str (Str.ofString "ref"), .int ((st : Int) * (L.length : Int) + (st : Int) - 1)])
    have h9 : upd H8 p9 (.tup [.str (Str.ofString "ref"), .int ((st : Int) * (L.length : Int) + (st : Int) - 1)]) p9 = some (.tup [.str (Str.ofString "ref"), .int (tb st L.length)]) := by rw [upd_same, ← tb_eq h1]
    refine ⟨_, _, rfl, ⟨_, rfl, iteF ?_⟩, .inr ⟨_, rep_tb (s9 _ _ h8), rep_tb h9, dep_ref _⟩⟩
    have Z9 := Z8.same s9
    refine ⟨_, rfl, _, _, rfl, rfl, ?_⟩
    have := go _ (some (.ref p8)) _ Z9 (fun x h => List.mem_append_left _ h) (by rw [List.length_append]; exact Nat.le_refl _) (fun x h => .inr trivial)
    rw [List.length_append] at this
    exact this
  -- the table
  have la : (as.map V.ref).length = nds.length := by rw [List.length_map, X.la]
  refine ⟨1, rfl, by show 1 ≤ sizeLine; omega, fun x0 hx0 => ?_⟩
  have s2 := same_new hx0 (.lst [.int (-1)])
  have hx2 : upd H x0 (.lst [.int (-1)]) x0 = some (.lst [.int (-1)]) := upd_same
  refine ⟨_, rfl, nb, _, rfl, .inl (SqL.of (s2 _ _ X.h0)), x0, _, _, rfl, rfl, hx2, by rw [la]; omega, by rw [la]; omega, by rw [la]; show 1 * (nds.length : Int).toNat ≤ _; omega, fun tl htl => ?_⟩
  have s3 := same_new htl (.lst ((List.replicate ((as.map V.ref).length : Int).toNat [V.int (-1)]).flatten))
  have S3 := s2.trans s3
  have ht3 : upd (upd H x0 (.lst [.int (-1)])) tl (.lst ((List.replicate ((as.map V.ref).length : Int).toNat [V.int (-1)]).flatten)) tl = some (.lst (tbF (fun _ => -1) nds.length)) := by
    rw [upd_same, la, rep_flat, tbF_const (x := -1) (fun _ => rfl)]; rfl
  have ftl : H tl = none := s2.free htl
  generalize upd (upd H x0 (.lst [.int (-1)])) tl (.lst ((List.replicate ((as.map V.ref).length : Int).toNat [V.int (-1)]).flatten)) = H3 at S3 ht3
  have ne_tl : ∀ {x : Addr}, H x ≠ none → tl ≠ x := fun h z => h (by rw [← z]; exact ftl)
  have hBn := Y.here B (by simp [FB])
  have htn := Y.here td (by simp [FB])
  have hbn : H b ≠ none := by obtain ⟨_, _, _, _, _, e⟩ := hb; rw [e]; exact fun z => nomatch z
  obtain ⟨more0, Y0, M0⟩ := Y.bk
  obtain ⟨dx0, hB0⟩ := Y0.hB
  have nbB : b ≠ B := by obtain ⟨_, _, _, _, _, e⟩ := id hb; exact ne_ob e hB0 (fun z => by cases z)
  have nbt : b ≠ td := by obtain ⟨_, _, _, _, _, e⟩ := id hb; exact ne_ob e Y0.hD (fun z => by cases z)
  have A : Bas H3 b B td tl := ⟨nbB, nbt, ne_tl hbn, ne_tl hBn, ne_tl htn, fun z => hbn (live_same S3 _ z), by rw [ht3]; exact fun z => nomatch z⟩
  have Z3 : Bld K C CT st H3 H3 b B td tl [] (fun _ => -1) nds.length := ⟨.refl, hb.same S3, Y.same S3, ht3, fun a ha => by simp [FB] at ha; rcases ha with h | h; exact .inl h; exact .inr (.inl h)⟩
  have X3 := X.same S3
  have nbF : b ∉ FN nb as rs := X.nbag hb
  have ntF : tl ∉ FN nb as rs := fun m => X.here tl m ftl
  have fX : ∀ {H'}, Chg [b, B, td, tl] H3 H' → BoA H' nb as rs nds := fun c => X3.fr4 c nbF nB nt ntF
  have od3 := S3 _ _ hod
  have nodB : od ≠ B := ne_ob hod hB0 (fun z => by cases z)
  have nodt : od ≠ td := ne_ob hod Y0.hD (fun z => by cases z)
  have nodl : od ≠ tl := (ne_tl (by rw [hod]; exact fun z => nomatch z)).symm
  have fO : ∀ {H'}, Chg [b, B, td, tl] H3 H' → H' od = some (.lst (nats os)) := fun c => c.keep _ _ (by simp [nod, nodB, nodt, nodl]) od3
  have lo := nodup_le nds.length OO.nd (fun x hx => (OO.mem x).mp hx)
  refine ⟨_, rfl, od, rfl, ⟨_, SqL.of od3⟩, ?_⟩
  refine for_it (walk_list (xs := nats os)) (fun i σ H' => ∃ L g o7 o8, σ = [some (.ref b), some (.ref B), some (.ref nb), some (.ref od), some (.int (st : Nat)), some (.ref tl), some (.int (L.length : Nat)), o7, o8, none, none, none] ∧
    Bld K C CT st H3 H' b B td tl L g nds.length ∧ VI L g nds (os.take i) (fun _ n => bareD n) ∧ (∀ a ∈ os.take i, ∀ c ∈ os.take i, g a = g c → a = c) ∧ L.length ≤ 2 * i)
    ⟨[], fun _ => -1, none, none, rfl, Z3, fun k n h => by simp at h, fun a h => by simp at h, Nat.le_refl _⟩ (fun i σ H' _ h => by
      obtain ⟨L, g, o7, o8, rfl, Z, _⟩ := h
      exact SqL.of (fO Z.ch)) ?_ ?_
  · rintro i x σ H4 H5 hi ⟨L, g, o7, o8, rfl, Z, V0, inj, lL⟩ ⟨rfl, hx⟩
    rw [nats_len] at hi
    unfold nats at hx
    rw [List.getElem?_map, List.getElem?_eq_getElem hi] at hx
    have hx := Option.some.inj hx
    subst hx
    obtain ⟨k, ek⟩ : ∃ k, k = os[i] := ⟨_, rfl⟩
    rw [← ek]
    have hk : k < nds.length := by rw [ek]; exact (OO.mem _).mp (List.getElem_mem hi)
    have nk : k ∉ os.take i := fun z => by
      obtain ⟨j, hj, e⟩ := List.getElem_of_mem z
      rw [List.getElem_take, ek] at e
      have := (List.getElem_inj OO.nd).mp e
      rw [List.length_take] at hj; omega
    refine ⟨H3, tl, k, L, g, nds.length, o8, rfl, A, Z, by omega, fun L1 o81 H6 Z6 sub l1 _ => ?_⟩
    have V6 : VI L1 g nds (os.take i) (fun _ n => bareD n) := fun k n h1 h2 => by
      obtain ⟨x, hx, e⟩ := V0 k n h1 h2
      exact ⟨x, sub x hx, e⟩
    obtain ⟨n, hn⟩ : ∃ n, nds[k]? = some n := ⟨_, List.getElem?_eq_getElem hk⟩
    have no := nok n (List.mem_of_getElem? hn)
    have X6 := fX Z6.ch
    obtain ⟨a, r, tv, us, ea, er, ga, rt, g2, rr, vl⟩ := X6.look hn
    obtain ⟨dx, fs, hB, k1, _⟩ := Z6.bk.ins
    refine ⟨_, rfl, B, dx, fs, rfl, hB, k1, _, rfl, _, rfl, nb, _, _, .ref a, rfl, rfl, SqL.of X6.h0, node_at ea, a, _, 0, _, rfl, rfl, SqL.of ga, rfl, _, rfl, _, rfl, nb, _, _, .ref a, rfl, rfl, SqL.of X6.h0, node_at ea, a, _, 1, _, rfl, rfl, SqL.of ga, rfl, ?_⟩
    refine ⟨_, rfl, _, rfl, nb, _, _, .ref a, rfl, rfl, SqL.of X6.h0, node_at ea, a, _, 2, _, rfl, rfl, SqL.of ga, rfl, r, rfl, ⟨us, SqL.of g2⟩, fun gl hgl => ?_⟩
    refine lc_it (walk_list (xs := us)) (fun j H' => Same H6 H' ∧ ∃ ws, H' gl = some (.lst ws) ∧ Reps H' ws (rowD ixD ((n.row.take j).map bare)) ∧ ws.length = j) ⟨same_new hgl _, [], upd_same, .nil, rfl⟩ (fun j H' _ h => SqL.of (h.1 _ _ g2)) ?_ ?_
    · rintro j x H7 H8 hj ⟨s7, ws, h7, r7, l7⟩ ⟨rfl, hx⟩
      obtain ⟨hj', rd⟩ := rows_at (rr.mono (.same s7)) hx
      refine ⟨rfl, iteT (B := True) (iteT ?_)⟩
      refine ⟨_, rfl, x, n.row[j], nds.length, rfl, rd, no.row _ (List.getElem_mem hj'), fun v' H9 s9 r9 => ?_⟩
      have h9 := s9 _ _ h7
      refine ⟨_, h9, by have := no.len; omega, same_grow (s7.trans s9) hgl, ws ++ [v'], upd_same, ?_, by simp [l7]⟩
      rw [take_next hj', List.map_append, rowD_app]
      exact (r7.mono ((Tups.same s9).trans (.lst h9))).app (.one (r9.mono (.lst h9)))
    rintro H7 ⟨s7, ws, h7, r7, l7⟩
    rw [vl, List.take_length] at r7
    have Z7 := Z6.same s7
    refine ⟨B, td, L1, n.kind, tv, gl, ws, n.tag, _, rfl, Z7.bk, by omega, rt.mono (.same s7), h7, r7, fun t s p8 H8 Y8 c8 f1 f2 h8 => ?_⟩
    have nkey := Z7.bk.key_new h1
    have Z8 := Z7.make A Y8 c8 f1 f2
    refine ⟨_, rfl, _, rfl, _, rfl, _, _, rfl, rfl, .inl ⟨by omega, by omega⟩, _, rfl, _, _, rfl, rfl, _, _, rfl, rfl, two, fun p9 hp9 => ?_⟩
    have s9 := same_new hp9 (.tup [.str (Str.ofString "ref"), .int ((st : Int) * (L1.length : Int) + (st : Int) - 1)])
    have h9 : upd H8 p9 (.tup [.str (Str.ofString "ref"), .int ((st : Int) * (L1.length : Int) + (st : Int) - 1)]) p9 = some (.tup [.str (Str.ofString "ref"), .int (tb st L1.length)]) := by rw [upd_same, ← tb_eq h1]
    have h89 := s9 _ _ h8
    refine ⟨_, _, rfl, ⟨_, rfl, iteF ?_⟩, .inr ⟨_, rep_tb h89, rep_tb h9, dep_ref _⟩⟩
    have Z9 := Z8.same s9
    generalize upd H8 p9 (.tup [.str (Str.ofString "ref"), .int ((st : Int) * (L1.length : Int) + (st : Int) - 1)]) = H9 at s9 h9 h89 Z9
    refine ⟨_, rfl, p8, _, 1, _, rfl, rfl, SqT.of h89, rfl, _, rfl, _, rfl, tl, _, _, k, rfl, rfl, Z9.tb, by rw [tbF_len]; exact ixN_nat hk, ?_⟩
    obtain ⟨g', eg'⟩ : ∃ g' : Nat → Int, g' = fun j => if k = j then tb st L1.length else g j := ⟨_, rfl⟩
    rw [tbF_set (g := g') hk (fun j _ => by rw [eg'])]
    have Z10 := Z9.tset (g' := g') A
    refine ⟨_, rfl, _, _, rfl, rfl, ?_⟩
    have go : ∀ j, j ≠ k → g' j = g j := fun j h => by rw [eg']; show (if k = j then _ else _) = _; rw [if_neg (Ne.symm h)]
    have gk : g' k = tb st L1.length := by rw [eg']; show (if k = k then _ else _) = _; rw [if_pos rfl]
    have tk : ∀ j, j ∈ os.take (i + 1) → j ∈ os.take i ∨ j = k := fun j hj => by
      rw [take_next hi, ← ek] at hj
      rcases List.mem_append.mp hj with h | h
      · exact .inl h
      · exact .inr (List.mem_singleton.mp h)
    have newk : ∀ j, j ∈ os.take i → g j ≠ tb st L1.length := fun j hj z => by
      have hjN : j < nds.length := (OO.mem j).mp (List.mem_of_mem_take hj)
      obtain ⟨x, hx, e1, _⟩ := V6 j _ hj (List.getElem?_eq_getElem hjN)
      exact nkey (by rw [← z, ← e1]; exact List.mem_map_of_mem hx)
    refine ⟨L1 ++ [⟨tb st L1.length, t, s, n.kind, n.tag, rowD ixD (n.row.map bare), 0⟩], g', _, _, by rw [List.length_append]; rfl, Z10, fun j m hj hm => ?_, fun j hj c hc e => ?_, by rw [List.length_append]; show L1.length + 1 ≤ _; omega⟩
    · by_cases e : j = k
      · subst e
        rw [hn] at hm
        cases hm
        exact ⟨_, List.mem_append_right _ (List.mem_singleton_self _), gk.symm, rfl, rfl, rfl⟩
      · rcases tk j hj with h | h
        · obtain ⟨x, hx, e1, e2⟩ := V6 j m h hm
          exact ⟨x, List.mem_append_left _ hx, by rw [e1, go j e], e2⟩
        · exact absurd h e
    · by_cases e1 : j = k <;> by_cases e2 : c = k
      · rw [e1, e2]
      · rw [e1, gk, go c e2] at e
        rcases tk c hc with h | h
        · exact absurd e.symm (newk c h)
        · exact absurd h e2
      · rw [e2, gk, go j e1] at e
        rcases tk j hj with h | h
        · exact absurd e (newk j h)
        · exact absurd h e1
      · rw [go j e1, go c e2] at e
        rcases tk j hj with h | h
        · rcases tk c hc with h' | h'
          · exact inj j h c h' e
          · exact absurd h' e2
        · exact absurd h e1
  rintro σ H4 ⟨L, f, o7, o8, rfl, Z, V0, inj, lL⟩
  rw [nats_len, List.take_length] at V0 inj
  rw [nats_len] at lL
  -- way
  refine ⟨_, rfl, b, 3, rfl, Z.bg, by decide, by decide, fun r0 H5 r00 r01 x5 => ?_⟩
  have Z5 := Z.stp A x5
  refine ⟨_, rfl, od, rfl, ⟨_, SqL.of (fO Z5.ch)⟩, ?_⟩
  refine for_it (walk_list (xs := nats os)) (fun i σ H' => ∃ L' o7 o10, σ = [some (.ref b), some (.ref B), some (.ref nb), some (.ref od), some (.int (st : Nat)), some (.ref tl), some (.int (L.length : Nat)), o7, o8, some (.int r0), o10, none] ∧
    Bld K C CT st H3 H' b B td tl L' f nds.length ∧ VI L' f nds os (rwI f os i))
    ⟨L, _, _, rfl, Z5, V0.congr (fun k n _ => by unfold rwI; rw [if_neg (by simp)])⟩ (fun i σ H' _ h => by
      obtain ⟨L', o7, o10, rfl, Z, _⟩ := h
      exact SqL.of (fO Z.ch)) ?_ ?_
  · rintro i x σ H6 H7 hi ⟨L', o7, o10, rfl, Z7, V7⟩ ⟨rfl, hx⟩
    rw [nats_len] at hi
    unfold nats at hx
    rw [List.getElem?_map, List.getElem?_eq_getElem hi] at hx
    have hx := Option.some.inj hx
    subst hx
    obtain ⟨k, ek⟩ : ∃ k, k = os[i] := ⟨_, rfl⟩
    rw [← ek]
    have hkm : k ∈ os := by rw [ek]; exact List.getElem_mem hi
    have hk : k < nds.length := (OO.mem _).mp hkm
    have nk : k ∉ os.take i := fun z => by
      obtain ⟨j, hj, e⟩ := List.getElem_of_mem z
      rw [List.getElem_take, ek] at e
      have := (List.getElem_inj OO.nd).mp e
      rw [List.length_take] at hj; omega
    have rwn : ∀ j n, j ≠ k → rwI f os (i + 1) j n = rwI f os i j n := fun j n h => by
      unfold rwI
      rw [take_next hi, ← ek]
      have : (j ∈ os.take i ++ [k]) ↔ j ∈ os.take i := by simp [h]
      by_cases c : j ∈ os.take i
      · rw [if_pos c, if_pos (this.mpr c)]
      · rw [if_neg c, if_neg (fun z => c (this.mp z))]
    obtain ⟨n, hn⟩ : ∃ n, nds[k]? = some n := ⟨_, List.getElem?_eq_getElem hk⟩
    have rwk : rwI f os (i + 1) k n = rowD f n.row := by
      unfold rwI
      rw [take_next hi, ← ek, if_pos (by simp)]
    have rwk0 : ∀ m, rwI f os i k m = bareD m := fun m => by
      unfold rwI
      rw [if_neg nk]
    have no := nok n (List.mem_of_getElem? hn)
    have X7 := fX Z7.ch
    obtain ⟨a, r, tv, us, ea, er, ga, rt, g2, rr, vl⟩ := X7.look hn
    refine ⟨_, rfl, _, rfl, _, _, rfl, rfl, .inl ⟨_, rfl, _, _, rfl, rfl, (by show (0 : Int) < _; decide), rfl, _, rfl, ite2 (fun _ => ?_) (fun _ => ?_)⟩⟩
    · obtain ⟨dx, fs, hB, _, _, k3, _⟩ := Z7.bk.ins
      refine ⟨_, rfl, B, dx, fs, rfl, hB, k3, _, rfl, _, rfl, tl, _, _, _, rfl, rfl, SqL.of Z7.tb, atI_nat (tbF_at hk), two, fun p hp => ?_⟩
      have s8 := same_new hp (.tup [.str (Str.ofString "ref"), .int (f k)])
      have hp8 : upd H7 p (.tup [.str (Str.ofString "ref"), .int (f k)]) p = some (.tup [.str (Str.ofString "ref"), .int (f k)]) := upd_same
      generalize upd H7 p (.tup [.str (Str.ofString "ref"), .int (f k)]) = H8 at s8 hp8
      have X8 := X7.same s8
      have ga8 := s8 _ _ ga
      refine ⟨_, rfl, _, rfl, nb, _, _, .ref a, rfl, rfl, SqL.of X8.h0, node_at ea, a, _, 1, _, rfl, rfl, SqL.of ga8, rfl, _, rfl, _, rfl, nb, _, _, .ref a, rfl, rfl, SqL.of X8.h0, node_at ea, a, _, 2, _, rfl, rfl, SqL.of ga8, rfl, _, rfl, ?_⟩
      refine ⟨r, tl, us, n.row, f, nds.length, rfl, s8 _ _ g2, rr.mono (.same s8), no.row, no.len, s8 _ _ Z7.tb, fun gl us2 H9 s9 fg hg ru => ?_⟩
      have S9 := s8.trans s9
      have Z9 := Z7.same S9
      obtain ⟨x, hxL, e1, e2, e3, e4⟩ := V7 k n hkm hn
      refine ⟨B, td, L', .ref p, tv, gl, us2, x, n.tag, rowD f n.row, rfl, Z9.bk, ⟨p, _, rfl, by rw [e1]; exact s9 _ _ hp8⟩, hxL, rt.mono (.same S9), hg, ru, fun s' H10 Y10 c10 f10 => ?_⟩
      have Z10 := Z9.put A (x' := { x with tag := n.tag, row := rowD f n.row, s := s' }) hxL rfl (.inr f10) Y10 (.inl rfl) c10
      exact ⟨_, _, _, rfl, Z10, V7.put (x' := { x with tag := n.tag, row := rowD f n.row, s := s' }) inj hkm hn hxL rfl e1 e2 rfl rwk.symm rwn⟩
    · refine ⟨_, rfl, _, rfl, nb, _, _, .ref a, rfl, rfl, SqL.of X7.h0, node_at ea, a, _, 2, _, rfl, rfl, SqL.of ga, rfl, r, _, rfl, .inl (SqL.of g2), _, rfl, by have := no.len; omega, by have := no.len; omega, ?_⟩
      refine for_range (lo := 0) (n := us.length) (fun j σ H' => ∃ L' o10, σ = [some (.ref b), some (.ref B), some (.ref nb), some (.ref od), some (.int (st : Nat)), some (.ref tl), some (.int (L.length : Nat)), some (.int (k : Nat)), o8, some (.int r0), o10, none] ∧
        Bld K C CT st H3 H' b B td tl L' f nds.length ∧ VI L' f nds os (fun k' m => if k' = k then mixD f m j else rwI f os i k' m))
        ⟨L', o10, rfl, Z7, V7.congr (fun k' m _ => by
          by_cases c : k' = k
          · rw [if_pos c, c, rwk0]; rfl
          · rw [if_neg c])⟩ ?_ ?_
      · rintro j σ H8 hj ⟨L2, o10, rfl, Z8, V8⟩
        have hj' : j < n.row.length := by omega
        have X8 := fX Z8.ch
        obtain ⟨a', r', tv', us', ea', er', ga', rt', g2', rr', vl'⟩ := X8.look hn
        have hju : j < us'.length := by omega
        obtain ⟨e0, e1⟩ : ∃ e, e = n.row[j] := ⟨_, rfl⟩
        have hv : us'[j]? = some us'[j] := List.getElem?_eq_getElem hju
        obtain ⟨_, rd⟩ := rows_at rr' hv
        generalize us'[j] = v at hv rd
        rw [← e1] at rd
        have oe0 : e0.ok nds.length := by rw [e1]; exact no.row _ (List.getElem_mem hj')
        have put : ∀ {L3 : List Th} {H' : Hp}, Bld K C CT st H3 H' b B td tl L3 f nds.length → VI L3 f nds os (fun k' m => if k' = k then mixD f m (j + 1) else rwI f os i k' m) →
          ∃ L' o10, [some (V.ref b), some (.ref B), some (.ref nb), some (.ref od), some (.int (st : Nat)), some (.ref tl), some (.int (L.length : Nat)), some (.int (k : Nat)), o8, some (.int r0), some (.int (0 + (j : Int))), none] = [some (V.ref b), some (.ref B), some (.ref nb), some (.ref od), some (.int (st : Nat)), some (.ref tl), some (.int (L.length : Nat)), some (.int (k : Nat)), o8, some (.int r0), o10, none] ∧
            Bld K C CT st H3 H' b B td tl L' f nds.length ∧ VI L' f nds os (fun k' m => if k' = k then mixD f m (j + 1) else rwI f os i k' m) := fun z v => ⟨_, _, rfl, z, v⟩
        refine ⟨_, rfl, _, rfl, nb, _, _, .ref a', rfl, rfl, SqL.of X8.h0, node_at ea', a', _, 2, _, rfl, rfl, SqL.of ga', rfl, _, rfl, r', _, _, v, rfl, rfl, SqL.of g2', by rw [Int.zero_add]; exact atI_nat hv, v, e0, nds.length, rfl, rd, oe0, _, _, rfl, rfl, _, rfl, ?_⟩
        cases ht : e0.tg with
        | none =>
          refine ite2 (fun c => absurd (of_decide_eq_true c) (by show ¬ ((-1 : Int) ≥ 0); decide)) (fun _ => put Z8 (V8.congr fun k' m hm => ?_))
          by_cases c : k' = k
          · rw [if_pos c, if_pos c]
            rw [c, hn] at hm
            cases hm
            exact mixD_keep hj' (by rw [← e1]; exact ht)
          · rw [if_neg c, if_neg c]
        | some q0 =>
          refine ite2 (fun _ => ?_) (fun c => absurd (decide_eq_true (show tgV (some q0) ≥ 0 by show ((q0 : Nat) : Int) ≥ 0; omega)) c)
          obtain ⟨dx, fs, hB, _, k2, _⟩ := Z8.bk.ins
          refine ⟨_, rfl, B, dx, fs, rfl, hB, k2, _, rfl, _, rfl, tl, _, _, _, rfl, rfl, SqL.of Z8.tb, atI_nat (tbF_at hk), two, fun p hp => ?_⟩
          have s9 := same_new hp (.tup [.str (Str.ofString "ref"), .int (f k)])
          have hp9 : upd H8 p (.tup [.str (Str.ofString "ref"), .int (f k)]) p = some (.tup [.str (Str.ofString "ref"), .int (f k)]) := upd_same
          generalize upd H8 p (.tup [.str (Str.ofString "ref"), .int (f k)]) = H9 at s9 hp9
          have X9 := X8.same s9
          refine ⟨_, rfl, _, rfl, _, rfl, nb, _, _, .ref a', rfl, rfl, SqL.of X9.h0, node_at ea', a', _, 2, _, rfl, rfl, SqL.of (s9 _ _ ga'), rfl, _, rfl, r', _, _, v, rfl, rfl, SqL.of (s9 _ _ g2'), by rw [Int.zero_add]; exact atI_nat hv, _, rfl, ?_⟩
          refine ⟨v, tl, e0, f, nds.length, rfl, rd.mono (.same s9), oe0, s9 _ _ Z8.tb, fun v' H10 s10 r10 => ?_⟩
          have Z10 := Z8.same (s9.trans s10)
          obtain ⟨x, hxL, q1, q2, q3, q4⟩ := V8 k n hkm hn
          have q4 : x.row = mixD f n j := by rw [q4]; exact if_pos rfl
          refine ⟨B, td, L2, .ref p, v', j, x, e0.d f, by rw [Int.zero_add]; rfl, Z10.bk, ⟨p, _, rfl, by rw [q1]; exact s10 _ _ hp9⟩, hxL, by rw [q4, mixD_len (by omega)]; exact hj', r10, fun H11 Y11 c11 => ?_⟩
          have Z11 := Z10.put A (x' := { x with row := x.row.set j (e0.d f) }) hxL rfl (.inl rfl) Y11 (.inr rfl) c11
          refine put Z11 (V8.put (x' := { x with row := x.row.set j (e0.d f) }) inj hkm hn hxL rfl q1 q2 q3 ?_ (fun k' m h => by rw [if_neg h, if_neg h]))
          show x.row.set j (e0.d f) = if k = k then mixD f n (j + 1) else _
          rw [if_pos rfl, q4, e1, mixD_set hj']
      · rintro σ H8 ⟨L2, o10, rfl, Z8, V8⟩
        refine ⟨L2, _, _, rfl, Z8, V8.congr fun k' m hm => ?_⟩
        by_cases c : k' = k
        · rw [if_pos c]
          rw [c, hn] at hm
          cases hm
          rw [c, rwk, vl, mixD_all]
        · rw [if_neg c, rwn k' m c]
  · rintro σ H6 ⟨L', o7, o10, rfl, Z6, V6⟩
    rw [nats_len] at V6
    have V6 : VI L' f nds os (rwI f os os.length) := V6
    refine ⟨_, rfl, q tl f L' H6 Z6.bk ⟨fun k n hn => ?_, fun i j hi hj e => inj i ((OO.mem i).mpr hi) j ((OO.mem j).mpr hj) e⟩ Z6.tb ftl (Z6.nl A) ?_ Z6.bg (fun a ha => ?_)⟩
    · obtain ⟨hk, _⟩ := List.getElem?_eq_some_iff.mp hn
      have hm := (OO.mem k).mpr hk
      obtain ⟨x, hx, e1, e2, e3, e4⟩ := V6 k n hm hn
      refine ⟨x, hx, e1, e2, e3, ?_⟩
      rw [e4]
      unfold rwI
      rw [List.take_length, if_pos hm]
    · refine ⟨fun a o na h => Z6.ch.keep a o (fun z => ?_) (S3 _ _ h), (Tups.same S3).trans Z6.ch.tups, fun a h => live_same S3 _ (Z6.ch.live a h)⟩
      simp only [List.mem_cons, List.not_mem_nil, or_false] at z na
      rcases z with z | z | z | z
      · exact na (.inl z)
      · exact na (.inr (.inl z))
      · exact na (.inr (.inr z))
      · rw [z, ftl] at h; cases h
    · rcases Z6.fr a ha with h | h | h
      · exact .inl h
      · exact .inr (.inl h)
      · exact .inr (.inr (live_same S3 _ h))
end
end D0
namespace D0
open PySem PySem.Spec PyProof.Rows L2 SX NumText
def ordD (f : Nat → Int) (os : List Nat) : List D := os.map fun x => .int (f x)
theorem reps_ord {H : Hp} {f : Nat → Int} : ∀ os : List Nat, Reps H (ordV f os) (ordD f os)
  | [] => .nil
  | x :: r => .cons (.int _) (reps_ord r)
theorem deps_ord (f : Nat → Int) (os : List Nat) : deps (ordD f os) ≤ 0 := deps_of fun d hd => by
  obtain ⟨x, _, rfl⟩ := List.mem_map.mp hd
  unfold dep; exact Nat.le_refl _
theorem graph_dep {nds : List Nd} {es : List Ent} (ok : ∀ n ∈ nds, n.ok nds.length) (oe : ∀ e ∈ es, e.ok nds.length) : dep (graphD nds es) ≤ 7 := by
  unfold graphD
  rw [dep_tup]
  have h1 : dep (.tup (rowD (plc (reachN nds es)) es)) ≤ 5 := by rw [dep_tup]; have := rowD_dep (f := plc (reachN nds es)) oe; omega
  have h2 : dep (.tup ((reachN nds es).map (objD nds (plc (reachN nds es))))) ≤ 5 := by
    rw [dep_tup]
    have : deps ((reachN nds es).map (objD nds (plc (reachN nds es)))) ≤ 4 := deps_of fun d hd => by
      obtain ⟨x, _, rfl⟩ := List.mem_map.mp hd
      unfold objD
      cases hn : nds[x]? with
      | none => unfold dep; omega
      | some n =>
        have no := ok n (List.mem_of_getElem? hn)
        show dep (.tup _) ≤ 4
        rw [dep_tup]
        have h3 : dep (.tup (rowD (plc (reachN nds es)) n.row)) ≤ 3 := by rw [dep_tup]; have := rowD_dep (f := plc (reachN nds es)) no.row; omega
        have h4 := no.tag
        have h5 : dep (.str n.kind) = 0 := by unfold dep; rfl
        have : deps [D.str n.kind, n.tag, .tup (rowD (plc (reachN nds es)) n.row)] ≤ 3 := deps_of fun d hd => by
          simp only [List.mem_cons, List.not_mem_nil, or_false] at hd
          rcases hd with rfl | rfl | rfl <;> omega
        omega
    omega
  have : deps [D.tup (rowD (plc (reachN nds es)) es), .tup ((reachN nds es).map (objD nds (plc (reachN nds es))))] ≤ 5 := deps_of fun d hd => by
    simp only [List.mem_cons, List.not_mem_nil, or_false] at hd
    rcases hd with rfl | rfl <;> omega
  omega
def spAsked (K : PySem.W.Frag) (C CT : Addr) (st : Nat) : Sp := fun vs H Q _ => ∃ (B td nb tl ea : Addr) (L : List Th) (f : Nat → Int) (as rs : List Addr) (nds : List Nd) (ws : List V) (es : List Ent), vs = [.ref B, .ref nb, .ref tl, .ref ea] ∧ BkB K C CT st H B td L ∧ Vw L f nds ∧ BoA H nb as rs nds ∧ (∀ n ∈ nds, n.ok nds.length) ∧ nds.length ≤ 1300 ∧
  H tl = some (.lst (tbF f nds.length)) ∧ H ea = some (.lst ws) ∧ Reps H ws (rowD ixD es) ∧ (∀ e ∈ es, e.ok nds.length) ∧ es.length ≤ 100 ∧ ∀ H', Same H H' → Q (.bl true) H'
section
variable {P : Program} {w : World} {K : PySem.W.Frag} {mg : Str → Option Value} {base : Heap} {C CT : Addr} {st : Nat}
theorem ok__law_asked (T : Txt K w mg) (BK : BkM P w K mg base C CT st) (Ow : OkD P w K mg base CX0 3 "_law_walk" p__law_walk spWalk) (Os : OkD P w K mg base CX0 3 "_law_sent" p__law_sent spSent) (Oe : OkD P w K mg base CX0 10 "_law_same" p__law_same (spSame K 9))
    (Og : OkD P w K mg base CX0 4 "_law_graph" p__law_graph spLGraph) : OkD P w K mg base CX0 11 "_law_asked" p__law_asked (spAsked K C CT st) := by
  refine T.g__law_asked.ok sc__law_asked (fun vs H Q E h => ?_) (fun f cdv A outer s H vs Q E hr h => ?_)
  · obtain ⟨B, td, nb, tl, ea, L, f, as, rs, nds, ws, es, rfl, _⟩ := h; rfl
  obtain ⟨B, td, nb, tl, ea, L, f, as, rs, nds, ws, es, rfl, Y, Z, X, nok, hN, ht, he, re, oe, hes, q⟩ := h
  have lim : (4000 : Nat) < sizeLine := by decide
  refine ⟨_, (pss_cons (ps_set (i := 4) sc__law_asked.nd rfl (.inl rfl) (pcall Ow hr (pa_cons (pv 3) (pa_cons (pv 1) pa_nil))))
      (pss_cons (ps_setLc (i := 5) (own := [("k", 9)]) (g := gName 9) (tt := tYes) rfl sc__law_asked.nd rfl rfl rfl (pi_list (pv 4)) (blkOk_by (own := [("k", 9)]) (N := n__law_asked) (sc := defScope s__law_asked) (by decide +kernel)) (fun _ _ _ _ _ => (pg_name (i := 9) sc__law_asked.nd rfl (Or.inl rfl))) (fun _ _ _ _ _ => pts_nil) (fun _ _ _ _ _ => (pe_ix (show IxR _ (rIxL K) from ix_list) (pv 2) (pv 9) (fun _ _ => rfl))))
      (pss_cons (ps_set (i := 6) sc__law_asked.nd rfl (.inl rfl) (pcall Os hr (pa_cons (pv 3) (pa_cons (pv 2) pa_nil))))
      (pss_cons (ps_set (i := 7) sc__law_asked.nd rfl (.inl rfl) (pe_callTy call_list_of (by rfl) T.z_list PyProof.Rows.boot_list (pa_cons (pv 6) pa_nil)))
      (pss_cons (ps_set (i := 8) sc__law_asked.nd rfl (.inl rfl) (pmethE BK.reach BK.cl hr pass0 (pv 0) (pa_cons (pv 6) pa_nil)))
      (pss_cons (ps_if (PW.pt (pw_and (pt_not (pt_val (pe_callB call_isi (by rfl) T.z_isinstance PyProof.Rows.boot_isinstance (pa_cons (pv 8) (pa_cons (pe_bltn (v := .ty "list") rfl T.z_list PyProof.Rows.boot_list rfl) pa_nil))))) (pw_and1 (pt_not (pt_val (pe_callB call_isi (by rfl) T.z_isinstance PyProof.Rows.boot_isinstance (pa_cons (pv 8) (pa_cons (pe_bltn (v := .ty "tuple") rfl T.z_tuple PyProof.Rows.boot_tuple rfl) pa_nil)))))))) (pss_one (ps_ret pe_bl)) pss_nil)
      (pss_cons (ps_if (pt_not (pt_val (pcall Oe hr (pa_cons (pe_callTy call_list_of (by rfl) T.z_list PyProof.Rows.boot_list (pa_cons (pv 8) pa_nil)) (pa_cons (pv 5) pa_nil))))) (pss_one (ps_ret pe_bl)) pss_nil)
      (pss_cons (ps_if (pt_not (pt_val (pcall Oe hr (pa_cons (pmethE BK.graph BK.cl hr pass0 (pv 0) (pa_cons (pv 6) pa_nil)) (pa_cons (pcall Og hr (pa_cons (pv 3) (pa_cons (pv 1) (pa_cons (pv 4) pa_nil)))) pa_nil))))) (pss_one (ps_ret pe_bl)) pss_nil)
      (pss_cons (ps_if (pt_val (pe_callB call_isi (by rfl) T.z_isinstance PyProof.Rows.boot_isinstance (pa_cons (pv 8) (pa_cons (pe_bltn (v := .ty "list") rfl T.z_list PyProof.Rows.boot_list rfl) pa_nil)))) (pss_one (ps_expr (pe_bm PySem.F.plainAttrs_list PySem.F.slot_list_append PySem.F.type_list_append mt_append (pv 8) (pa_cons (pe_un un_neg pe_int) pa_nil)))) pss_nil)
      (pss_one (ps_ret (pe_and (pcall Oe hr (pa_cons (pe_callTy call_list_of (by rfl) T.z_list PyProof.Rows.boot_list (pa_cons (pmethE BK.reach BK.cl hr pass0 (pv 0) (pa_cons (pv 6) pa_nil)) pa_nil)) (pa_cons (pv 5) pa_nil))) (pe_one (pcall Oe hr (pa_cons (pv 6) (pa_cons (pv 7) pa_nil)))))))))))))))), ?_⟩
  have rok : ∀ n ∈ nds, ∀ e ∈ n.row, e.ok nds.length := fun n hn => (nok n hn).row
  have CL := reachN_clo (es := es) rok oe
  obtain ⟨R, eR⟩ : ∃ R, R = reachN nds es := ⟨_, rfl⟩
  refine ⟨_, rfl, _, rfl, ea, nb, as, rs, nds, ws, es, rfl, X, rok, by omega, he, re, oe, fun fd H1 s1 ffd hfd => ?_⟩
  rw [← eR] at CL hfd
  have lR := nodup_le _ CL.nd CL.lt
  -- due
  refine ⟨_, rfl, fd, rfl, ⟨_, SqL.of hfd⟩, fun du hdu => ?_⟩
  refine lc_it (walk_list (xs := nats R)) (fun i H' => Same H1 H' ∧ H' du = some (.lst (ordV f (R.take i)))) ⟨same_new hdu _, upd_same⟩ (fun i H' _ h => SqL.of (h.1 _ _ hfd)) ?_ ?_
  · rintro i x H3 H4 hi ⟨s3, h3⟩ ⟨rfl, hx⟩
    rw [nats_len] at hi
    unfold nats at hx
    rw [List.getElem?_map, List.getElem?_eq_getElem hi] at hx
    have hx := Option.some.inj hx
    subst hx
    refine ⟨rfl, iteT (B := True) (iteT ?_)⟩
    refine ⟨_, rfl, _, rfl, tl, _, _, _, rfl, rfl, SqL.of ((s1.trans s3) _ _ ht), atI_nat (tbF_at (CL.lt _ (List.getElem_mem hi))), _, h3, by rw [ordV_len, List.length_take]; omega, same_grow s3 hdu, ?_⟩
    rw [upd_same, take_next hi, ordV_app]; rfl
  rintro H2 ⟨s2, hd2⟩
  rw [nats_len, List.take_length] at hd2
  have S2 := s1.trans s2
  -- handed
  refine ⟨_, rfl, _, rfl, ea, tl, ws, es, f, nds.length, rfl, S2 _ _ he, re.mono (.same S2), oe, hes, S2 _ _ ht, fun ha us H3 s3 fha hha ru => ?_⟩
  refine ⟨_, rfl, ha, us, rfl, .inl (SqL.of hha), fun kp hkp => ?_⟩
  have s4 := same_new hkp (.lst us)
  have hk4 : upd H3 kp (.lst us) kp = some (.lst us) := upd_same
  have S4 := S2.trans (s3.trans s4)
  have hh4 := s4 _ _ hha
  have hd4 := (s3.trans s4) _ _ hd2
  have hf4 := (s2.trans (s3.trans s4)) _ _ hfd
  have ru4 := ru.mono (.same s4)
  generalize upd H3 kp (.lst us) = H4 at hk4 S4 hh4 hd4 hf4 ru4
  have ul : us.length = es.length := by rw [ru4.len, rowD_len]
  -- reach
  have rch : ∀ {H' : Hp}, Same H4 H' → ∃ (B' td' a : Addr) (L' : List Th) (more : List (Str × V)) (f' : Nat → Int) (nds' : List Nd) (ws' : List V) (es' : List Ent), [V.ref B, V.ref ha] = [.ref B', .ref a] ∧ BkA K C CT H' B' td' more L' ∧ List.lookup (Str.ofString "meet_all") ((fThings, V.ref td') :: more) = none ∧ List.lookup (Str.ofString "reach") ((fThings, V.ref td') :: more) = none ∧
      Vw L' f' nds' ∧ (∀ n ∈ nds', n.ok nds'.length) ∧ nds'.length ≤ 2000 ∧ H' a = some (.lst ws') ∧ Reps H' ws' (rowD f' es') ∧ (∀ e ∈ es', e.ok nds'.length) ∧ es'.length ≤ 100 ∧ nds' = nds ∧ es' = es ∧ f' = f := fun s => by
    obtain ⟨more, Y', M⟩ := (Y.same (S4.trans s)).bk
    obtain ⟨_, _, _, _, m5, m6, m7⟩ := M.look td
    exact ⟨B, td, ha, L, more, f, nds, us, es, rfl, Y', m7, m5, Z, nok, by omega, s _ _ hh4, ru4.mono (.same s), oe, hes, rfl, rfl, rfl⟩
  obtain ⟨dx, fs, hB, _, _, _, k4, k5⟩ := (Y.same S4).ins
  refine ⟨_, rfl, B, dx, fs, rfl, hB, k4, _, rfl, ?_⟩
  obtain ⟨B', td', a', L', more, f', nds', ws', es', e0, Y4, m7, m5, Z4, nok4, hN4, h4, ru5, oe4, hes4, rfl, rfl, rfl⟩ := rch (.refl H4)
  refine ⟨B', td', a', L', more, f', nds', ws', es', e0, Y4, m7, Z4, fun n hn => (nok4 n hn).row, hN4, h4, ru5, oe4, fun ro H5 s5 fro hro => ?_⟩
  rw [← eR] at hro
  have b1 : kitB "list" "list" = some true := by decide +kernel
  have isl : ∀ {H' : Hp} {a : Addr} {vs : List V}, H' a = some (.lst vs) → TyX K H' (.ref a) (.type "list") := fun h => .base (.lst h)
  refine ⟨_, rfl, _, _, _, _, _, rfl, .ty _, isl hro, kit_ty b1, _, rfl, iteF ?_⟩
  refine ⟨_, rfl, ro, _, rfl, .inl (SqL.of hro), fun l6 hl6 => ?_⟩
  have s6 := same_new hl6 (.lst (ordV f' R))
  have S56 := s5.trans s6
  have h66 : upd H5 l6 (.lst (ordV f' R)) l6 = some (.lst (ordV f' R)) := upd_same
  refine ⟨_, rfl, _, _, rfl, ⟨_, rfl, iteF ?_⟩, .inl ⟨true, l6, du, _, _, ordD f' R, rfl, rfl, h66, S56 _ _ hd4, reps_ord R, reps_ord R, by rw [ordV_len]; omega, by have := deps_ord f' R; omega⟩⟩
  have hr6 := s6 _ _ hro
  generalize upd H5 l6 (.lst (ordV f' R)) = H6 at S56 hr6
  -- graph
  obtain ⟨dx6, fs6, hB6, _, _, _, _, k56⟩ := (Y.same (S4.trans S56)).ins
  obtain ⟨B6, td6, a6, L6, more6, f6, nds6, ws6, es6, e06, Y6, m76, m56, Z6, nok6, hN6, h6, ru6, oe6, hes6, rfl, rfl, rfl⟩ := rch S56
  refine ⟨_, rfl, B, dx6, fs6, rfl, hB6, k56, _, rfl, B6, td6, a6, L6, more6, f6, nds6, ws6, es6, e06, Y6, m76, m56, Z6, nok6, hN6, h6, ru6, oe6, hes6, fun v H7 s7 rv => ?_⟩
  have S47 := S56.trans s7
  refine ⟨_, rfl, _, rfl, _, rfl, ea, nb, fd, as, rs, nds6, ws, es6, rfl, X.same (S4.trans S47), nok6, hN6, (S4.trans S47) _ _ he, re.mono (.same (S4.trans S47)), oe6, hes6, by rw [← eR]; exact S47 _ _ hf4, fun u H8 s8 ru8 => ?_⟩
  refine ⟨_, _, rfl, ⟨_, rfl, iteF ?_⟩, .inr ⟨_, rv.mono (.same s8), ru8, by have := graph_dep nok6 oe6; omega⟩⟩
  have S48 := S47.trans s8
  have hr8 := (s7.trans s8) _ _ hr6
  refine ⟨_, rfl, _, _, _, _, _, rfl, .ty _, isl hr8, kit_ty b1, _, rfl, iteT ?_⟩
  refine ⟨_, rfl, .inl ⟨rfl, _, SqL.of hr8⟩, 5, rfl, ro, _, _, rfl, rfl, hr8, by rw [ordV_len]; omega, ?_⟩
  have S49 := same_grow (o := .lst (ordV f6 R ++ [.int (-5)])) S48 fro
  generalize upd H8 ro (.lst (ordV f6 R ++ [.int (-5)])) = H9 at S49
  obtain ⟨dx9, fs9, hB9, _, _, _, k49, _⟩ := (Y.same (S4.trans S49)).ins
  refine ⟨_, rfl, B, dx9, fs9, rfl, hB9, k49, _, rfl, ?_⟩
  obtain ⟨B9, td9, a9, L9, more9, f9, nds9, ws9, es9, e09, Y9, m79, m59, Z9, nok9, hN9, h9, ru9, oe9, hes9, rfl, rfl, rfl⟩ := rch S49
  refine ⟨B9, td9, a9, L9, more9, f9, nds9, ws9, es9, e09, Y9, m79, Z9, fun n hn => (nok9 n hn).row, hN9, h9, ru9, oe9, fun r2 H10 s10 fr2 hr2 => ?_⟩
  rw [← eR] at hr2
  refine ⟨r2, _, rfl, .inl (SqL.of hr2), fun l11 hl11 => ?_⟩
  have s11 := same_new hl11 (.lst (ordV f9 R))
  have S411 := S49.trans (s10.trans s11)
  have h11 : upd H10 l11 (.lst (ordV f9 R)) l11 = some (.lst (ordV f9 R)) := upd_same
  refine ⟨_, rfl, _, _, rfl, ⟨_, rfl, iteT ?_⟩, .inl ⟨true, l11, du, _, _, ordD f9 R, rfl, rfl, h11, S411 _ _ hd4, reps_ord R, reps_ord R, by rw [ordV_len]; omega, by have := deps_ord f9 R; omega⟩⟩
  generalize upd H10 l11 (.lst (ordV f9 R)) = H11 at S411
  refine ⟨_, rfl, _, rfl, _, _, rfl, q _ (S4.trans S411), .inl ⟨true, ha, kp, _, _, rowD f9 es9, rfl, rfl, S411 _ _ hh4, S411 _ _ hk4, ru4.mono (.same S411), ru4.mono (.same S411), by omega, by have := rowD_dep (f := f9) oe9; omega⟩⟩
end
end D0
namespace D0
open PySem PySem.Spec PyProof.Rows L2 SX NumText
structure Bx where
  B : Addr
  td : Addr
  tl : Addr
  L : List Th
  f : Nat → Int
def Bx.F (x : Bx) : List Addr := FB x.B x.td x.L
def clJ (CS CH : Addr) (j : Nat) : Addr := if j = 2 then CH else CS
def stJ (j : Nat) : Nat := if j = 2 then 2 else 1
def putJ {α : Type} (x : Nat → α) (j : Nat) (y : α) : Nat → α := fun i => if i = j then y else x i
theorem putJ_same {α : Type} {x : Nat → α} {j : Nat} {y : α} : putJ x j y j = y := by unfold putJ; rw [if_pos rfl]
theorem putJ_ne {α : Type} {x : Nat → α} {i j : Nat} {y : α} (h : i ≠ j) : putJ x j y i = x i := by unfold putJ; rw [if_neg h]
/-- three banks and a book, seen from a heap without them -/
structure Wg (K : PySem.W.Frag) (CS CH CT : Addr) (H1 H : Hp) (nb : Addr) (as rs : List Addr) (nds : List Nd) (nn : Nat → List Nd) (x : Nat → Bx) : Prop where
  sm : Same H1 H
  bo : BoA H nb as rs nds
  bk : ∀ j, j < 3 → BkB K (clJ CS CH j) CT (stJ j) H (x j).B (x j).td (x j).L
  vw : ∀ j, j < 3 → Vw (x j).L (x j).f (nn j)
  f1 : ∀ j, j < 3 → ∀ a ∈ (x j).F, H1 a = none
  fn : ∀ a ∈ FN nb as rs, H1 a = none
  dj : ∀ i j, i < 3 → j < 3 → i ≠ j → ∀ a ∈ (x i).F, a ∉ (x j).F
  dn : ∀ j, j < 3 → ∀ a ∈ FN nb as rs, a ∉ (x j).F
section
variable {K : PySem.W.Frag} {CS CH CT : Addr} {H1 H H' : Hp} {nb : Addr} {as rs : List Addr} {nds nds' : List Nd} {nn : Nat → List Nd} {x : Nat → Bx}
/-- a is of no bank, not of the book -/
def Out (nb : Addr) (as rs : List Addr) (x : Nat → Bx) (a : Addr) : Prop := a ∉ FN nb as rs ∧ ∀ j, j < 3 → a ∉ (x j).F
theorem Wg.fresh (W : Wg K CS CH CT H1 H nb as rs nds nn x) {a : Addr} (h : H a = none) : Out nb as rs x a := ⟨fun m => W.bo.here a m h, fun j hj m => (W.bk j hj).here a m h⟩
theorem Wg.out1 (W : Wg K CS CH CT H1 H nb as rs nds nn x) {a : Addr} (h : H1 a ≠ none) : Out nb as rs x a := ⟨fun m => h (W.fn a m), fun j hj m => h (W.f1 j hj a m)⟩
/-- what is of none changes -/
theorem Wg.chg (W : Wg K CS CH CT H1 H nb as rs nds nn x) {F : List Addr} (c : Chg F H H') (o : ∀ a ∈ F, Out nb as rs x a ∧ H1 a = none) : Wg K CS CH CT H1 H' nb as rs nds nn x :=
  ⟨fun a u e => c.keep a u (fun m => by rw [(o a m).2] at e; cases e) (W.sm a u e), W.bo.frame c (fun a ha m => (o a m).1.1 ha), fun j hj => (W.bk j hj).frame c (fun a ha m => (o a m).1.2 j hj ha), W.vw, W.f1, W.fn, W.dj, W.dn⟩
theorem Wg.same (W : Wg K CS CH CT H1 H nb as rs nds nn x) (s : Same H H') : Wg K CS CH CT H1 H' nb as rs nds nn x := W.chg (F := []) (.same s) (fun a h => by cases h)
theorem Wg.stp (W : Wg K CS CH CT H1 H nb as rs nds nn x) {b : Addr} (s : Stp b H H') (o : Out nb as rs x b) (h : H1 b = none) : Wg K CS CH CT H1 H' nb as rs nds nn x :=
  W.chg s.chg fun a ha => by rw [List.mem_singleton.mp ha]; exact ⟨o, h⟩
/-- one bank changes -/
theorem Wg.bank (W : Wg K CS CH CT H1 H nb as rs nds nn x) {j : Nat} (hj : j < 3) {y : Bx} {n : List Nd} {F : List Addr} (c : Chg F H H') (o : ∀ a ∈ F, a ∈ (x j).F ∨ (Out nb as rs x a ∧ H1 a = none))
    (Y : BkB K (clJ CS CH j) CT (stJ j) H' y.B y.td y.L) (V : Vw y.L y.f n) (f : ∀ a ∈ y.F, a ∈ (x j).F ∨ H a = none) : Wg K CS CH CT H1 H' nb as rs nds (putJ nn j n) (putJ x j y) := by
  have old : ∀ i, i < 3 → i ≠ j → ∀ a ∈ F, a ∉ (x i).F := fun i hi ne a ha m => by
    rcases o a ha with h | h
    · exact W.dj i j hi hj ne a m h
    · exact h.1.2 i hi m
  refine ⟨fun a u e => c.keep a u (fun m => ?_) (W.sm a u e), W.bo.frame c (fun a ha m => ?_), fun i hi => ?_, fun i hi => ?_, fun i hi a ha => ?_, W.fn, fun i k hi hk ne a ha m => ?_, fun i hi a ha m => ?_⟩
  · rcases o a m with h | h
    · rw [W.f1 j hj a h] at e; cases e
    · rw [h.2] at e; cases e
  · rcases o a m with h | h
    · exact W.dn j hj a ha h
    · exact h.1.1 ha
  · by_cases e : i = j
    · subst e; rw [putJ_same]; exact Y
    · rw [putJ_ne e]; exact (W.bk i hi).frame c (fun a ha m => old i hi e a m ha)
  · by_cases e : i = j
    · subst e; rw [putJ_same, putJ_same]; exact V
    · rw [putJ_ne e, putJ_ne e]; exact W.vw i hi
  · by_cases e : i = j
    · subst e
      rw [putJ_same] at ha
      rcases f a ha with h | h
      · exact W.f1 i hi a h
      · exact live_same W.sm a h
    · rw [putJ_ne e] at ha; exact W.f1 i hi a ha
  · by_cases e1 : i = j <;> by_cases e2 : k = j
    · exact ne (by rw [e1, e2])
    · subst e1
      rw [putJ_same] at ha
      rw [putJ_ne e2] at m
      rcases f a ha with h | h
      · exact W.dj i k hi hk ne a h m
      · exact (W.bk k hk).here a m h
    · subst e2
      rw [putJ_same] at m
      rw [putJ_ne e1] at ha
      rcases f a m with h | h
      · exact W.dj i k hi hk ne a ha h
      · exact (W.bk i hi).here a ha h
    · rw [putJ_ne e1] at ha
      rw [putJ_ne e2] at m
      exact W.dj i k hi hk ne a ha m
  · by_cases e : i = j
    · subst e
      rw [putJ_same] at m
      rcases f a m with h | h
      · exact W.dn i hi a ha h
      · exact W.bo.here a ha h
    · rw [putJ_ne e] at m; exact W.dn i hi a ha m
/-- the book changes -/
theorem Wg.book (W : Wg K CS CH CT H1 H nb as rs nds nn x) {r : Addr} (hr : r ∈ FN nb as rs) (c : Chg [r] H H') (N : BoA H' nb as rs nds') : Wg K CS CH CT H1 H' nb as rs nds' nn x :=
  ⟨fun a u e => c.keep a u (fun m => by rw [List.mem_singleton.mp m, W.fn r hr] at e; cases e) (W.sm a u e), N, fun j hj => (W.bk j hj).frame c (fun a ha m => W.dn j hj r hr (by rw [← List.mem_singleton.mp m]; exact ha)), W.vw, W.f1, W.fn, W.dj, W.dn⟩
end
def banksV (x : Nat → Bx) : List V := [.ref (x 0).B, .ref (x 1).B, .ref (x 2).B]
def tabsV (x : Nat → Bx) : List V := [.ref (x 0).tl, .ref (x 1).tl, .ref (x 2).tl]
theorem banksV_at {x : Nat → Bx} {j : Nat} (h : j < 3) : atI (banksV x) (j : Int) = some (.ref (x j).B) := by
  rcases (by omega : j = 0 ∨ j = 1 ∨ j = 2) with rfl | rfl | rfl <;> rfl
theorem tabsV_at {x : Nat → Bx} {j : Nat} (h : j < 3) : atI (tabsV x) (j : Int) = some (.ref (x j).tl) := by
  rcases (by omega : j = 0 ∨ j = 1 ∨ j = 2) with rfl | rfl | rfl <;> rfl
def spAll (K : PySem.W.Frag) (CS CH CT : Addr) : Sp := fun vs H Q _ => ∃ (H1 : Hp) (pb pt nb ea : Addr) (as rs : List Addr) (nds : List Nd) (x : Nat → Bx) (ws : List V) (es : List Ent) (sg : Nat), vs = [.ref pb, .ref pt, .ref nb, .ref ea, .int sg] ∧ Wg K CS CH CT H1 H nb as rs nds (fun _ => nds) x ∧ (∀ n ∈ nds, n.ok nds.length) ∧ nds.length ≤ 1300 ∧
  H pb = some (.lst (banksV x)) ∧ H pt = some (.lst (tabsV x)) ∧ (∀ j, j < 3 → H (x j).tl = some (.lst (tbF (x j).f nds.length))) ∧ H ea = some (.lst ws) ∧ Reps H ws (rowD ixD es) ∧ (∀ e ∈ es, e.ok nds.length) ∧ es.length ≤ 100 ∧ sg ≤ nds.length ∧ sg ≤ 100 ∧ ∀ H', Same H H' → Q (.bl true) H'
section
variable {P : Program} {w : World} {K : PySem.W.Frag} {mg : Str → Option Value} {base : Heap} {CS CH CT : Addr}
theorem ok__law_all (T : Txt K w mg) (OaS : OkD P w K mg base CX0 11 "_law_asked" p__law_asked (spAsked K CS CT 1)) (OaH : OkD P w K mg base CX0 11 "_law_asked" p__law_asked (spAsked K CH CT 2)) : OkD P w K mg base CX0 12 "_law_all" p__law_all (spAll K CS CH CT) := by
  have Oa : OkD P w K mg base CX0 11 "_law_asked" p__law_asked (fun vs H Q E => ∃ j, j < 3 ∧ spAsked K (clJ CS CH j) CT (stJ j) vs H Q E) := (OaS.or OaH).imp fun vs H Q E h => by
    obtain ⟨j, hj, h⟩ := h
    by_cases e : j = 2
    · subst e; exact .inr h
    · have e1 : clJ CS CH j = CS := if_neg e
      have e2 : stJ j = 1 := if_neg e
      rw [e1, e2] at h; exact .inl h
  refine T.g__law_all.ok sc__law_all (fun vs H Q E h => ?_) (fun f cdv A outer s H vs Q E hr h => ?_)
  · obtain ⟨H1, pb, pt, nb, ea, as, rs, nds, x, ws, es, sg, rfl, _⟩ := h; rfl
  obtain ⟨H1, pb, pt, nb, ea, as, rs, nds, x, ws, es, sg, rfl, W, nok, hN, hpb, hpt, htl, he, re, oe, hes, sgN, sg100, q⟩ := h
  have lim : (4000 : Nat) < sizeLine := by decide
  refine ⟨_, (pss_cons (ps_for PassesOwn.never rfl (pi_range1 rfl T.z_range (pa_cons pe_int pa_nil)) (pg_name (i := 5) sc__law_all.nd rfl (Or.inl rfl)) (pss_cons (ps_if (pt_not (pt_val (pcall Oa hr (pa_cons (pe_ix ix_list (pv 0) (pv 5) (fun _ _ => rfl)) (pa_cons (pv 2) (pa_cons (pe_ix ix_list (pv 1) (pv 5) (fun _ _ => rfl)) (pa_cons (pv 3) pa_nil))))))) (pss_one (ps_ret pe_bl)) pss_nil)
      (pss_cons (ps_if (pt_not (pt_val (pcall Oa hr (pa_cons (pe_ix ix_list (pv 0) (pv 5) (fun _ _ => rfl)) (pa_cons (pv 2) (pa_cons (pe_ix ix_list (pv 1) (pv 5) (fun _ _ => rfl)) (pa_cons (pe_lst pa_nil) pa_nil))))))) (pss_one (ps_ret pe_bl)) pss_nil)
      (pss_one (ps_for PassesOwn.never rfl (pi_range1 rfl T.z_range (pa_cons (pv 4) pa_nil)) (pg_name (i := 6) sc__law_all.nd rfl (Or.inl rfl)) (pss_one (ps_if (pt_not (pt_val (pcall Oa hr (pa_cons (pe_ix ix_list (pv 0) (pv 5) (fun _ _ => rfl)) (pa_cons (pv 2) (pa_cons (pe_ix ix_list (pv 1) (pv 5) (fun _ _ => rfl)) (pa_cons (pe_lst (pa_cons (pe_tup (pa_cons pe_str (pa_cons (pv 6) pa_nil))) pa_nil)) pa_nil))))))) (pss_one (ps_ret pe_bl)) pss_nil)))))))
      (pss_one (ps_ret pe_bl))), ?_⟩
  have ask : ∀ {H' : Hp} {ea' : Addr} {ws' : List V} {es' : List Ent} {j : Nat} {R : VK} {E' : XK}, j < 3 → Same H H' → H' ea' = some (.lst ws') → Reps H' ws' (rowD ixD es') → (∀ e ∈ es', e.ok nds.length) → es'.length ≤ 100 → (∀ H'', Same H' H'' → R (.bl true) H'') →
      ∃ i, i < 3 ∧ spAsked K (clJ CS CH i) CT (stJ i) [.ref (x j).B, .ref nb, .ref (x j).tl, .ref ea'] H' R E' := fun {H' ea' ws' es' j R E'} hj s h1 h2 h3 h4 h5 =>
    ⟨j, hj, (x j).B, (x j).td, nb, (x j).tl, ea', (x j).L, (x j).f, as, rs, nds, ws', es', rfl, (W.bk j hj).same s, W.vw j hj, W.bo.same s, nok, hN, s _ _ (htl j hj), h1, h2, h3, h4, h5⟩
  refine ⟨3, rfl, by decide, by decide, ?_⟩
  refine for_range (lo := 0) (n := 3) (fun i σ H' => ∃ o5 o6, σ = [some (.ref pb), some (.ref pt), some (.ref nb), some (.ref ea), some (.int (sg : Nat)), o5, o6] ∧ Same H H') ⟨none, none, rfl, .refl _⟩ ?_ ?_
  · rintro j σ H2 hj ⟨o5, o6, rfl, s2⟩
    have bat : ∀ {H' : Hp}, Same H H' → SqL K H' pb (banksV x) := fun s => SqL.of (s _ _ hpb)
    have tat : ∀ {H' : Hp}, Same H H' → SqL K H' pt (tabsV x) := fun s => SqL.of (s _ _ hpt)
    have a1 : atI (banksV x) (0 + (j : Int)) = some (.ref (x j).B) := by rw [Int.zero_add]; exact banksV_at hj
    have a2 : atI (tabsV x) (0 + (j : Int)) = some (.ref (x j).tl) := by rw [Int.zero_add]; exact tabsV_at hj
    refine ⟨_, rfl, _, rfl, pb, _, _, _, rfl, rfl, bat s2, a1, _, rfl, _, rfl, _, rfl, pt, _, _, _, rfl, rfl, tat s2, a2, _, rfl, ?_⟩
    refine ask hj s2 (s2 _ _ he) (re.mono (.same s2)) oe hes (fun H3 s3 => ⟨true, rfl, iteF ?_⟩)
    have S3 := s2.trans s3
    refine ⟨_, rfl, _, rfl, pb, _, _, _, rfl, rfl, bat S3, a1, _, rfl, _, rfl, _, rfl, pt, _, _, _, rfl, rfl, tat S3, a2, Nat.zero_le _, fun l4 hl4 => ?_⟩
    have S4 := S3.trans (same_new hl4 (.lst []))
    refine ask (es' := []) hj S4 upd_same .nil (fun e h => by cases h) (Nat.zero_le _) (fun H5 s5 => ⟨true, rfl, iteF ?_⟩)
    have S5 := S4.trans s5
    refine ⟨_, rfl, _, rfl, by omega, by omega, ?_⟩
    refine for_range (lo := 0) (n := sg) (fun i σ H' => ∃ o6, σ = [some (.ref pb), some (.ref pt), some (.ref nb), some (.ref ea), some (.int (sg : Nat)), some (.int (0 + (j : Int))), o6] ∧ Same H H') ⟨o6, rfl, S5⟩ ?_ ?_
    · rintro k σ H6 hk ⟨o6, rfl, s6⟩
      refine ⟨_, rfl, _, rfl, pb, _, _, _, rfl, rfl, bat s6, a1, _, rfl, _, rfl, _, rfl, pt, _, _, _, rfl, rfl, tat s6, a2, _, rfl, by show 2 ≤ sizeLine; omega, fun p hp => ⟨by show 1 ≤ sizeLine; omega, fun l7 hl7 => ?_⟩⟩
      have s7 := same_new hp (.tup [.str (Str.ofString "ref"), .int (0 + (k : Int))])
      have s8 := same_new hl7 (.lst [.ref p])
      have rp : Reps _ [.ref p] (rowD ixD [.pl (.ref k)]) := reps_ref (s8 _ _ (upd_same (H := H6) (a := p) (o := .tup [.str (Str.ofString "ref"), .int (0 + (k : Int))]))) (by unfold ixD; omega)
      refine ask hj (s6.trans (s7.trans s8)) upd_same rp (fun e h => by rw [List.mem_singleton.mp h]; show k < _; omega) (by show 1 ≤ 100; omega) (fun H9 s9 => ⟨true, rfl, iteF ⟨_, rfl, s6.trans (s7.trans (s8.trans s9))⟩⟩)
    · rintro σ H6 ⟨o6, rfl, s6⟩
      exact ⟨_, _, rfl, s6⟩
  · rintro σ H2 ⟨o5, o6, rfl, s2⟩
    exact q _ s2
end
end D0
namespace D0
open PySem PySem.Spec PyProof.Rows L2 SX NumText
def tTru (K : PySem.W.Frag) (te : TE) : TT := fun σ H Q => te σ H fun x H' => ∃ k, TruV K x H' k ∧ Q k H'
theorem rowD_set (f : Nat → Int) (es : List Ent) (i : Nat) (e : Ent) : (rowD f es).set i (e.d f) = rowD f (es.set i e) := by unfold rowD; rw [List.map_set]
theorem Vw.set {L : List Th} {f : Nat → Int} {nds : List Nd} (Z : Vw L f nds) {k i : Nat} {n : Nd} {x : Th} {e : Ent} (hn : nds[k]? = some n) (hx : x ∈ L) (ek : x.key = f k) (e2 : x.kind = n.kind) (e3 : x.tag = n.tag) (e4 : x.row = rowD f n.row) :
    Vw (putT { x with row := x.row.set i (e.d f) } L) f (nds.set k ⟨n.kind, n.tag, n.row.set i e⟩) := by
  obtain ⟨hk, _⟩ := List.getElem?_eq_some_iff.mp hn
  refine ⟨fun j m hm => ?_, fun a b ha hb h => Z.inj a b (by rw [List.length_set] at ha; exact ha) (by rw [List.length_set] at hb; exact hb) h⟩
  rw [List.getElem?_set] at hm
  by_cases c : k = j
  · subst c
    rw [if_pos rfl, if_pos hk] at hm
    cases hm
    exact ⟨_, putT_self (x := { x with row := x.row.set i (e.d f) }) hx rfl, ek, e2, e3, by show x.row.set i (e.d f) = _; rw [e4, rowD_set]⟩
  · rw [if_neg c] at hm
    obtain ⟨y, hy, f1, f2, f3, f4⟩ := Z.at_ j m hm
    obtain ⟨hj, _⟩ := List.getElem?_eq_some_iff.mp hm
    exact ⟨y, putT_mem hy (fun z => c (Z.inj k j hk hj (by rw [← f1, z]; exact ek.symm))), f1, f2, f3, f4⟩
theorem fb_put {B td : Addr} {L : List Th} {x x' : Th} (hx : x ∈ L) (et : x'.t = x.t) (es : x'.s = x.s) : ∀ a ∈ FB B td (putT x' L), a ∈ FB B td L := fun a ha => by
  rcases fb_cases ha with h | h | ⟨y, hy, h⟩ | ⟨y, hy, h⟩
  · rw [h]; simp [FB]
  · rw [h]; simp [FB]
  · rcases mem_putT hy with rfl | ⟨hy, _⟩
    · rw [h, et]; exact fb_t hx
    · rw [h]; exact fb_t hy
  · rcases mem_putT hy with rfl | ⟨hy, _⟩
    · rw [h, es]; exact fb_s hx
    · rw [h]; exact fb_s hy
theorem pmethJ {X : Cx} {CX : CXT} {k j0 : Nat} {ps ps2 : List Str} {sp : Addr → Nat → Sp} {E : XK} {m : Str} {pos apos : Pos} {o e : Expr} {es : List Expr} {ta : TE} {t : TA} {CS CH : Addr} {pl : Sem Bool} (O1 : OkM X.prog X.w X.K X.mg X.base CS CX k m ps (sp CS 1)) (O2 : OkM X.prog X.w X.K X.mg X.base CH CX k m ps2 (sp CH 2)) (c1 : Cls X.K CS) (c2 : Cls X.K CH) (hr : Room j0 X.A) (hx : Passes CX X E) (ho : PE X o ta) (ha : PA X (e :: es) t) (hj : k ≤ j0 := by first | decide | omega)
    (he : starEach (e :: es) X.env = (false, eval e X.env) :: starEach es X.env := by rfl) (hpl : (backTo pos (starEach es X.env)).any (·.1) = false := by rfl)
    (hm : eval (.Call (.Attribute o m apos) (e :: es) [] pos) X.env = (do
      let ov ← eval o X.env
      standAt apos.atName
      let (f, first) ← holding [ov] (getMethod ov m pl)
      callWith pos f first (backTo pos (starEach (e :: es) X.env)) (backToKw pos (keywordEach [] X.env))) := by rfl) :
    PE X (.Call (.Attribute o m apos) (e :: es) [] pos) (fun σ H Q => ∃ j, j < 3 ∧ tMeth (clJ CS CH j) m (sp (clJ CS CH j) (stJ j)) [] E ta t σ H Q) := by
  have p1 := pmethE O1 c1 hr hx ho ha hj he hpl hm
  have p2 := pmethE O2 c2 hr hx ho ha hj he hpl hm
  refine ⟨fun pins s σ H Q I h => ?_⟩
  obtain ⟨j, h3, h⟩ := h
  by_cases c : j = 2
  · subst c; exact p2.run pins s σ H Q I h
  · have e1 : clJ CS CH j = CS := if_neg c
    have e2 : stJ j = 1 := if_neg c
    rw [e1, e2] at h
    exact p1.run pins s σ H Q I h
def spSetL (K : PySem.W.Frag) (CS CH CT : Addr) : Sp := fun vs H Q _ => ∃ (H1 : Hp) (b pb pt nb pl er : Addr) (as rs : List Addr) (nds : List Nd) (x : Nat → Bx) (p0 e0 : List Nat), vs = [.ref b, .ref pb, .ref pt, .ref nb, .ref pl, .ref er] ∧ Bag H b ∧ Out nb as rs x b ∧ H1 b = none ∧ Wg K CS CH CT H1 H nb as rs nds (fun _ => nds) x ∧ (∀ n ∈ nds, n.ok nds.length) ∧ nds.length ≤ 1300 ∧
  H1 pb = some (.lst (banksV x)) ∧ H1 pt = some (.lst (tabsV x)) ∧ (∀ j, j < 3 → H1 (x j).tl = some (.lst (tbF (x j).f nds.length))) ∧ H1 pl = some (.lst (nats p0)) ∧ (∀ k ∈ p0, k < nds.length) ∧ p0.length ≤ 100 ∧ H1 er = some (.lst (nats e0)) ∧ (∀ k ∈ e0, k < nds.length) ∧ e0.length ≤ 100 ∧
  ∀ H' nds' x', Wg K CS CH CT H1 H' nb as rs nds' (fun _ => nds') x' → (∀ n ∈ nds', n.ok nds'.length) → nds'.length = nds.length → (∀ j, (x' j).B = (x j).B ∧ (x' j).tl = (x j).tl ∧ (x' j).f = (x j).f) → Q .non H'
section
variable {P : Program} {w : World} {K : PySem.W.Frag} {mg : Str → Option Value} {base : Heap} {CS CH CT : Addr}
theorem ok__law_set (T : Txt K w mg) (BS : BkM P w K mg base CS CT 1) (BH : BkM P w K mg base CH CT 2) (O : OkD P w K mg base CX0 1 "_law_take" p__law_take spTake) (Ofr : OkD P w K mg base CX0 1 "_law_free" p__law_free spFree)
    (Oen : OkD P w K mg base CX0 6 "_law_entry" p__law_entry spMarked) (Om : OkD P w K mg base CX0 1 "_law_marks" p__law_marks spMarks) (Omv : OkD P w K mg base CX0 2 "_law_moved" p__law_moved spMoved) : OkD P w K mg base CX0 12 "_law_set" p__law_set (spSetL K CS CH CT) := by
  refine T.g__law_set.ok sc__law_set (fun vs H Q E h => ?_) (fun f cdv A outer s H vs Q E hr h => ?_)
  · obtain ⟨H1, b, pb, pt, nb, pl, er, as, rs, nds, x, p0, e0, rfl, _⟩ := h; rfl
  obtain ⟨H1, b, pb, pt, nb, pl, er, as, rs, nds, x, p0, e0, rfl, hb, ob, fb, W, nok, hN, hpb, hpt, htl, hpl, pN, p100, her, eN, e100, q⟩ := h
  have lim : (4000 : Nat) < sizeLine := by decide
  have two : 2 ≤ sizeLine := by omega
  refine ⟨_, (pss_cons (ps_setLc (i := 6) (own := [("k", 14)]) (g := gName 14) rfl sc__law_set.nd rfl rfl rfl (pi_list (pv 4)) (blkOk_by (own := [("k", 14)]) (N := n__law_set) (sc := defScope s__law_set) (by decide +kernel)) (fun _ _ _ _ _ => (pg_name (i := 14) sc__law_set.nd rfl (Or.inl rfl))) (fun _ _ _ _ _ => (pts_one (show PT _ _ (tTru K (tCall spFree [] E0 (tCons (tOp (rIxL K) (tVar 3) (tVar 14)) tNil))) from pt_truth (pcall Ofr hr (pa_cons (pe_ix (show IxR _ (rIxL K) from ix_list) (pv 3) (pv 14) (fun _ _ => rfl)) pa_nil)) (fun _ => rfl)))) (fun _ _ _ _ _ => (pv 14)))
      (pss_cons (ps_if (pt_not (pt_truth (pv 6) (by intro _; rfl))) (pss_one (ps_ret pe_non)) pss_nil)
      (pss_cons (ps_set (i := 7) sc__law_set.nd rfl (.inl rfl) (pe_ix ix_list (pv 6) (pcall O hr (pa_cons (pv 0) (pa_cons (pe_callB call_len_seq (by rfl) T.z_len PySem.boot_len (pa_cons (pv 6) pa_nil)) pa_nil))) (fun _ _ => rfl)))
      (pss_cons (ps_set (i := 8) sc__law_set.nd rfl (.inl rfl) (pcall Ofr hr (pa_cons (pe_ix ix_list (pv 3) (pv 7) (fun _ _ => rfl)) pa_nil)))
      (pss_cons (ps_set (i := 9) sc__law_set.nd rfl (.inl rfl) (pe_ix ix_list (pv 8) (pcall O hr (pa_cons (pv 0) (pa_cons (pe_callB call_len_seq (by rfl) T.z_len PySem.boot_len (pa_cons (pv 8) pa_nil)) pa_nil))) (fun _ _ => rfl)))
      (pss_cons (ps_set (i := 10) sc__law_set.nd rfl (.inl rfl) (pcall Oen hr (pa_cons (pv 0) (pa_cons (pv 4) (pa_cons (pv 5) (pa_cons (pcall Om hr (pa_cons (pe_ix ix_list (pe_ix ix_list (pv 3) (pv 7) (fun _ _ => rfl)) pe_int (fun _ _ => rfl)) pa_nil)) pa_nil))))))
      (pss_cons (ps_set (i := 11) sc__law_set.nd rfl (.inl rfl) (pe_ix ix_list (pe_ix ix_list (pv 3) (pv 7) (fun _ _ => rfl)) pe_int (fun _ _ => rfl)))
      (pss_cons (ps_asg (pv 10) (pg_sub (pv 11) (pv 9) set_list))
      (pss_cons (ps_for PassesOwn.never rfl (pi_range1 rfl T.z_range (pa_cons pe_int pa_nil)) (pg_name (i := 12) sc__law_set.nd rfl (Or.inl rfl)) (pss_cons (ps_set (i := 13) sc__law_set.nd rfl (.inl rfl) (pe_ix ix_list (pv 2) (pv 12) (fun _ _ => rfl)))
      (pss_one (ps_expr (pmethJ (sp := fun C st => spSetSlot K C CT st) BS.set_slot BH.set_slot BS.cl BH.cl hr pass0 (pe_ix ix_list (pv 1) (pv 12) (fun _ _ => rfl)) (pa_cons (pe_tup (pa_cons pe_str (pa_cons (pe_ix ix_list (pv 13) (pv 7) (fun _ _ => rfl)) pa_nil))) (pa_cons (pv 9) (pa_cons (pcall Omv hr (pa_cons (pv 10) (pa_cons (pv 13) pa_nil))) pa_nil))))))))
      (pss_one (ps_ret pe_non))))))))))), ?_⟩
  have npl : pl ≠ b := fun z => by rw [z, fb] at hpl; cases hpl
  have ner : er ≠ b := fun z => by rw [z, fb] at her; cases her
  refine ⟨_, rfl, pl, rfl, ⟨_, SqL.of (W.sm _ _ hpl)⟩, fun D1 hD1 => ?_⟩
  have nD : D1 ≠ b := hb.ne hD1
  refine lc_it (walk_list (xs := nats p0)) (fun i H' => Same H H' ∧ ∃ hs, H' D1 = some (.lst (nats hs)) ∧ hs.length ≤ i ∧ ∀ k ∈ hs, ∃ n, nds[k]? = some n ∧ frees (S n.kind) n.row.length ≠ []) ⟨same_new hD1 _, [], upd_same, Nat.le_refl _, fun k h => by cases h⟩ (fun i H' _ h => SqL.of (h.1 _ _ (W.sm _ _ hpl))) ?_ ?_
  · rintro i y H3 H4 hi ⟨s3, hs, h3, l3, o3⟩ ⟨rfl, hx⟩
    rw [nats_len] at hi
    unfold nats at hx
    rw [List.getElem?_map, List.getElem?_eq_getElem hi] at hx
    have hx := Option.some.inj hx
    subst hx
    have hk := pN _ (List.getElem_mem hi)
    generalize p0[i] = k at hk
    obtain ⟨n, hni⟩ : ∃ n, nds[k]? = some n := ⟨_, List.getElem?_eq_getElem hk⟩
    have no := nok n (List.mem_of_getElem? hni)
    obtain ⟨a, r, tv, vs, ea, er', g, rt, g2, rr, vl⟩ := (W.bo.same s3).look hni
    refine ⟨rfl, ?_⟩
    refine ⟨_, rfl, _, rfl, nb, _, _, .ref a, rfl, rfl, SqL.of (s3 _ _ W.bo.h0), node_at ea, a, S n.kind, tv, r, vs, rfl, g, g2, by have := no.len; omega, fun p H5 s5 fp hp => ⟨_, .inl ⟨_, SqL.of hp, rfl⟩, ?_⟩⟩
    have s35 := s3.trans s5
    have h5 := s5 _ _ h3
    refine ite2 (fun c => ?_) (fun c => ⟨s35, hs, h5, by omega, o3⟩)
    refine ⟨_, rfl, _, h5, by rw [nats_len]; omega, same_grow s35 hD1, hs ++ [k], ?_, by simp; omega, fun k' hk' => ?_⟩
    · rw [upd_same, nats_app]; rfl
    · rcases List.mem_append.mp hk' with h | h
      · exact o3 k' h
      · rw [List.mem_singleton.mp h]
        refine ⟨n, hni, fun z => ?_⟩
        rw [vl, z] at c
        exact absurd c (by decide)
  rintro H2 ⟨s2, hs, h2, l2, o2⟩
  rw [nats_len] at l2
  have W2 := W.same s2
  refine ⟨_, rfl, _, .inl ⟨_, SqL.of h2, rfl⟩, ?_⟩
  cases hs with
  | nil => exact iteT (q H2 nds x W2 nok rfl (fun j => ⟨rfl, rfl, rfl⟩))
  | cons k0 hs0 =>
  refine iteF ?_
  obtain ⟨hs, ehs⟩ : ∃ hs, hs = k0 :: hs0 := ⟨_, rfl⟩
  rw [← ehs] at h2 l2 o2
  have hs0 : 0 < hs.length := by rw [ehs]; simp
  have b2 := hb.same s2
  refine ⟨_, rfl, _, rfl, _, rfl, D1, _, rfl, .inl (SqL.of h2), b, _, rfl, b2, (by rw [nats_len]; omega), (by rw [nats_len]; omega), fun r0 H3 r00 r01 x3 => ?_⟩
  rw [nats_len] at r01
  obtain ⟨j, rfl⟩ : ∃ j : Nat, r0 = (j : Int) := ⟨r0.toNat, by omega⟩
  have hj : j < hs.length := by omega
  refine ⟨D1, _, _, _, rfl, rfl, SqL.of (x3.keep _ _ nD h2), nats_at hj, ?_⟩
  obtain ⟨n, hn, hfr⟩ := o2 hs[j] (List.getElem_mem hj)
  generalize hs[j] = k at hn
  obtain ⟨hk, _⟩ := List.getElem?_eq_some_iff.mp hn
  have W3 := W2.stp x3 ob fb
  have no := nok n (List.mem_of_getElem? hn)
  obtain ⟨a, r, tv, vs, ea, er', g, rt, g2, rr, vl⟩ := W3.bo.look hn
  have nl := no.len
  refine ⟨_, rfl, _, rfl, nb, _, _, .ref a, rfl, rfl, SqL.of W3.bo.h0, node_at ea, ?_⟩
  refine ⟨a, S n.kind, tv, r, vs, rfl, g, g2, by omega, fun pp H4 s4 fpp hpp => ?_⟩
  rw [vl] at hpp
  have fl := frees_len (S n.kind) n.row.length
  have fl0 : 0 < (frees (S n.kind) n.row.length).length := by cases e : frees (S n.kind) n.row.length with | nil => exact absurd e hfr | cons => simp
  have npp : pp ≠ b := x3.b1.ne fpp
  refine ⟨_, rfl, _, rfl, _, rfl, pp, _, rfl, .inl (SqL.of hpp), b, _, rfl, x3.b1.same s4, (by rw [nats_len]; omega), (by rw [nats_len]; omega), fun r4 H5 r40 r41 x5 => ?_⟩
  rw [nats_len] at r41
  obtain ⟨j2, rfl⟩ : ∃ j : Nat, r4 = (j : Int) := ⟨r4.toNat, by omega⟩
  have hj2 : j2 < (frees (S n.kind) n.row.length).length := by omega
  refine ⟨pp, _, _, _, rfl, rfl, SqL.of (x5.keep _ _ npp hpp), nats_at hj2, ?_⟩
  have hi : (frees (S n.kind) n.row.length)[j2] < n.row.length := frees_lt (List.getElem_mem hj2)
  generalize (frees (S n.kind) n.row.length)[j2] = i at hi
  have W5 := (W3.same s4).stp x5 ob fb
  obtain ⟨a5, r5, tv5, vs5, ea5, er5, g5, rt5, g25, rr5, vl5⟩ := W5.bo.look hn
  have ee : a5 = a := Option.some.inj (ea5.symm.trans ea)
  subst ee
  refine ⟨_, rfl, _, rfl, _, rfl, _, rfl, _, rfl, nb, _, _, .ref a5, rfl, rfl, SqL.of W5.bo.h0, node_at ea5, a5, _, 0, _, rfl, rfl, SqL.of g5, rfl, S n.kind, rfl, fun mk => ?_⟩
  refine ⟨b, pl, er, nds.length, mk, rfl, x5.b1, ⟨npl, p0, W5.sm _ _ hpl, pN, by omega⟩, ⟨ner, e0, W5.sm _ _ her, eN, by omega⟩, fun v e H6 x6 oe re => ?_⟩
  have W6 := W5.stp x6 ob fb
  obtain ⟨a6, r6, tv6, vs6, ea6, er6, g6, rt6, g26, rr6, vl6⟩ := W6.bo.look hn
  have ee : a6 = a5 := Option.some.inj (ea6.symm.trans ea)
  subst ee
  refine ⟨_, rfl, _, rfl, nb, _, _, .ref a6, rfl, rfl, SqL.of W6.bo.h0, node_at ea6, a6, _, 2, _, rfl, rfl, SqL.of g6, rfl, ?_⟩
  refine ⟨_, rfl, _, rfl, _, rfl, r6, _, _, i, rfl, rfl, g26, ixN_nat (by omega), ?_⟩
  obtain ⟨N7, c7⟩ := W6.bo.setRow (vs := vs6.set i v) (row := n.row.set i e) hn er6 (by rw [← rowD_set]; exact rr6.set re)
  obtain ⟨nds', ends⟩ : ∃ nds', nds' = nds.set k ⟨n.kind, n.tag, n.row.set i e⟩ := ⟨_, rfl⟩
  rw [← ends] at N7
  have W7 := W6.book (by have := List.mem_of_getElem? er6; simp [FN, this]) c7 N7
  have re7 := re.mono c7.tups
  generalize upd H6 r6 (.lst (vs6.set i v)) = H7 at W7 re7
  have ln' : nds'.length = nds.length := by rw [ends, List.length_set]
  have nok' : ∀ m ∈ nds', m.ok nds'.length := fun m hm => by
    rw [ln']
    rw [ends] at hm
    rcases List.mem_or_eq_of_mem_set hm with h | h
    · exact nok m h
    · rw [h]
      refine ⟨no.tag, fun e' he' => ?_, by show (n.row.set i e).length ≤ 100; rw [List.length_set]; exact no.len⟩
      rcases List.mem_or_eq_of_mem_set he' with h | h
      · exact no.row e' h
      · rw [h]; exact oe
  refine ⟨3, rfl, by decide, by decide, ?_⟩
  refine for_range (lo := 0) (n := 3) (fun i0 σ H' => ∃ x' o12 o13, σ = [some (.ref b), some (.ref pb), some (.ref pt), some (.ref nb), some (.ref pl), some (.ref er), some (.ref D1), some (.int (k : Nat)), some (.ref pp), some (.int (i : Nat)), some v, some (.ref r6), o12, o13, none] ∧
    Wg K CS CH CT H1 H' nb as rs nds' (fun j => if j < i0 then nds' else nds) x' ∧ (∀ j, (x' j).B = (x j).B ∧ (x' j).tl = (x j).tl ∧ (x' j).f = (x j).f) ∧ Rep H' v (e.d ixD)) ⟨x, none, none, rfl, W7, fun j => ⟨rfl, rfl, rfl⟩, re7⟩ ?_ ?_
  · rintro j σ H8 hj ⟨x', o12, o13, rfl, W8, ex, re8⟩
    have hpb8 := W8.sm _ _ hpb
    have hpt8 := W8.sm _ _ hpt
    have a1 : atI (banksV x) (0 + (j : Int)) = some (.ref (x' j).B) := by rw [Int.zero_add, (ex j).1]; exact banksV_at hj
    have a2 : atI (tabsV x) (0 + (j : Int)) = some (.ref (x j).tl) := by rw [Int.zero_add]; exact tabsV_at hj
    refine ⟨_, rfl, _, rfl, pt, _, _, _, rfl, rfl, SqL.of hpt8, a2, j, hj, ?_⟩
    obtain ⟨dx, fs, hB, _, k2, _⟩ := (W8.bk j hj).ins
    have V8 := W8.vw j hj
    have V8 : Vw (x' j).L (x' j).f nds := by rw [if_neg (show ¬ j < j by omega)] at V8; exact V8
    refine ⟨_, rfl, _, rfl, pb, _, _, _, rfl, rfl, SqL.of hpb8, a1, (x' j).B, dx, fs, rfl, hB, k2, ?_⟩
    have ht8 := W8.sm _ _ (htl j hj)
    refine ⟨_, rfl, _, rfl, (x j).tl, _, _, _, rfl, rfl, SqL.of ht8, atI_nat (tbF_at hk), two, fun p hp => ?_⟩
    have s9 := same_new hp (.tup [.str (Str.ofString "ref"), .int ((x j).f k)])
    have hp9 : upd H8 p (.tup [.str (Str.ofString "ref"), .int ((x j).f k)]) p = some (.tup [.str (Str.ofString "ref"), .int ((x j).f k)]) := upd_same
    generalize upd H8 p (.tup [.str (Str.ofString "ref"), .int ((x j).f k)]) = H9 at s9 hp9
    refine ⟨_, rfl, _, rfl, _, rfl, v, (x j).tl, e, (x j).f, nds.length, rfl, re8.mono (.same s9), oe, s9 _ _ ht8, fun u H10 s10 ru => ?_⟩
    have S10 := s9.trans s10
    have W10 := W8.same S10
    obtain ⟨y, hy, q1, q2, q3, q4⟩ := V8.at_ k n hn
    have ru : Rep H10 u (e.d (x' j).f) := by rw [(ex j).2.2]; exact ru
    refine ⟨(x' j).B, (x' j).td, (x' j).L, .ref p, u, i, y, e.d (x' j).f, rfl, W10.bk j hj, ⟨p, _, rfl, by rw [q1, (ex j).2.2]; exact s10 _ _ hp9⟩, hy, by rw [q4, rowD_len]; exact hi, ru, fun H11 Y11 c11 => ?_⟩
    have ms : y.s ∈ (x' j).F := fb_s hy
    have W11 := W10.bank hj (y := { x' j with L := putT { y with row := y.row.set i (e.d (x' j).f) } (x' j).L }) (n := nds') c11 (fun a ha => by rw [List.mem_singleton.mp ha]; exact .inl ms) Y11 (by rw [ends]; exact V8.set hn hy q1 q2 q3 q4) (fun a ha => .inl (fb_put (x := y) (x' := { y with row := y.row.set i (e.d (x' j).f) }) hy rfl rfl a ha))
    obtain ⟨x2, e2⟩ : ∃ x2 : Nat → Bx, x2 = putJ x' j { x' j with L := putT { y with row := y.row.set i (e.d (x' j).f) } (x' j).L } := ⟨_, rfl⟩
    rw [← e2] at W11
    refine ⟨x2, _, _, rfl, ?_, fun j' => ?_, re8.mono ((Tups.same S10).trans c11.tups)⟩
    · have en : putJ (fun j' => if j' < j then nds' else nds) j nds' = fun j' => if j' < j + 1 then nds' else nds := by
        funext j'
        unfold putJ
        by_cases c : j' = j
        · rw [if_pos c, if_pos (by omega)]
        · rw [if_neg c]
          show (if j' < j then nds' else nds) = _
          by_cases d : j' < j
          · rw [if_pos d, if_pos (by omega)]
          · rw [if_neg d, if_neg (by omega)]
      rw [en] at W11
      exact W11
    · by_cases c : j' = j
      · rw [e2]; subst c; rw [putJ_same]; exact ex j'
      · rw [e2, putJ_ne c]; exact ex j'
  · rintro σ H8 ⟨x', o12, o13, rfl, W8, ex, re8⟩
    refine q H8 nds' x' ⟨W8.sm, W8.bo, W8.bk, fun j hj => ?_, W8.f1, W8.fn, W8.dj, W8.dn⟩ nok' ln' ex
    have := W8.vw j hj
    rw [if_pos hj] at this
    exact this
end
end D0
namespace D0
open PySem PySem.Spec PyProof.Rows L2 SX NumText
/-- a Store that was just made -/
theorem store_made {K : PySem.W.Frag} {CS CT : Addr} {H : Hp} {x dx td : Addr} (hx : H x = none) (hdx : H dx = none) (ne : dx ≠ x) (htd : upd (upd H dx (.own x)) x (.ins CS dx []) td = none) :
    Same H (upd (upd (upd (upd H dx (.own x)) x (.ins CS dx [])) td (.dK [])) x (.ins CS dx [(fThings, .ref td)])) ∧ BkB K CS CT 1 (upd (upd (upd (upd H dx (.own x)) x (.ins CS dx [])) td (.dK [])) x (.ins CS dx [(fThings, .ref td)])) x td [] ∧ H td = none := by
  have n1 : td ≠ x := fun z => by rw [z, upd_same] at htd; cases htd
  have n2 : td ≠ dx := fun z => by rw [z, upd_ne ne, upd_same] at htd; cases htd
  have f : H td = none := by rw [upd_ne n1, upd_ne n2] at htd; exact htd
  refine ⟨fun a o e => ?_, ⟨⟨[], BkA.empty (dx := dx) upd_same (by rw [upd_ne n1, upd_same]), .inl ⟨rfl, rfl⟩⟩, rfl⟩, f⟩
  rw [upd_ne (ne_of_none e hx), upd_ne (ne_of_none e f), upd_ne (ne_of_none e hx), upd_ne (ne_of_none e hdx)]; exact e
/-- the heap without the addresses of F -/
def blank (H : Hp) (F : List Addr) : Hp := fun a => if a ∈ F then none else H a
theorem blank_same (H : Hp) (F : List Addr) : Same (blank H F) H := fun a o e => by
  unfold blank at e
  split at e
  · cases e
  · exact e
theorem blank_in {H : Hp} {F : List Addr} {a : Addr} (h : a ∈ F) : blank H F a = none := by unfold blank; rw [if_pos h]
theorem blank_out {H : Hp} {F : List Addr} {a : Addr} (h : a ∉ F) : blank H F a = H a := by unfold blank; rw [if_neg h]
def bx0 (B td : Addr) : Bx := ⟨B, td, 0, [], fun _ => 0⟩
def tri (a b c : Bx) : Nat → Bx := fun j => if j = 0 then a else if j = 1 then b else c
theorem vw_nil (f : Nat → Int) : Vw [] f [] := ⟨fun k n h => by simp at h, fun i j h => absurd h (Nat.not_lt_zero _)⟩
theorem BoA.isl {H : Hp} {nb : Addr} {as rs : List Addr} {nds : List Nd} (X : BoA H nb as rs nds) : ∀ a ∈ FN nb as rs, ∃ vs, H a = some (.lst vs) := by
  intro a h
  have l3 := X.la; have l4 := X.lr
  rcases List.mem_cons.mp h with rfl | h
  · exact ⟨_, X.h0⟩
  rcases List.mem_append.mp h with h | h
  · obtain ⟨j, hj⟩ := List.getElem?_of_mem h
    obtain ⟨hj', _⟩ := List.getElem?_eq_some_iff.mp hj
    obtain ⟨tv, g, _⟩ := X.hN j a _ _ hj (List.getElem?_eq_getElem (by omega)) (List.getElem?_eq_getElem (by omega))
    exact ⟨_, g⟩
  · obtain ⟨j, hj⟩ := List.getElem?_of_mem h
    obtain ⟨hj', _⟩ := List.getElem?_eq_some_iff.mp hj
    obtain ⟨vs, g, _⟩ := X.hR j a _ hj (List.getElem?_eq_getElem (by omega))
    exact ⟨_, g⟩
theorem Out.put {nb : Addr} {as rs : List Addr} {x : Nat → Bx} {a : Addr} {j : Nat} {y : Bx} {H : Hp} (o : Out nb as rs x a) (hj : j < 3) (h : H a ≠ none) (f : ∀ c ∈ y.F, c ∈ (x j).F ∨ H c = none) : Out nb as rs (putJ x j y) a := by
  refine ⟨o.1, fun i hi m => ?_⟩
  by_cases e : i = j
  · subst e
    rw [putJ_same] at m
    rcases f a m with z | z
    · exact o.2 i hi z
    · exact h z
  · rw [putJ_ne e] at m; exact o.2 i hi m
def stepsV : List V := [.int 1, .int 1, .int 2]
theorem stepsV_at {j : Nat} (h : j < 3) : atI stepsV (j : Int) = some (.int (stJ j : Nat)) := by
  rcases (by omega : j = 0 ∨ j = 1 ∨ j = 2) with rfl | rfl | rfl <;> rfl
theorem tbF_full {f : Nat → Int} {N : Nat} (h : 1 ≤ N) : (!(tbF f N).isEmpty) = true := by
  cases N with
  | zero => omega
  | succ n =>
    cases e : tbF f (n + 1) with
    | nil => have := tbF_len f (n + 1); rw [e] at this; cases this
    | cons a r => rfl
theorem banksV_eq {x x' : Nat → Bx} (h : ∀ j, (x' j).B = (x j).B ∧ (x' j).tl = (x j).tl ∧ (x' j).f = (x j).f) : banksV x' = banksV x := by
  unfold banksV; rw [(h 0).1, (h 1).1, (h 2).1]
theorem tabsV_eq {x x' : Nat → Bx} (h : ∀ j, (x' j).B = (x j).B ∧ (x' j).tl = (x j).tl ∧ (x' j).f = (x j).f) : tabsV x' = tabsV x := by
  unfold tabsV; rw [(h 0).2.1, (h 1).2.1, (h 2).2.1]
def spLaw (K : PySem.W.Frag) : Sp := fun vs H Q _ => ∃ (a : Addr) (ns : List Int), vs = [.ref a] ∧ SqL K H a (ns.map V.int) ∧ ns.length ≤ 63 ∧ ∀ H', Q (.bl true) H'
/-- what a list, an instance, a dict: different addresses -/
theorem ne_lst_ins {H : Hp} {a b : Addr} {vs : List V} {C dx : Addr} {fs : List (Str × V)} (h : H a = some (.lst vs)) (k : H b = some (.ins C dx fs)) : a ≠ b := ne_ob h k (fun z => by cases z)
theorem bkb_fb {K : PySem.W.Frag} {C CT : Addr} {st : Nat} {H : Hp} {B td a : Addr} {vs : List V} (Y : BkB K C CT st H B td []) (h : H a = some (.lst vs)) : a ∉ FB B td [] := fun m => by
  obtain ⟨more, Z, _⟩ := Y.bk
  obtain ⟨dx, hB⟩ := Z.hB
  simp only [FB, List.map_nil, List.append_nil, List.mem_cons, List.not_mem_nil, or_false] at m
  rcases m with rfl | rfl
  · rw [h] at hB; cases hB
  · rw [Z.hD] at h; cases h
theorem Wg.tupO {K : PySem.W.Frag} {CS CH CT : Addr} {H1 H : Hp} {nb a : Addr} {as rs : List Addr} {nds : List Nd} {nn : Nat → List Nd} {x : Nat → Bx} {vs : List V} (W : Wg K CS CH CT H1 H nb as rs nds nn x) (h : H a = some (.tup vs)) : Out nb as rs x a := by
  refine ⟨fun m => ?_, fun j hj m => ?_⟩
  · obtain ⟨ws, g⟩ := W.bo.isl a m
    rw [h] at g; cases g
  · obtain ⟨more, Y, _⟩ := (W.bk j hj).bk
    rcases fb_cases m with e | e | ⟨y, hy, e⟩ | ⟨y, hy, e⟩
    · obtain ⟨dx, g⟩ := Y.hB; rw [← e, h] at g; cases g
    · have g := Y.hD; rw [← e, h] at g; cases g
    · obtain ⟨dx, tv, g, _⟩ := Y.hT y hy; rw [← e, h] at g; cases g
    · obtain ⟨ws, g, _⟩ := Y.hS y hy; rw [← e, h] at g; cases g
end D0
namespace D0
open PySem PySem.Spec PyProof.Rows L2 SX NumText
section
variable {P : Program} {w : World} {K : PySem.W.Frag} {mg : Str → Option Value} {base : Heap} {CS CH CT : Addr}
theorem ok_law (T : Txt K w mg) (TS : StT K mg CS) (TX : StX K mg CS) (TH : HeT K mg CH) (Ob : OkD P w K mg base CX0 2 "_law_box" p__law_box (spBox K)) (O : OkD P w K mg base CX0 1 "_law_take" p__law_take spTake)
    (On : OkD P w K mg base CX0 8 "_law_nodes" p__law_nodes (spNodes K)) (Oen : OkD P w K mg base CX0 6 "_law_entry" p__law_entry spMarked) (Oor : OkD P w K mg base CX0 2 "_law_order" p__law_order spOrder)
    (ObS : OkD P w K mg base CX0 11 "_law_built" p__law_built (spBuilt K CS CT 1)) (ObH : OkD P w K mg base CX0 11 "_law_built" p__law_built (spBuilt K CH CT 2))
    (Oal : OkD P w K mg base CX0 12 "_law_all" p__law_all (spAll K CS CH CT)) (Ost : OkD P w K mg base CX0 12 "_law_set" p__law_set (spSetL K CS CH CT)) : OkD P w K mg base CX0 14 "law" p_law (spLaw K) := by
  have Obt : OkD P w K mg base CX0 11 "_law_built" p__law_built (fun vs H Q E => ∃ j, j < 3 ∧ spBuilt K (clJ CS CH j) CT (stJ j) vs H Q E) := (ObS.or ObH).imp fun vs H Q E h => by
    obtain ⟨j, hj, h⟩ := h
    by_cases e : j = 2
    · subst e; exact .inr h
    · have e1 : clJ CS CH j = CS := if_neg e
      have e2 : stJ j = 1 := if_neg e
      rw [e1, e2] at h; exact .inl h
  obtain ⟨fI, fdI, MS, bS, FS⟩ := TS.ini
  have GS := ok_Store___init__ (P := P) (w := w) (mg := mg) (base := base) FS
  obtain ⟨fJ, fdJ, MH, bH, FH⟩ := TH.ini
  have GH := ok_Heap___init__ (P := P) (w := w) (base := base) (CT := CT) TS TX TH FH
  refine T.g_law.ok sc_law (fun vs H Q E h => ?_) (fun f cdv A outer s H vs Q E hr h => ?_)
  · obtain ⟨a, ns, rfl, _⟩ := h; rfl
  obtain ⟨a, ns, rfl, hS, h63, q⟩ := h
  have lim : (4000 : Nat) < sizeLine := by decide
  refine ⟨_, (pss_cons (ps_set (i := 1) sc_law.nd rfl (.inr rfl) (pcall Ob hr (pa_cons (pv 0) (pa_cons pe_int pa_nil))))
      (pss_cons (ps_set (i := 2) sc_law.nd rfl (.inl rfl) (pe_op op_add pe_int (pcall O hr (pa_cons (pv 1) (pa_cons pe_int pa_nil)))))
      (pss_cons (PS.of (t' := fun D σ H' => ∃ (b : Addr) (v0 : Option V) (m : Int) (r : List (Option V)), σ = v0 :: some (.ref b) :: some (.int m) :: r ∧ Bag H' b ∧ 1 ≤ m ∧ m ≤ 30 ∧ ∀ (m' : Int) H'', 1 ≤ m' → m' ≤ 30 → Stp b H' H'' → D.nx (v0 :: some (.ref b) :: some (.int m') :: r) H'')
      (ps_if (pt_cmpR op_eq (pcall O hr (pa_cons (pv 1) (pa_cons pe_int pa_nil))) pe_int (nomark _)) (pss_one (ps_set (i := 2) sc_law.nd rfl (.inl rfl) (pe_op op_add pe_int (pcall O hr (pa_cons (pv 1) (pa_cons pe_int pa_nil)))))) pss_nil) ?if1)
      (pss_cons (ps_set (i := 3) sc_law.nd rfl (.inl rfl) (pcall O hr (pa_cons (pv 1) (pa_cons pe_int pa_nil))))
      (pss_cons (ps_set (i := 4) sc_law.nd rfl (.inl rfl) pe_int)
      (pss_cons (PS.of (t' := fun D σ H' => ∃ (b : Addr) (v0 v2 : Option V) (m : Int) (r : List (Option V)), σ = v0 :: some (.ref b) :: v2 :: some (.int m) :: some (.int 0) :: r ∧ Bag H' b ∧ 0 ≤ m ∧ m ≤ 4 ∧ ∀ (m' t' : Int) H'', 0 ≤ m' → m' ≤ 4 → 0 ≤ t' → t' ≤ 1200 → Stp b H' H'' → D.nx (v0 :: some (.ref b) :: v2 :: some (.int m') :: some (.int t') :: r) H'')
      (ps_if (pt_cmpR op_eq (pcall O hr (pa_cons (pv 1) (pa_cons pe_int pa_nil))) pe_int (nomark _)) (pss_cons (ps_set (i := 4) sc_law.nd rfl (.inl rfl) (pe_op op_add pe_int (pcall O hr (pa_cons (pv 1) (pa_cons pe_int pa_nil)))))
      (pss_one (ps_set (i := 3) sc_law.nd rfl (.inl rfl) (pe_callB (call_min2 rfl) (by rfl) T.z_min (by decide +kernel) (pa_cons (pv 3) (pa_cons pe_int pa_nil)))))) pss_nil) ?if2)
      (pss_cons (ps_set (i := 5) sc_law.nd rfl (.inr rfl) (pcall On hr (pa_cons (pv 0) (pa_cons (pv 2) (pa_cons (pv 4) pa_nil)))))
      (pss_cons (ps_set (i := 6) sc_law.nd rfl (.inr rfl) (pe_lc (own := [("k", 17)]) (g := gName 17) (tt := tYes) rfl sc_law.nd (pi_range1 rfl T.z_range (pa_cons (pv 2) pa_nil)) (blkOk_by (own := [("k", 17)]) (N := n_law) (sc := defScope s_law) (by decide +kernel)) (fun _ _ _ _ _ => (pg_name (i := 17) sc_law.nd rfl (Or.inl rfl))) (fun _ _ _ _ _ => pts_nil) (fun _ _ _ _ _ => (pv 17))))
      (pss_cons (ps_set (i := 7) sc_law.nd rfl (.inr rfl) (pe_lc (own := [("k", 17)]) (g := gName 17) rfl sc_law.nd (pi_list (pv 6)) (blkOk_by (own := [("k", 17)]) (N := n_law) (sc := defScope s_law) (by decide +kernel)) (fun _ _ _ _ _ => (pg_name (i := 17) sc_law.nd rfl (Or.inl rfl))) (fun _ _ _ _ _ => (pts_one (pt_cmpR op_eq (pe_ix (show IxR _ (rIxL K) from ix_list) (pe_ix (show IxR _ (rIxL K) from ix_list) (pv 5) (pv 17) (fun _ _ => rfl)) pe_int (fun _ _ => rfl)) pe_str (nomark _)))) (fun _ _ _ _ _ => (pv 17))))
      (pss_cons (ps_setLc (i := 8) (own := [("k", 17)]) (g := gName 17) (tt := tYes) rfl sc_law.nd rfl rfl rfl (pi_range1 rfl T.z_range (pa_cons (pcall O hr (pa_cons (pv 1) (pa_cons pe_int pa_nil))) pa_nil)) (blkOk_by (own := [("k", 17)]) (N := n_law) (sc := defScope s_law) (by decide +kernel)) (fun _ _ _ _ _ => (pg_name (i := 17) sc_law.nd rfl (Or.inl rfl))) (fun _ _ _ _ _ => pts_nil) (fun _ _ _ _ _ => (pcall Oen hr (pa_cons (pv 1) (pa_cons (pv 6) (pa_cons (pv 7) (pa_cons pe_int pa_nil)))))))
      (pss_cons (PS.of (t' := fun D σ H' => ∃ (ea : Addr) (mm tt : Nat) (ws : List V) (es : List Ent), σ[8]? = some (some (.ref ea)) ∧ σ[4]? = some (some (.int (tt : Nat))) ∧ σ[2]? = some (some (.int (mm : Nat))) ∧ H' ea = some (.lst ws) ∧ Reps H' ws (rowD ixD es) ∧ (∀ e ∈ es, e.ok (mm + tt)) ∧ es.length ≤ 10 ∧
        ∀ H'' ws' es', Chg [ea] H' H'' → H'' ea = some (.lst ws') → Reps H'' ws' (rowD ixD es') → (∀ e ∈ es', e.ok (mm + tt)) → es'.length ≤ 11 → D.nx σ H'')
      (ps_if (pt_cmpR op_gt (pv 4) pe_int (nomark _)) (pss_one (ps_expr (pe_bm PySem.F.plainAttrs_list PySem.F.slot_list_append PySem.F.type_list_append mt_append (pv 8) (pa_cons (pe_tup (pa_cons pe_str (pa_cons (pv 2) pa_nil))) pa_nil)))) pss_nil) ?if3)
      (pss_cons (ps_set (i := 9) sc_law.nd rfl (.inl rfl) (pe_lst (pa_cons (pe_make0 MS GS (hr.mono (by decide)) rfl TS.gl bS .nil pass0) (pa_cons (pe_make0 MS GS (hr.mono (by decide)) rfl TS.gl bS .nil pass0) (pa_cons (pe_make0 MH GH (hr.mono (by decide)) rfl TH.gl bH .nil pass0) pa_nil)))))
      (pss_cons (ps_set (i := 10) sc_law.nd rfl (.inl rfl) (pe_tup (pa_cons pe_int (pa_cons pe_int (pa_cons pe_int pa_nil)))))
      (pss_cons (ps_set (i := 11) sc_law.nd rfl (.inl rfl) (pe_lst pa_nil))
      (pss_cons (ps_for PassesOwn.never rfl (pi_range1 rfl T.z_range (pa_cons pe_int pa_nil)) (pg_name (i := 12) sc_law.nd rfl (Or.inl rfl)) (pss_cons (ps_set (i := 13) sc_law.nd rfl (.inl rfl) (pcall Ob hr (pa_cons (pv 0) (pa_cons (pe_op op_add pe_int (pv 12)) pa_nil))))
      (pss_cons (ps_set (i := 14) sc_law.nd rfl (.inl rfl) (pcall Obt hr (pa_cons (pv 13) (pa_cons (pe_ix ix_list (pv 9) (pv 12) (fun _ _ => rfl)) (pa_cons (pv 5) (pa_cons (pcall Oor hr (pa_cons (pv 13) (pa_cons (pv 2) (pa_cons (pv 4) (pa_cons (pv 12) pa_nil))))) (pa_cons (pe_ix ix_tup (pv 10) (pv 12) (fun _ _ => rfl)) pa_nil)))))))
      (pss_cons (ps_if (pt_not (pt_truth (pv 14) (by intro _; rfl))) (pss_one (ps_ret pe_bl)) pss_nil)
      (pss_one (ps_expr (pe_bm PySem.F.plainAttrs_list PySem.F.slot_list_append PySem.F.type_list_append mt_append (pv 11) (pa_cons (pv 14) pa_nil))))))))
      (pss_cons (ps_set (i := 15) sc_law.nd rfl (.inl rfl) (pe_op op_mul (pe_callB (call_min2 rfl) (by rfl) T.z_min (by decide +kernel) (pa_cons (pv 2) (pa_cons pe_int pa_nil))) (pe_callTy call_int1 (by rfl) T.z_int PyProof.Rows.boot_int (pa_cons (pe_cmpR op_eq (pv 4) pe_int (nomark _)) pa_nil))))
      (pss_cons (ps_if (pt_not (pt_val (pcall Oal hr (pa_cons (pv 9) (pa_cons (pv 11) (pa_cons (pv 5) (pa_cons (pv 8) (pa_cons (pv 15) pa_nil)))))))) (pss_one (ps_ret pe_bl)) pss_nil)
      (pss_cons (ps_for PassesOwn.never rfl (pi_range1 rfl T.z_range (pa_cons (pv 3) pa_nil)) (pg_name (i := 16) sc_law.nd rfl (Or.inl rfl)) (pss_cons (ps_expr (pcall Ost hr (pa_cons (pcall Ob hr (pa_cons (pv 0) (pa_cons (pe_op op_add pe_int (pv 16)) pa_nil))) (pa_cons (pv 9) (pa_cons (pv 11) (pa_cons (pv 5) (pa_cons (pv 6) (pa_cons (pv 7) pa_nil))))))))
      (pss_one (ps_if (pt_not (pt_val (pcall Oal hr (pa_cons (pv 9) (pa_cons (pv 11) (pa_cons (pv 5) (pa_cons (pv 8) (pa_cons (pv 15) pa_nil)))))))) (pss_one (ps_ret pe_bl)) pss_nil))))
      (pss_one (ps_ret pe_bl)))))))))))))))))))), ?_⟩
  case if1 =>
    rintro D σ H' ⟨b, v0, m, r, rfl, hb, m1, m2, go⟩
    refine ⟨_, rfl, b, 8, rfl, hb, by decide, by decide, fun r0 H2 _ _ x2 => ⟨rfl, _, rfl, ite2 (fun _ => ?_) (fun _ => go m _ m1 m2 x2)⟩⟩
    refine ⟨_, rfl, b, 21, rfl, x2.b1, by decide, by decide, fun r1 H3 r10 r11 x3 => ⟨_, _, rfl, rfl, ?_⟩⟩
    exact go (10 + r1) _ (by omega) (by omega) (x2.trans x3)
  case if2 =>
    rintro D σ H' ⟨b, v0, v2, m, r, rfl, hb, m1, m2, go⟩
    refine ⟨_, rfl, b, 24, rfl, hb, by decide, by decide, fun r0 H2 _ _ x2 => ⟨rfl, _, rfl, ite2 (fun _ => ?_) (fun _ => go m 0 _ m1 m2 (by omega) (by omega) x2)⟩⟩
    refine ⟨_, rfl, b, 100, rfl, x2.b1, by decide, by decide, fun r1 H3 r10 r11 x3 => ⟨_, _, rfl, rfl, ?_⟩⟩
    refine ⟨_, rfl, _, _, rfl, go _ (1050 + r1) _ ?_ ?_ (by omega) (by omega) (x2.trans x3)⟩
    · split <;> omega
    · split <;> omega
  case if3 =>
    rintro D σ H' ⟨ea, mm, tt, ws, es, e8, e4, e2, hea, rr, oe, le, go⟩
    have wl : ws.length = es.length := by rw [rr.len, rowD_len]
    refine ⟨_, e4, _, _, rfl, rfl, _, rfl, ite2 (fun c => ?_) (fun _ => go _ ws es .refl hea rr oe (by omega))⟩
    have c : (tt : Int) > 0 := of_decide_eq_true c
    refine ⟨_, e8, .inl ⟨rfl, _, SqL.of hea⟩, _, e2, by show 2 ≤ sizeLine; omega, fun p hp => ?_⟩
    have s2 := same_new hp (.tup [.str (Str.ofString "ref"), .int (mm : Nat)])
    have h2 := s2 _ _ hea
    refine ⟨ea, ws, _, rfl, rfl, h2, by omega, ?_⟩
    have t3 : Tups (upd H' p (.tup [.str (Str.ofString "ref"), .int (mm : Nat)])) (upd (upd H' p (.tup [.str (Str.ofString "ref"), .int (mm : Nat)])) ea (.lst (ws ++ [.ref p]))) := .lst h2
    refine go _ _ (es ++ [.pl (.ref mm)]) ((Chg.same s2).trans (.upd h2 (fun _ z => by cases z) (List.mem_singleton_self _))) upd_same ?_ (fun e he => ?_) (by simp; omega)
    · rw [rowD_app]
      exact (rr.mono ((Tups.same s2).trans t3)).app ((reps_ref (k := mm) upd_same rfl).mono t3)
    · rcases List.mem_append.mp he with h | h
      · exact oe e h
      · rw [List.mem_singleton.mp h]; show mm < mm + tt; omega
  refine ⟨_, rfl, a, ns, 0, rfl, hS, by omega, fun hd H2 s2 fhd bhd => ?_⟩
  refine ⟨_, rfl, hd, 9, rfl, bhd, by decide, by decide, fun r1 H3 r10 r11 x3 => ⟨_, _, rfl, rfl, ?_⟩⟩
  refine ⟨hd, _, 1 + r1, _, rfl, x3.b1, by omega, by omega, fun m H4 m1 m2 x4 => ?_⟩
  refine ⟨_, rfl, hd, 4, rfl, x4.b1, by decide, by decide, fun t0 H5 t00 t01 x5 => ?_⟩
  refine ⟨hd, _, _, t0, _, rfl, x5.b1, by omega, by omega, fun tr tl0 H6 tr0 tr1 tl00 tl01 x6 => ?_⟩
  obtain ⟨mm, rfl⟩ : ∃ k : Nat, m = (k : Int) := ⟨m.toNat, by omega⟩
  obtain ⟨tn, rfl⟩ : ∃ k : Nat, tr = (k : Int) := ⟨tr.toNat, by omega⟩
  obtain ⟨tt, rfl⟩ : ∃ k : Nat, tl0 = (k : Int) := ⟨tl0.toNat, by omega⟩
  have x26 := x3.trans (x4.trans (x5.trans x6))
  have smp : ∀ {H' H'' : Hp}, Same H H' → Stp hd H' H'' → Same H H'' := fun s x b o e => x.keep b o (fun z => by rw [z, fhd] at e; cases e) (s _ _ e)
  have S6 : Same H H6 := smp s2 x26
  refine ⟨_, rfl, _, rfl, _, rfl, a, ns, mm, tt, rfl, sqL_sm hS S6, by omega, by omega, by omega, fun nb as rs nds H7 s7 X7 ln nok frF => ?_⟩
  have bg7 := x26.b1.same s7
  -- pool
  refine ⟨_, rfl, mm, rfl, by omega, by omega, fun pl hpl => ?_⟩
  have npl : pl ≠ hd := bg7.ne hpl
  refine lc_it walk_range (fun i H' => Same H7 H' ∧ H' pl = some (.lst (nats (List.range i)))) ⟨same_new hpl _, upd_same⟩ (fun _ _ _ _ => trivial) ?_ ?_
  · rintro i x H8 H9 hi ⟨s8, h8⟩ ⟨rfl, rfl⟩
    refine ⟨rfl, iteT (B := True) (iteT ?_)⟩
    have hi' : i < mm := by simpa using hi
    refine ⟨_, rfl, _, h8, by rw [nats_len, List.length_range]; omega, same_grow s8 hpl, ?_⟩
    rw [upd_same, List.range_succ, nats_app]
    show some (HO.lst (nats (List.range i) ++ [V.int (0 + (i : Int))])) = some (HO.lst (nats (List.range i) ++ [V.int (i : Int)]))
    rw [Int.zero_add]
  rintro H8 ⟨s8, hp8⟩
  have hp8 : H8 pl = some (.lst (nats (List.range mm))) := by simpa using hp8
  have X8 := X7.same s8
  -- errors
  refine ⟨_, rfl, pl, rfl, ⟨_, SqL.of hp8⟩, fun er her => ?_⟩
  have ner : er ≠ hd := (bg7.same s8).ne her
  refine lc_it (walk_list (xs := nats (List.range mm))) (fun i H' => Same H8 H' ∧ ∃ ks, H' er = some (.lst (nats ks)) ∧ (∀ k ∈ ks, k < nds.length) ∧ ks.length ≤ i) ⟨same_new her _, [], upd_same, (fun k h => by cases h), Nat.le_refl _⟩ (fun i H' _ h => SqL.of (h.1 _ _ hp8)) ?_ ?_
  · rintro i y H9 H10 hi ⟨s9, ks, h9, o9, l9⟩ ⟨rfl, hx⟩
    rw [nats_len, List.length_range] at hi
    unfold nats at hx
    rw [List.getElem?_map, List.getElem?_range hi] at hx
    have hx := Option.some.inj hx
    subst hx
    have hk : i < nds.length := by omega
    obtain ⟨n, hni⟩ : ∃ n, nds[i]? = some n := ⟨_, List.getElem?_eq_getElem hk⟩
    have X10 := X8.same s9
    obtain ⟨a1, r, tv, vs, ea, er', g, rt, g2, rr, vl⟩ := X10.look hni
    refine ⟨rfl, ?_⟩
    refine ⟨_, rfl, _, rfl, nb, _, _, .ref a1, rfl, rfl, SqL.of X10.h0, node_at ea, a1, _, 0, _, rfl, rfl, SqL.of g, rfl, rfl, _, rfl, ite2 (fun _ => ?_) (fun _ => ?_)⟩
    · refine ⟨_, rfl, _, h9, by rw [nats_len]; omega, same_grow s9 her, ks ++ [i], by rw [upd_same, nats_app]; rfl, ?_, by simp; omega⟩
      intro k hk'
      rcases List.mem_append.mp hk' with h | h
      · exact o9 k h
      · rw [List.mem_singleton.mp h]; exact hk
    · exact ⟨s9, ks, h9, o9, by omega⟩
  rintro H9 ⟨s9, ks, he9, ok9, lk9⟩
  rw [nats_len, List.length_range] at lk9
  have hp9 := s9 _ _ hp8
  have bg9 := bg7.same (s8.trans s9)
  have X9 := X8.same s9
  -- entries
  refine ⟨_, rfl, hd, 6, rfl, bg9, by decide, by decide, fun ne H10 n0 n1 x10 => ⟨ne, rfl, by omega, by omega, fun ea hea => ?_⟩⟩
  have nea : ea ≠ hd := x10.b1.ne hea
  refine lc_it walk_range (fun i H' => Stp hd H10 H' ∧ ∃ vs es, H' ea = some (.lst vs) ∧ Reps H' vs (rowD ixD es) ∧ (∀ e ∈ es, e.ok nds.length) ∧ es.length = i) ⟨(Stp.refl x10.b1).new hea, [], [], upd_same, .nil, (fun _ h => by cases h), rfl⟩ (fun _ _ _ _ => trivial) ?_ ?_
  · rintro i y H11 H12 hi ⟨x11, vs, es, h11, r11', o11, l11⟩ ⟨rfl, rfl⟩
    refine ⟨rfl, iteT (B := True) (iteT ?_)⟩
    have x911 := x10.trans x11
    refine ⟨_, rfl, _, rfl, _, rfl, hd, pl, er, nds.length, 2, rfl, x11.b1, ⟨npl, _, x911.keep _ _ npl hp9, fun k hk => by have := List.mem_range.mp hk; omega, by rw [List.length_range]; omega⟩, ⟨ner, ks, x911.keep _ _ ner he9, ok9, by omega⟩, fun v e H13 x13 oe re => ?_⟩
    have h13 := x13.keep _ _ nea h11
    have vl : vs.length = es.length := by rw [r11'.len, rowD_len]
    refine ⟨_, h13, by omega, (x11.trans x13).grow hea nea, vs ++ [v], es ++ [e], upd_same, ?_, ?_, by simp [l11]⟩
    · rw [rowD_app]; exact (r11'.mono (x13.tups.trans (.lst h13))).app (.one (re.mono (.lst h13)))
    · intro e' he'
      rcases List.mem_append.mp he' with h | h
      · exact o11 e' h
      · rw [List.mem_singleton.mp h]; exact oe
  rintro H11 ⟨x11, ws, es, he11, r11', o11, l11⟩
  have x911 := x10.trans x11
  have S11 : Same H H11 := smp (S6.trans (s7.trans (s8.trans s9))) x911
  have X11 : BoA H11 nb as rs nds := X9.frame x911.chg fun b hb z => X9.nbag bg9 (by rw [← List.mem_singleton.mp z]; exact hb)
  have hp11 := x911.keep _ _ npl hp9
  have he11' := x911.keep _ _ ner he9
  refine ⟨ea, mm, tt, ws, es, rfl, rfl, rfl, he11, r11', (by rw [← ln]; exact o11), (by have : es.length = ne.toNat := l11; omega), fun H12 ws2 es2 c12 h12 r12 o12' l12 => ?_⟩
  rw [← ln] at o12'
  have fea : H ea = none := (S6.trans (s7.trans (s8.trans s9))).free (x10.chg.live _ hea)
  have S12 : Same H H12 := fun b o e => c12.keep b o (fun z => by rw [List.mem_singleton.mp z, fea] at e; cases e) (S11 _ _ e)
  have nFea : ea ∉ FN nb as rs := fun z => X9.here ea z (x10.chg.live _ hea)
  have X12 := X11.frame c12 fun b hb z => nFea (by rw [← List.mem_singleton.mp z]; exact hb)
  have nple : pl ≠ ea := fun z => by rw [z, x10.chg.live _ hea] at hp9; cases hp9
  have nere : er ≠ ea := fun z => by rw [z, x10.chg.live _ hea] at he9; cases he9
  have hp12 := c12.keep _ _ (by simpa using nple) hp11
  have he12 := c12.keep _ _ (by simpa using nere) he11'
  clear o11 l11 r11' he11 hp11 he11' c12 X11
  -- the banks
  refine fun B0 dx0 hB0 hdx0 ne0 => ⟨B0, CS, dx0, rfl, upd_same, TS.bk.cl, TS.bk.n_things, fun td0 htd0 => ⟨rfl, ?_⟩⟩
  obtain ⟨sA, YA, fA⟩ := store_made (CT := CT) (K := K) hB0 hdx0 ne0 htd0
  generalize (upd (upd (upd (upd H12 dx0 (.own B0)) B0 (.ins CS dx0 [])) td0 (.dK [])) B0 (.ins CS dx0 [(fThings, .ref td0)])) = HA at sA YA
  refine fun B1 dx1 hB1 hdx1 ne1 => ⟨B1, CS, dx1, rfl, upd_same, TS.bk.cl, TS.bk.n_things, fun td1 htd1 => ⟨rfl, ?_⟩⟩
  obtain ⟨sB, YB, fB⟩ := store_made (CT := CT) (K := K) hB1 hdx1 ne1 htd1
  generalize (upd (upd (upd (upd HA dx1 (.own B1)) B1 (.ins CS dx1 [])) td1 (.dK [])) B1 (.ins CS dx1 [(fThings, .ref td1)])) = HB at sB YB
  refine fun B2 dx2 hB2 hdx2 ne2 => ⟨B2, dx2, rfl, upd_same, fun td2 HC YC kC fC' => ⟨rfl, ?_⟩⟩
  have sC : Same HB HC := fun a o e => kC a o (ne_of_none e hB2) (by rw [upd_ne (ne_of_none e hB2), upd_ne (ne_of_none e hdx2)]; exact e)
  have fC : HB td2 = none := by
    have n1 : td2 ≠ B2 := fun z => by rw [z, upd_same] at fC'; cases fC'
    have n2 : td2 ≠ dx2 := fun z => by rw [z, upd_ne ne2, upd_same] at fC'; cases fC'
    rw [upd_ne n1, upd_ne n2] at fC'; exact fC'
  refine ⟨by show 3 ≤ sizeLine; omega, fun pb hpb => ⟨by show 3 ≤ sizeLine; omega, fun ps hps => ⟨Nat.zero_le _, fun pt hpt => ?_⟩⟩⟩
  have s13 := same_new hpb (.lst [.ref B0, .ref B1, .ref B2])
  have h13 : upd HC pb (.lst [.ref B0, .ref B1, .ref B2]) pb = some (.lst [.ref B0, .ref B1, .ref B2]) := upd_same
  generalize upd HC pb (.lst [.ref B0, .ref B1, .ref B2]) = H13 at s13 h13 hps hpt
  have s14 := same_new hps (.tup [.int 1, .int 1, .int 2])
  have h14 : upd H13 ps (.tup [.int 1, .int 1, .int 2]) ps = some (.tup [.int 1, .int 1, .int 2]) := upd_same
  generalize upd H13 ps (.tup [.int 1, .int 1, .int 2]) = H14 at s14 h14 hpt
  have s15 := same_new hpt (.lst [])
  have h15 : upd H14 pt (.lst []) pt = some (.lst []) := upd_same
  generalize upd H14 pt (.lst []) = HZ at s15 h15
  have sC5 : Same HC HZ := s13.trans (s14.trans s15)
  have sB5 := sC.trans sC5
  have sA5 := sB.trans sB5
  have s125 := sA.trans sA5
  have SZ : Same H HZ := S12.trans s125
  have XZ := X12.same s125
  obtain ⟨x0, ex0⟩ : ∃ x0, x0 = tri (bx0 B0 td0) (bx0 B1 td1) (bx0 B2 td2) := ⟨_, rfl⟩
  have xe : ∀ j, j < 3 → (x0 j).L = [] := fun j hj => by rw [ex0]; rcases (by omega : j = 0 ∨ j = 1 ∨ j = 2) with rfl | rfl | rfl <;> rfl
  have Yj : ∀ j, j < 3 → BkB K (clJ CS CH j) CT (stJ j) HZ (x0 j).B (x0 j).td [] := fun j hj => by
    rw [ex0]
    rcases (by omega : j = 0 ∨ j = 1 ∨ j = 2) with rfl | rfl | rfl
    · exact YA.same sA5
    · exact YB.same sB5
    · exact YC.same sC5
  have FE : ∀ j, j < 3 → (x0 j).F = FB (x0 j).B (x0 j).td [] := fun j hj => by show FB _ _ (x0 j).L = _; rw [xe j hj]
  obtain ⟨BL, eBL⟩ : ∃ BL, BL = pt :: (FN nb as rs ++ ((x0 0).F ++ ((x0 1).F ++ (x0 2).F))) := ⟨_, rfl⟩
  have inF : ∀ j, j < 3 → ∀ c ∈ (x0 j).F, c ∈ BL := fun j hj c hc => by
    rw [eBL]
    rcases (by omega : j = 0 ∨ j = 1 ∨ j = 2) with rfl | rfl | rfl <;> simp [hc]
  have lstF : ∀ {c : Addr} {vs : List V}, HZ c = some (.lst vs) → ∀ j, j < 3 → c ∉ (x0 j).F := fun h j hj m => bkb_fb (Yj j hj) h (by rw [← FE j hj]; exact m)
  have fe2 : ∀ {B td c : Addr}, c ∈ FB B td [] → c = B ∨ c = td := fun h => by simpa [FB] using h
  have dj01 : ∀ c ∈ (x0 0).F, c ∉ (x0 1).F := fun c h1 h2 => by
    rw [FE 0 (by omega), ex0] at h1
    rw [FE 1 (by omega), ex0] at h2
    have p := YA.here c h1
    rcases fe2 h2 with h | h
    · exact p (by rw [h]; exact hB1)
    · exact p (by rw [h]; exact fB)
  have dj02 : ∀ c ∈ (x0 0).F, c ∉ (x0 2).F := fun c h1 h2 => by
    rw [FE 0 (by omega), ex0] at h1
    rw [FE 2 (by omega), ex0] at h2
    have p := (YA.same sB).here c h1
    rcases fe2 h2 with h | h
    · exact p (by rw [h]; exact hB2)
    · exact p (by rw [h]; exact fC)
  have dj12 : ∀ c ∈ (x0 1).F, c ∉ (x0 2).F := fun c h1 h2 => by
    rw [FE 1 (by omega), ex0] at h1
    rw [FE 2 (by omega), ex0] at h2
    have p := YB.here c h1
    rcases fe2 h2 with h | h
    · exact p (by rw [h]; exact hB2)
    · exact p (by rw [h]; exact fC)
  have W0 : Wg K CS CH CT (blank HZ BL) HZ nb as rs nds (fun _ => []) x0 := by
    refine ⟨blank_same _ _, XZ, fun j hj => by rw [xe j hj]; exact Yj j hj, fun j hj => by rw [xe j hj]; exact vw_nil _, fun j hj c hc => blank_in (inF j hj c hc), fun c hc => blank_in (by rw [eBL]; simp [hc]), fun i j hi hj ne c h1 h2 => ?_, fun j hj c hc => ?_⟩
    · rcases (by omega : i = 0 ∨ i = 1 ∨ i = 2) with rfl | rfl | rfl <;> rcases (by omega : j = 0 ∨ j = 1 ∨ j = 2) with rfl | rfl | rfl
      · exact ne rfl
      · exact dj01 c h1 h2
      · exact dj02 c h1 h2
      · exact dj01 c h2 h1
      · exact ne rfl
      · exact dj12 c h1 h2
      · exact dj02 c h2 h1
      · exact dj12 c h2 h1
      · exact ne rfl
    · obtain ⟨vs, h⟩ := XZ.isl c hc
      exact lstF h j hj
  -- what stands outside
  have sAC := sB.trans sC
  have exF : ∀ j, j < 3 → ∀ c ∈ (x0 j).F, HC c ≠ none := fun j hj c hc => by
    rw [FE j hj, ex0] at hc
    rcases (by omega : j = 0 ∨ j = 1 ∨ j = 2) with rfl | rfl | rfl
    · exact (YA.same sAC).here c hc
    · exact (YB.same sC).here c hc
    · exact YC.here c hc
  have exN : ∀ c ∈ FN nb as rs, HC c ≠ none := (X12.same (sA.trans (sB.trans sC))).here
  have newO : ∀ {c : Addr}, HC c = none → Out nb as rs x0 c := fun h => ⟨fun m => exN _ m h, fun j hj m => exF j hj _ m h⟩
  have outB : ∀ {c : Addr}, Out nb as rs x0 c → c ≠ pt → c ∉ BL := fun o n m => by
    rw [eBL] at m
    simp only [List.mem_cons, List.mem_append] at m
    rcases m with m | m | m | m | m
    · exact n m
    · exact o.1 m
    · exact o.2 0 (by omega) m
    · exact o.2 1 (by omega) m
    · exact o.2 2 (by omega) m
  have opt : Out nb as rs x0 pt := newO ((s13.trans s14).free hpt)
  have opb : Out nb as rs x0 pb := newO hpb
  have ops : Out nb as rs x0 ps := newO (s13.free hps)
  have npbt : pb ≠ pt := ne_of_none (s14 _ _ h13) hpt
  have npst : ps ≠ pt := ne_of_none h14 hpt
  have sCZ12 := sA.trans (sB.trans (sC.trans (s13.trans s14)))
  have oldt : ∀ {c : Addr} {o : HO}, H12 c = some o → c ≠ pt := fun h => ne_of_none (sCZ12 _ _ h) hpt
  have lpl := s125 _ _ hp12
  have ler := s125 _ _ he12
  have lea := s125 _ _ h12
  have opl : Out nb as rs x0 pl := ⟨fun m => X7.here pl m hpl, lstF lpl⟩
  have oer : Out nb as rs x0 er := ⟨fun m => X8.here er m her, lstF ler⟩
  have oea : Out nb as rs x0 ea := ⟨nFea, lstF lea⟩
  have B_pb : blank HZ BL pb = some (.lst (banksV x0)) := by rw [blank_out (outB opb npbt), ex0]; exact (s14.trans s15) _ _ h13
  have B_ps : blank HZ BL ps = some (.tup stepsV) := by rw [blank_out (outB ops npst)]; exact s15 _ _ h14
  have B_pl : blank HZ BL pl = some (.lst (nats (List.range mm))) := by rw [blank_out (outB opl (oldt hp12))]; exact lpl
  have B_er : blank HZ BL er = some (.lst (nats ks)) := by rw [blank_out (outB oer (oldt he12))]; exact ler
  have B_ea : blank HZ BL ea = some (.lst ws2) := by rw [blank_out (outB oea (oldt h12))]; exact lea
  have B_pt : blank HZ BL pt = none := blank_in (by rw [eBL]; simp)
  have N1 : 1 ≤ nds.length := by omega
  have sH1 : ∀ {H' : Hp}, Same (blank HZ BL) H' → Same H H' := fun s b o e => s _ _ (by
    rw [blank_out]
    · exact SZ _ _ e
    · intro m
      rw [eBL] at m
      have ex : HC b ≠ none := by rw [(S12.trans (sA.trans (sB.trans sC))) _ _ e]; exact fun z => nomatch z
      have nF : ∀ j, j < 3 → b ∉ (x0 j).F := fun j hj m => by
        have f0 : H12 B0 = none ∧ H12 td0 = none := ⟨hB0, fA⟩
        rw [FE j hj, ex0] at m
        have eb := S12 _ _ e
        rcases (by omega : j = 0 ∨ j = 1 ∨ j = 2) with rfl | rfl | rfl
        · rcases fe2 m with h | h
          · exact ne_of_none eb hB0 h
          · exact ne_of_none eb fA h
        · rcases fe2 m with h | h
          · exact ne_of_none (sA _ _ eb) hB1 h
          · exact ne_of_none (sA _ _ eb) fB h
        · rcases fe2 m with h | h
          · exact ne_of_none ((sA.trans sB) _ _ eb) hB2 h
          · exact ne_of_none ((sA.trans sB) _ _ eb) fC h
      simp only [List.mem_cons, List.mem_append] at m
      rcases m with m | m | m | m | m
      · exact ex (by rw [m]; exact (s13.trans s14).free hpt)
      · rw [S6.free (frF b m)] at e; cases e
      · exact nF 0 (by omega) m
      · exact nF 1 (by omega) m
      · exact nF 2 (by omega) m)
  clear dj01 dj02 dj12 lstF inF exF exN newO
  -- building
  refine ⟨3, rfl, by decide, by decide, ?_⟩
  refine for_range (lo := 0) (n := 3) (fun i σ H' => ∃ x o12 o13 o14, σ = [some (.ref a), some (.ref hd), some (.int (mm : Nat)), some (.int (tn : Nat)), some (.int (tt : Nat)), some (.ref nb), some (.ref pl), some (.ref er), some (.ref ea), some (.ref pb), some (.ref ps), some (.ref pt), o12, o13, o14, none, none, none] ∧
    Wg K CS CH CT (blank HZ BL) H' nb as rs nds (fun j => if j < i then nds else []) x ∧ (∀ j, j < 3 → (x j).B = (x0 j).B) ∧ (∀ j, i ≤ j → j < 3 → (x j).L = []) ∧ H' pt = some (.lst ((List.range i).map fun j => V.ref (x j).tl)) ∧ Out nb as rs x pt ∧
    ∀ j, j < i → j < 3 → H' (x j).tl = some (.lst (tbF (x j).f nds.length)) ∧ Out nb as rs x (x j).tl ∧ blank HZ BL (x j).tl = none ∧ (x j).tl ≠ pt)
    ⟨x0, none, none, none, rfl, ⟨W0.sm, W0.bo, W0.bk, fun j hj => W0.vw j hj, W0.f1, W0.fn, W0.dj, W0.dn⟩, fun j _ => rfl, fun j _ h => xe j h, h15, opt, fun j h => absurd h (Nat.not_lt_zero _)⟩ ?_ ?_
  · rintro j σ H16 hj ⟨x, o12, o13, o14, rfl, W, eB, eL, ept, opt', tls⟩
    refine ⟨_, rfl, _, rfl, _, _, rfl, rfl, a, ns, 31 + j, (by show [V.ref a, V.int (31 + (0 + (j : Int)))] = _; rw [show (31 + (0 + (j : Int))) = ((31 + j : Nat) : Int) by omega]), sqL_sm hS (sH1 W.sm), by omega, fun b H17 s17 fb bg17 => ?_⟩
    have ob : Out nb as rs x b := W.fresh fb
    have B_b : blank HZ BL b = none := live_same W.sm _ fb
    have W17 := W.same s17
    refine ⟨_, rfl, _, rfl, _, rfl, pb, _, _, .ref (x j).B, rfl, rfl, SqL.of (W17.sm _ _ B_pb), by rw [Int.zero_add, eB j hj]; exact banksV_at hj, _, rfl, ?_⟩
    refine ⟨_, rfl, _, rfl, _, rfl, _, rfl, b, mm, tt, j, (by show [V.ref b, V.int _, V.int _, V.int (0 + (j : Int))] = _; rw [Int.zero_add]), bg17, by omega, by omega, fun od os H18 x18 fod hod OO => ?_⟩
    rw [← ln] at OO
    have W18 := W17.stp x18 ob B_b
    refine ⟨_, rfl, _, rfl, ps, _, _, .int (stJ j : Nat), rfl, rfl, SqT.of (W18.sm _ _ B_ps), by rw [Int.zero_add]; exact stepsV_at hj, ?_⟩
    have Y18 := W18.bk j hj
    rw [eL j (Nat.le_refl _) hj] at Y18
    have nBF : (x j).B ∉ FN nb as rs := fun m => W18.dn j hj _ m (by show _ ∈ FB _ _ _; simp [FB])
    have ntF : (x j).td ∉ FN nb as rs := fun m => W18.dn j hj _ m (by show _ ∈ FB _ _ _; simp [FB])
    refine ⟨j, hj, b, (x j).B, nb, (x j).td, od, as, rs, nds, os, rfl, x18.b1, Y18, W18.bo, nok, by omega, nBF, ntF, hod, (bg17.ne fod), OO, fun tl f L H19 Y19 V19 ht19 ftl ntl c19 b19 fr19 => ?_⟩
    obtain ⟨y, ey⟩ : ∃ y : Bx, y = ⟨(x j).B, (x j).td, tl, L, f⟩ := ⟨_, rfl⟩
    have fr' : ∀ c ∈ y.F, c ∈ (x j).F ∨ H18 c = none := fun c hc => by
      rw [ey] at hc
      rcases fr19 c hc with h | h | h
      · rw [h]; left; show _ ∈ FB _ _ _; simp [FB]
      · rw [h]; left; show _ ∈ FB _ _ _; simp [FB]
      · exact .inr h
    have W19 := W18.bank hj (y := y) (n := nds) c19 (fun c hc => by
      simp only [List.mem_cons, List.not_mem_nil, or_false] at hc
      rcases hc with rfl | rfl | rfl
      · exact .inr ⟨ob, B_b⟩
      · left; show _ ∈ FB _ _ _; simp [FB]
      · left; show _ ∈ FB _ _ _; simp [FB]) (by rw [ey]; exact Y19) (by rw [ey]; exact V19) fr'
    have en : putJ (fun j' => if j' < j then nds else []) j nds = fun j' => if j' < j + 1 then nds else [] := by
      funext j'
      unfold putJ
      by_cases c : j' = j
      · rw [if_pos c, if_pos (by omega)]
      · rw [if_neg c]
        show (if j' < j then nds else []) = _
        by_cases d : j' < j
        · rw [if_pos d, if_pos (by omega)]
        · rw [if_neg d, if_neg (by omega)]
    rw [en] at W19
    have S1617 : ∀ {c : Addr} {o : HO}, H16 c = some o → c ≠ b → H18 c = some o := fun h n => x18.keep _ _ n (s17 _ _ h)
    have nbx : ∀ {c : Addr} {o : HO}, H16 c = some o → c ≠ b := fun h => ne_of_none h fb
    have outk : ∀ {c : Addr} {o : HO}, Out nb as rs x c → H16 c = some o → Out nb as rs (putJ x j y) c ∧ H19 c = some o := fun oc h => by
      have h18 := S1617 h (nbx h)
      refine ⟨oc.put hj (by rw [h18]; exact fun z => nomatch z) fr', c19.keep _ _ (fun m => ?_) h18⟩
      simp only [List.mem_cons, List.not_mem_nil, or_false] at m
      rcases m with m | m | m
      · exact nbx h m
      · exact oc.2 j hj (by rw [m]; show _ ∈ FB _ _ _; simp [FB])
      · exact oc.2 j hj (by rw [m]; show _ ∈ FB _ _ _; simp [FB])
    obtain ⟨opt19, ept19⟩ := outk opt' ept
    refine ⟨_, rfl, _, .inl ⟨_, SqL.of ht19, rfl⟩, ?_⟩
    rw [tbF_full N1]
    refine iteF ⟨_, rfl, .inl ⟨rfl, _, SqL.of ept19⟩, _, rfl, pt, _, _, rfl, rfl, ept19, by rw [List.length_map, List.length_range]; omega, ?_⟩
    have c20 : Chg [pt] H19 (upd H19 pt (.lst ((List.range j).map (fun j => V.ref (x j).tl) ++ [.ref tl]))) := .upd ept19 (fun _ z => by cases z) (List.mem_singleton_self _)
    have W20 := W19.chg c20 (fun c hc => by rw [List.mem_singleton.mp hc]; exact ⟨opt19, B_pt⟩)
    have ntlpt : tl ≠ pt := fun z => by
      have := S1617 ept (nbx ept)
      rw [← z, ftl] at this; cases this
    have otl : Out nb as rs (putJ x j y) tl := by
      have o18 := W18.fresh ftl
      refine ⟨o18.1, fun i hi m => ?_⟩
      by_cases e : i = j
      · subst e; rw [putJ_same, ey] at m; exact ntl m
      · rw [putJ_ne e] at m; exact o18.2 i hi m
    refine ⟨putJ x j y, _, _, _, rfl, W20, fun i hi => ?_, fun i hi h3 => ?_, ?_, opt19, fun i hi h3 => ?_⟩
    · by_cases e : i = j
      · subst e; rw [putJ_same, ey]; exact eB i hi
      · rw [putJ_ne e]; exact eB i hi
    · rw [putJ_ne (by omega)]; exact eL i (by omega) h3
    · rw [upd_same, List.range_succ, List.map_append]
      have e1 : (List.range j).map (fun j_1 => V.ref (putJ x j y j_1).tl) = (List.range j).map (fun j => V.ref (x j).tl) := List.map_congr_left fun i hi => by
        have := List.mem_range.mp hi
        rw [putJ_ne (by omega)]
      rw [e1]
      show _ = some (HO.lst (_ ++ [V.ref (putJ x j y j).tl]))
      rw [putJ_same, ey]
    · by_cases e : i = j
      · subst e
        rw [putJ_same, ey]
        rw [ey] at otl
        exact ⟨by rw [upd_ne ntlpt]; exact ht19, otl, live_same W18.sm _ ftl, ntlpt⟩
      · rw [putJ_ne e]
        obtain ⟨t1, t2, t3, t4⟩ := tls i (by omega) h3
        obtain ⟨u1, u2⟩ := outk t2 t1
        exact ⟨by rw [upd_ne t4]; exact u2, u1, t3, t4⟩
  rintro σ H16 ⟨x, o12, o13, o14, rfl, W, eB, eL, ept, opt', tls⟩
  -- all is built
  have eBV : banksV x = banksV x0 := by unfold banksV; rw [eB 0 (by omega), eB 1 (by omega), eB 2 (by omega)]
  obtain ⟨FL, eFL⟩ : ∃ FL, FL = FN nb as rs ++ ((x 0).F ++ ((x 1).F ++ (x 2).F)) := ⟨_, rfl⟩
  have inL : ∀ {c : Addr}, Out nb as rs x c → c ∉ FL := fun o m => by
    rw [eFL] at m
    simp only [List.mem_append] at m
    rcases m with m | m | m | m
    · exact o.1 m
    · exact o.2 0 (by omega) m
    · exact o.2 1 (by omega) m
    · exact o.2 2 (by omega) m
  have W2 : Wg K CS CH CT (blank H16 FL) H16 nb as rs nds (fun _ => nds) x := by
    refine ⟨blank_same _ _, W.bo, W.bk, fun j hj => ?_, fun j hj c hc => blank_in ?_, fun c hc => blank_in ?_, W.dj, W.dn⟩
    · have := W.vw j hj
      rw [if_pos hj] at this
      exact this
    · rw [eFL]
      rcases (by omega : j = 0 ∨ j = 1 ∨ j = 2) with rfl | rfl | rfl <;> simp [hc]
    · rw [eFL]; simp [hc]
  have keep1 : ∀ {c : Addr} {o : HO}, blank HZ BL c = some o → blank H16 FL c = some o := fun h => by
    rw [blank_out (inL (W.out1 (by rw [h]; exact fun z => nomatch z)))]
    exact W.sm _ _ h
  have C_pb := keep1 B_pb
  rw [← eBV] at C_pb
  have C_pl := keep1 B_pl
  have C_er := keep1 B_er
  have C_ea := keep1 B_ea
  have C_pt : blank H16 FL pt = some (.lst (tabsV x)) := by rw [blank_out (inL opt')]; exact ept
  have C_tl : ∀ j, j < 3 → blank H16 FL (x j).tl = some (.lst (tbF (x j).f nds.length)) := fun j hj => by
    obtain ⟨t1, t2, _, _⟩ := tls j hj hj
    rw [blank_out (inL t2)]; exact t1
  have sH2 : Same H (blank H16 FL) := fun b o e => keep1 (sH1 (.refl _) b o e)
  have tZ : Tups HZ H16 := fun c vs h => W.sm _ _ (by rw [blank_out (outB (W0.tupO h) (ne_ob h h15 (fun z => by cases z)))]; exact h)
  have tF : Tups H16 (blank H16 FL) := fun c vs h => by rw [blank_out (inL (W.tupO h))]; exact h
  have C_re : Reps (blank H16 FL) ws2 (rowD ixD es2) := r12.mono ((Tups.same s125).trans (tZ.trans tF))
  have hsg : ∀ c : Bool, ∃ sg : Nat, ((if (6 : Int) < (mm : Int) then (6 : Int) else (mm : Int)) * (if c = true then (1 : Int) else 0)) = (sg : Nat) ∧ sg ≤ mm ∧ sg ≤ 6 := fun c => by
    cases c with
    | false => exact ⟨0, by rw [show (if false = true then (1 : Int) else 0) = 0 from rfl, Int.mul_zero]; rfl, by omega, by omega⟩
    | true =>
      by_cases e : (6 : Int) < (mm : Int)
      · exact ⟨6, by rw [if_pos e, if_pos rfl]; rfl, by omega, by omega⟩
      · exact ⟨mm, by rw [if_neg e, if_pos rfl, Int.mul_one], by omega, by omega⟩
  refine ⟨_, rfl, _, _, rfl, _, rfl, rfl, .inr ⟨_, rfl, _, _, rfl, rfl, .inl ⟨by split <;> omega, by split <;> omega⟩, ?_⟩⟩
  obtain ⟨sg, esg, sg1, sg2⟩ := hsg (decide (V.int (tt : Nat) = V.int 0))
  have all : ∀ {H' : Hp} {nds' : List Nd} {x' : Nat → Bx}, Wg K CS CH CT (blank H16 FL) H' nb as rs nds' (fun _ => nds') x' → nds'.length = nds.length → (∀ j, (x' j).B = (x j).B ∧ (x' j).tl = (x j).tl ∧ (x' j).f = (x j).f) →
      nds'.length ≤ 1300 ∧ H' pb = some (.lst (banksV x')) ∧ H' pt = some (.lst (tabsV x')) ∧ (∀ j, j < 3 → H' (x' j).tl = some (.lst (tbF (x' j).f nds'.length))) ∧ H' ea = some (.lst ws2) ∧ Reps H' ws2 (rowD ixD es2) ∧ (∀ e ∈ es2, e.ok nds'.length) ∧ sg ≤ nds'.length := fun {H' nds' x'} W' l' ex' => by
    refine ⟨by omega, by rw [banksV_eq ex']; exact W'.sm _ _ C_pb, by rw [tabsV_eq ex']; exact W'.sm _ _ C_pt, fun j hj => ?_, W'.sm _ _ C_ea, C_re.mono (.same W'.sm), by rw [l']; exact o12', by omega⟩
    rw [(ex' j).2.1, (ex' j).2.2, l']
    exact W'.sm _ _ (C_tl j hj)
  refine ⟨_, rfl, _, rfl, _, rfl, _, rfl, _, rfl, ?_⟩
  obtain ⟨a1, a2, a3, a4, a5, a6, a7, a8⟩ := all W2 rfl (fun j => ⟨rfl, rfl, rfl⟩)
  refine ⟨blank H16 FL, pb, pt, nb, ea, as, rs, nds, x, ws2, es2, sg, (by show [V.ref pb, .ref pt, .ref nb, .ref ea, .int _] = _; rw [esg]), W2, nok, a1, a2, a3, a4, a5, a6, a7, by omega, a8, by omega, fun H17 s17 => ⟨_, rfl, iteF ?_⟩⟩
  clear a1 a2 a3 a4 a5 a6 a7 a8
  have W17 := W2.same s17
  refine ⟨_, rfl, (tn : Int), rfl, by omega, by omega, ?_⟩
  refine for_range (lo := 0) (n := tn) (fun i σ H' => ∃ nds' x' o16, σ = [some (.ref a), some (.ref hd), some (.int (mm : Nat)), some (.int (tn : Nat)), some (.int (tt : Nat)), some (.ref nb), some (.ref pl), some (.ref er), some (.ref ea), some (.ref pb), some (.ref ps), some (.ref pt), o12, o13, o14,
      some (.int ((if (6 : Int) < (mm : Int) then (6 : Int) else (mm : Int)) * (if decide (V.int (tt : Nat) = V.int 0) = true then (1 : Int) else 0))), o16, none] ∧
    Wg K CS CH CT (blank H16 FL) H' nb as rs nds' (fun _ => nds') x' ∧ (∀ n ∈ nds', n.ok nds'.length) ∧ nds'.length = nds.length ∧ ∀ j, (x' j).B = (x j).B ∧ (x' j).tl = (x j).tl ∧ (x' j).f = (x j).f)
    ⟨nds, x, none, rfl, W17, nok, rfl, fun j => ⟨rfl, rfl, rfl⟩⟩ ?_ ?_
  · rintro i σ H18 hi ⟨nds', x', o16, rfl, W', ok', l', ex'⟩
    refine ⟨_, rfl, _, rfl, _, _, rfl, rfl, a, ns, 34 + i, (by show [V.ref a, V.int (34 + (0 + (i : Int)))] = _; rw [show (34 + (0 + (i : Int))) = ((34 + i : Nat) : Int) by omega]), sqL_sm hS (sH2.trans W'.sm), by omega, fun b H19 s19 fb bg19 => ?_⟩
    have W19 := W'.same s19
    refine ⟨_, rfl, _, rfl, _, rfl, _, rfl, _, rfl, ?_⟩
    refine ⟨blank H16 FL, b, pb, pt, nb, pl, er, as, rs, nds', x', List.range mm, ks, rfl, bg19, W'.fresh fb, live_same W'.sm _ fb, W19, ok', by omega, by rw [banksV_eq ex']; exact C_pb, by rw [tabsV_eq ex']; exact C_pt, fun j hj => ?_, C_pl, fun k hk => by have := List.mem_range.mp hk; omega, by rw [List.length_range]; omega, C_er, fun k hk => by rw [l']; exact ok9 k hk, by omega, fun H20 nds2 x2 W20 ok2 l2 ex2 => ?_⟩
    · rw [(ex' j).2.1, (ex' j).2.2, l']; exact C_tl j hj
    have ex3 : ∀ j, (x2 j).B = (x j).B ∧ (x2 j).tl = (x j).tl ∧ (x2 j).f = (x j).f := fun j => ⟨(ex2 j).1.trans (ex' j).1, (ex2 j).2.1.trans (ex' j).2.1, (ex2 j).2.2.trans (ex' j).2.2⟩
    refine ⟨_, rfl, _, rfl, _, rfl, _, rfl, _, rfl, ?_⟩
    obtain ⟨a1, a2, a3, a4, a5, a6, a7, a8⟩ := all W20 (l2.trans l') ex3
    refine ⟨blank H16 FL, pb, pt, nb, ea, as, rs, nds2, x2, ws2, es2, sg, (by show [V.ref pb, .ref pt, .ref nb, .ref ea, .int _] = _; rw [esg]), W20, ok2, a1, a2, a3, a4, a5, a6, a7, by omega, a8, by omega, fun H21 s21 => ⟨_, rfl, iteF ?_⟩⟩
    exact ⟨nds2, x2, _, rfl, W20.same s21, ok2, l2.trans l', ex3⟩
  · rintro σ H18 _
    exact q _
end
end D0
namespace D0
open PySem PySem.Spec PyProof.Rows L2 SX NumText
section
variable {P : Program} {w : World} {K : PySem.W.Frag} {mg : Str → Option Value} {base : Heap} {CS CH CT : Addr}
theorem all_ok (T : Txt K w mg) (TT : ThT K mg CT) (TS : StT K mg CS) (TX : StX K mg CS) (TH : HeT K mg CH) : OkD P w K mg base CX0 14 "law" p_law (spLaw K) := by
  have O := ok__law_take (P := P) (base := base) T
  have Oc := ok__law_cell (P := P) (base := base) T
  have Ob := ok__law_box T Oc
  have Ow := ok__law_word T O
  have On := ok__law_name T O
  have Op := ok__law_plain T O Ow
  have Oki := ok__law_kinds (P := P) (base := base) T
  have Ok := ok__law_kind T O Oki
  have Om := ok__law_marks (P := P) (base := base) T
  have Opd := ok__law_pending T O Op
  have Omk := ok__law_marked T O Op Opd
  have Oen := ok__law_entry T O Op Omk
  have Ot := ok__law_tag T O On
  have Of := ok__law_form T O Ow Om Oen Ot
  have Ofr := ok__law_free (P := P) (base := base) T
  have Omv := ok__law_moved (P := P) (base := base) T
  have Ose := ok__law_sent T Omv
  have Osa := ok__law_same (P := P) (base := base) T 9
  have Oy := ok_is_young (P := P) (base := base) T
  have Orm := ok_Heap_remember T TH Oy
  have Oad := ok_address_of (P := P) (base := base) T
  have Opm := ok_moved (P := P) (base := base) T
  have OmS := ok_meet_all T TS.bk Oad
  have OmH := ok_meet_all T TH.bk Oad
  have OrS := ok_reach T TT TS.bk OmS
  have OrH := ok_reach T TT TH.bk OmH
  have BS : BkM P w K mg base CS CT 1 := {
    cl := TS.bk.cl, h1 := by omega, h2 := by omega,
    make := ok_Store_make T TT TS, set_slot := (ok_Store_set_slot TT TS).mono (by omega), change := (ok_Store_change T TT TS).mono (by omega), reach := OrS, graph := ok_graph T TT TS.bk OrS Opm }
  have BH : BkM P w K mg base CH CT 2 := {
    cl := TH.bk.cl, h1 := by omega, h2 := by omega,
    make := ok_Heap_make T TT TH, set_slot := ok_Heap_set_slot TT TH Orm, change := ok_Heap_change T TT TH Orm, reach := OrH, graph := ok_graph T TT TH.bk OrH Opm }
  have Otg := ok__law_target (P := P) (base := base) T
  have Owk := ok__law_walk T Otg
  have Ogr := ok__law_graph T Ose
  have Ono := ok__law_nodes T Ob Ok Of
  have Oba := ok__law_bare T Otg
  have Oor := ok__law_order T O
  have ObS := ok__law_built T BS O Osa Oba Otg Omv Ose
  have ObH := ok__law_built T BH O Osa Oba Otg Omv Ose
  have OaS := ok__law_asked T BS Owk Ose Osa Ogr
  have OaH := ok__law_asked T BH Owk Ose Osa Ogr
  have Oal := ok__law_all T OaS OaH
  have Ost := ok__law_set T BS BH O Ofr Oen Om Omv
  exact ok_law T TS TX TH Ob O Ono Oen Oor ObS ObH Oal Ost
end
end D0
namespace D0
open PySem PySem.Spec PyProof.Rows L2 SX NumText
set_option maxHeartbeats 8000000 in
theorem all_mk {l : PySem.W.OpenLaw} {w : World} {K : PySem.W.Frag} {h : Heap} {mg : Str → Option Value} {fa : Addr} (X : K.In h) (G : h.Ns mainGlobals mg) (hfa : mg "law" = some (.ref fa))
    {od1 an1 : Option Addr} {sl1 : Array (Option Value)} {oc1 kV1 dc1 pm1 cd1 ct1 : Value} {f1 : Addr}
    {od2 an2 : Option Addr} {sl2 : Array (Option Value)} {oc2 kV2 dc2 pm2 cd2 ct2 : Value} {f2 : Addr}
    {od3 an3 : Option Addr} {sl3 : Array (Option Value)} {oc3 kV3 dc3 pm3 cd3 ct3 : Value} {f3 : Addr}
    {od4 an4 : Option Addr} {sl4 : Array (Option Value)} {oc4 kV4 dc4 pm4 cd4 ct4 : Value} {f4 : Addr}
    {od5 an5 : Option Addr} {sl5 : Array (Option Value)} {oc5 kV5 dc5 pm5 cd5 ct5 : Value} {f5 : Addr}
    {od6 an6 : Option Addr} {sl6 : Array (Option Value)} {oc6 kV6 dc6 pm6 cd6 ct6 : Value} {f6 : Addr}
    {od7 an7 : Option Addr} {sl7 : Array (Option Value)} {oc7 kV7 dc7 pm7 cd7 ct7 : Value} {f7 : Addr}
    {od8 an8 : Option Addr} {sl8 : Array (Option Value)} {oc8 kV8 dc8 pm8 cd8 ct8 : Value} {f8 : Addr}
    {od9 an9 : Option Addr} {sl9 : Array (Option Value)} {oc9 kV9 dc9 pm9 cd9 ct9 : Value} {f9 : Addr}
    {od10 an10 : Option Addr} {sl10 : Array (Option Value)} {oc10 kV10 dc10 pm10 cd10 ct10 : Value} {f10 : Addr}
    {od11 an11 : Option Addr} {sl11 : Array (Option Value)} {oc11 kV11 dc11 pm11 cd11 ct11 : Value} {f11 : Addr}
    {od12 an12 : Option Addr} {sl12 : Array (Option Value)} {oc12 kV12 dc12 pm12 cd12 ct12 : Value} {f12 : Addr}
    {od13 an13 : Option Addr} {sl13 : Array (Option Value)} {oc13 kV13 dc13 pm13 cd13 ct13 : Value} {f13 : Addr}
    {od14 an14 : Option Addr} {sl14 : Array (Option Value)} {oc14 kV14 dc14 pm14 cd14 ct14 : Value} {f14 : Addr}
    {od15 an15 : Option Addr} {sl15 : Array (Option Value)} {oc15 kV15 dc15 pm15 cd15 ct15 : Value} {f15 : Addr}
    {od16 an16 : Option Addr} {sl16 : Array (Option Value)} {oc16 kV16 dc16 pm16 cd16 ct16 : Value} {f16 : Addr}
    {od17 an17 : Option Addr} {sl17 : Array (Option Value)} {oc17 kV17 dc17 pm17 cd17 ct17 : Value} {f17 : Addr}
    {od18 an18 : Option Addr} {sl18 : Array (Option Value)} {oc18 kV18 dc18 pm18 cd18 ct18 : Value} {f18 : Addr}
    {od19 an19 : Option Addr} {sl19 : Array (Option Value)} {oc19 kV19 dc19 pm19 cd19 ct19 : Value} {f19 : Addr}
    {od20 an20 : Option Addr} {sl20 : Array (Option Value)} {oc20 kV20 dc20 pm20 cd20 ct20 : Value} {f20 : Addr}
    {od21 an21 : Option Addr} {sl21 : Array (Option Value)} {oc21 kV21 dc21 pm21 cd21 ct21 : Value} {f21 : Addr}
    {od22 an22 : Option Addr} {sl22 : Array (Option Value)} {oc22 kV22 dc22 pm22 cd22 ct22 : Value} {f22 : Addr}
    {od23 an23 : Option Addr} {sl23 : Array (Option Value)} {oc23 kV23 dc23 pm23 cd23 ct23 : Value} {f23 : Addr}
    {od24 an24 : Option Addr} {sl24 : Array (Option Value)} {oc24 kV24 dc24 pm24 cd24 ct24 : Value} {f24 : Addr}
    {od25 an25 : Option Addr} {sl25 : Array (Option Value)} {oc25 kV25 dc25 pm25 cd25 ct25 : Value} {f25 : Addr}
    {od26 an26 : Option Addr} {sl26 : Array (Option Value)} {oc26 kV26 dc26 pm26 cd26 ct26 : Value} {f26 : Addr}
    {od27 an27 : Option Addr} {sl27 : Array (Option Value)} {oc27 kV27 dc27 pm27 cd27 ct27 : Value} {f27 : Addr}
    {od28 an28 : Option Addr} {sl28 : Array (Option Value)} {oc28 kV28 dc28 pm28 cd28 ct28 : Value} {f28 : Addr}
    {od29 an29 : Option Addr} {sl29 : Array (Option Value)} {oc29 kV29 dc29 pm29 cd29 ct29 : Value} {f29 : Addr}
    {od30 an30 : Option Addr} {sl30 : Array (Option Value)} {oc30 kV30 dc30 pm30 cd30 ct30 : Value} {f30 : Addr}
    {od31 an31 : Option Addr} {sl31 : Array (Option Value)} {oc31 kV31 dc31 pm31 cd31 ct31 : Value} {f31 : Addr}
    {od32 an32 : Option Addr} {sl32 : Array (Option Value)} {oc32 kV32 dc32 pm32 cd32 ct32 : Value} {f32 : Addr}
    {od33 an33 : Option Addr} {sl33 : Array (Option Value)} {oc33 kV33 dc33 pm33 cd33 ct33 : Value} {f33 : Addr}
    {od34 an34 : Option Addr} {sl34 : Array (Option Value)} {oc34 kV34 dc34 pm34 cd34 ct34 : Value} {f34 : Addr}
    {od35 an35 : Option Addr} {sl35 : Array (Option Value)} {oc35 kV35 dc35 pm35 cd35 ct35 : Value} {f35 : Addr}
    {od36 an36 : Option Addr} {sl36 : Array (Option Value)} {oc36 kV36 dc36 pm36 cd36 ct36 : Value} {f36 : Addr}
    {od37 an37 : Option Addr} {sl37 : Array (Option Value)} {oc37 kV37 dc37 pm37 cd37 ct37 : Value} {f37 : Addr}
    {od38 an38 : Option Addr} {sl38 : Array (Option Value)} {oc38 kV38 dc38 pm38 cd38 ct38 : Value} {f38 : Addr}
    {od39 an39 : Option Addr} {sl39 : Array (Option Value)} {oc39 kV39 dc39 pm39 cd39 ct39 : Value} {f39 : Addr}
    {od40 an40 : Option Addr} {sl40 : Array (Option Value)} {oc40 kV40 dc40 pm40 cd40 ct40 : Value} {f40 : Addr}
    {od41 an41 : Option Addr} {sl41 : Array (Option Value)} {oc41 kV41 dc41 pm41 cd41 ct41 : Value} {f41 : Addr}
    {od42 an42 : Option Addr} {sl42 : Array (Option Value)} {oc42 kV42 dc42 pm42 cd42 ct42 : Value} {f42 : Addr}
    {od43 an43 : Option Addr} {sl43 : Array (Option Value)} {oc43 kV43 dc43 pm43 cd43 ct43 : Value} {f43 : Addr}
    {od44 an44 : Option Addr} {sl44 : Array (Option Value)} {oc44 kV44 dc44 pm44 cd44 ct44 : Value} {f44 : Addr}
    {od45 an45 : Option Addr} {sl45 : Array (Option Value)} {oc45 kV45 dc45 pm45 cd45 ct45 : Value} {f45 : Addr}
    {od46 an46 : Option Addr} {sl46 : Array (Option Value)} {oc46 kV46 dc46 pm46 cd46 ct46 : Value} {f46 : Addr}
    {od47 an47 : Option Addr} {sl47 : Array (Option Value)} {oc47 kV47 dc47 pm47 cd47 ct47 : Value} {f47 : Addr}
    {CT CS CH : Addr}
    (a1 : PySem.W.nsIn K mainGlobals "_wall" = some (some (.ref f1)))
    (l1 : K.lookup f1 = some ⟨oc1, od1, .func (PySem.W.fnOf "_wall" "_wall" (defArgs s__wall) (defBody s__wall) (defScope s__wall) .none kV1 dc1 pm1 an1 cd1 ct1), sl1⟩)
    (c1 : PySem.W.codeIn K cd1 "_wall" = true)
    (k1 : PySem.W.keepIn K (.ref f1) = true)
    (a2 : PySem.W.findIn K (.ref CT) "__init__" = some (some (.ref f2)))
    (i2 : PySem.W.isFn K (.ref f2) = true)
    (l2 : K.lookup f2 = some ⟨oc2, od2, .func (PySem.W.fnOf "__init__" "Thing.__init__" (defArgs s_Thing___init__) (defBody s_Thing___init__) (defScope s_Thing___init__) .none kV2 dc2 pm2 an2 cd2 ct2), sl2⟩)
    (c2 : PySem.W.codeIn K cd2 "Thing.__init__" = true)
    (k2 : PySem.W.keepIn K (.ref f2) = true)
    (a3 : PySem.W.findIn K (.ref CS) "__init__" = some (some (.ref f3)))
    (i3 : PySem.W.isFn K (.ref f3) = true)
    (v3 : PySem.W.findCls K (.ref CS) (.type "type") "__init__" = some (.val (.ref f3)))
    (l3 : K.lookup f3 = some ⟨oc3, od3, .func (PySem.W.fnOf "__init__" "Store.__init__" (defArgs s_Store___init__) (defBody s_Store___init__) (defScope s_Store___init__) .none kV3 dc3 pm3 an3 cd3 ct3), sl3⟩)
    (c3 : PySem.W.codeIn K cd3 "Store.__init__" = true)
    (k3 : PySem.W.keepIn K (.ref f3) = true)
    (a4 : PySem.W.findIn K (.ref CS) "make" = some (some (.ref f4)))
    (i4 : PySem.W.isFn K (.ref f4) = true)
    (l4 : K.lookup f4 = some ⟨oc4, od4, .func (PySem.W.fnOf "make" "Store.make" (defArgs s_Store_make) (defBody s_Store_make) (defScope s_Store_make) .none kV4 dc4 pm4 an4 cd4 ct4), sl4⟩)
    (c4 : PySem.W.codeIn K cd4 "Store.make" = true)
    (k4 : PySem.W.keepIn K (.ref f4) = true)
    (a5 : PySem.W.findIn K (.ref CS) "set_slot" = some (some (.ref f5)))
    (i5 : PySem.W.isFn K (.ref f5) = true)
    (l5 : K.lookup f5 = some ⟨oc5, od5, .func (PySem.W.fnOf "set_slot" "Store.set_slot" (defArgs s_Store_set_slot) (defBody s_Store_set_slot) (defScope s_Store_set_slot) .none kV5 dc5 pm5 an5 cd5 ct5), sl5⟩)
    (c5 : PySem.W.codeIn K cd5 "Store.set_slot" = true)
    (k5 : PySem.W.keepIn K (.ref f5) = true)
    (a6 : PySem.W.findIn K (.ref CS) "change" = some (some (.ref f6)))
    (i6 : PySem.W.isFn K (.ref f6) = true)
    (l6 : K.lookup f6 = some ⟨oc6, od6, .func (PySem.W.fnOf "change" "Store.change" (defArgs s_Store_change) (defBody s_Store_change) (defScope s_Store_change) .none kV6 dc6 pm6 an6 cd6 ct6), sl6⟩)
    (c6 : PySem.W.codeIn K cd6 "Store.change" = true)
    (k6 : PySem.W.keepIn K (.ref f6) = true)
    (a7 : PySem.W.findIn K (.ref CS) "reach" = some (some (.ref f7)))
    (i7 : PySem.W.isFn K (.ref f7) = true)
    (h7 : PySem.W.findIn K (.ref CH) "reach" = some (some (.ref f7)))
    (l7 : K.lookup f7 = some ⟨oc7, od7, .func (PySem.W.fnOf "reach" "Store.reach" (defArgs s_Store_reach) (defBody s_Store_reach) (defScope s_Store_reach) .none kV7 dc7 pm7 an7 cd7 ct7), sl7⟩)
    (c7 : PySem.W.codeIn K cd7 "Store.reach" = true)
    (k7 : PySem.W.keepIn K (.ref f7) = true)
    (a8 : PySem.W.findIn K (.ref CS) "meet_all" = some (some (.ref f8)))
    (i8 : PySem.W.isFn K (.ref f8) = true)
    (h8 : PySem.W.findIn K (.ref CH) "meet_all" = some (some (.ref f8)))
    (l8 : K.lookup f8 = some ⟨oc8, od8, .func (PySem.W.fnOf "meet_all" "Store.meet_all" (defArgs s_Store_meet_all) (defBody s_Store_meet_all) (defScope s_Store_meet_all) .none kV8 dc8 pm8 an8 cd8 ct8), sl8⟩)
    (c8 : PySem.W.codeIn K cd8 "Store.meet_all" = true)
    (k8 : PySem.W.keepIn K (.ref f8) = true)
    (a9 : PySem.W.findIn K (.ref CS) "graph" = some (some (.ref f9)))
    (i9 : PySem.W.isFn K (.ref f9) = true)
    (h9 : PySem.W.findIn K (.ref CH) "graph" = some (some (.ref f9)))
    (l9 : K.lookup f9 = some ⟨oc9, od9, .func (PySem.W.fnOf "graph" "Store.graph" (defArgs s_Store_graph) (defBody s_Store_graph) (defScope s_Store_graph) .none kV9 dc9 pm9 an9 cd9 ct9), sl9⟩)
    (c9 : PySem.W.codeIn K cd9 "Store.graph" = true)
    (k9 : PySem.W.keepIn K (.ref f9) = true)
    (a10 : PySem.W.nsIn K mainGlobals "address_of" = some (some (.ref f10)))
    (l10 : K.lookup f10 = some ⟨oc10, od10, .func (PySem.W.fnOf "address_of" "address_of" (defArgs s_address_of) (defBody s_address_of) (defScope s_address_of) .none kV10 dc10 pm10 an10 cd10 ct10), sl10⟩)
    (c10 : PySem.W.codeIn K cd10 "address_of" = true)
    (k10 : PySem.W.keepIn K (.ref f10) = true)
    (a11 : PySem.W.nsIn K mainGlobals "moved" = some (some (.ref f11)))
    (l11 : K.lookup f11 = some ⟨oc11, od11, .func (PySem.W.fnOf "moved" "moved" (defArgs s_moved) (defBody s_moved) (defScope s_moved) .none kV11 dc11 pm11 an11 cd11 ct11), sl11⟩)
    (c11 : PySem.W.codeIn K cd11 "moved" = true)
    (k11 : PySem.W.keepIn K (.ref f11) = true)
    (a12 : PySem.W.findIn K (.ref CH) "__init__" = some (some (.ref f12)))
    (i12 : PySem.W.isFn K (.ref f12) = true)
    (l12 : K.lookup f12 = some ⟨oc12, od12, .func (PySem.W.fnOf "__init__" "Heap.__init__" (defArgs s_Heap___init__) (defBody s_Heap___init__) (defScope s_Heap___init__) .none kV12 dc12 pm12 an12 cd12 ct12), sl12⟩)
    (c12 : PySem.W.codeIn K cd12 "Heap.__init__" = true)
    (k12 : PySem.W.keepIn K (.ref f12) = true)
    (a13 : PySem.W.findIn K (.ref CH) "make" = some (some (.ref f13)))
    (i13 : PySem.W.isFn K (.ref f13) = true)
    (l13 : K.lookup f13 = some ⟨oc13, od13, .func (PySem.W.fnOf "make" "Heap.make" (defArgs s_Heap_make) (defBody s_Heap_make) (defScope s_Heap_make) .none kV13 dc13 pm13 an13 cd13 ct13), sl13⟩)
    (c13 : PySem.W.codeIn K cd13 "Heap.make" = true)
    (k13 : PySem.W.keepIn K (.ref f13) = true)
    (a14 : PySem.W.findIn K (.ref CH) "set_slot" = some (some (.ref f14)))
    (i14 : PySem.W.isFn K (.ref f14) = true)
    (l14 : K.lookup f14 = some ⟨oc14, od14, .func (PySem.W.fnOf "set_slot" "Heap.set_slot" (defArgs s_Heap_set_slot) (defBody s_Heap_set_slot) (defScope s_Heap_set_slot) .none kV14 dc14 pm14 an14 cd14 ct14), sl14⟩)
    (c14 : PySem.W.codeIn K cd14 "Heap.set_slot" = true)
    (k14 : PySem.W.keepIn K (.ref f14) = true)
    (a15 : PySem.W.findIn K (.ref CH) "change" = some (some (.ref f15)))
    (i15 : PySem.W.isFn K (.ref f15) = true)
    (l15 : K.lookup f15 = some ⟨oc15, od15, .func (PySem.W.fnOf "change" "Heap.change" (defArgs s_Heap_change) (defBody s_Heap_change) (defScope s_Heap_change) .none kV15 dc15 pm15 an15 cd15 ct15), sl15⟩)
    (c15 : PySem.W.codeIn K cd15 "Heap.change" = true)
    (k15 : PySem.W.keepIn K (.ref f15) = true)
    (a16 : PySem.W.findIn K (.ref CH) "remember" = some (some (.ref f16)))
    (i16 : PySem.W.isFn K (.ref f16) = true)
    (l16 : K.lookup f16 = some ⟨oc16, od16, .func (PySem.W.fnOf "remember" "Heap.remember" (defArgs s_Heap_remember) (defBody s_Heap_remember) (defScope s_Heap_remember) .none kV16 dc16 pm16 an16 cd16 ct16), sl16⟩)
    (c16 : PySem.W.codeIn K cd16 "Heap.remember" = true)
    (k16 : PySem.W.keepIn K (.ref f16) = true)
    (a17 : PySem.W.nsIn K mainGlobals "is_young" = some (some (.ref f17)))
    (l17 : K.lookup f17 = some ⟨oc17, od17, .func (PySem.W.fnOf "is_young" "is_young" (defArgs s_is_young) (defBody s_is_young) (defScope s_is_young) .none kV17 dc17 pm17 an17 cd17 ct17), sl17⟩)
    (c17 : PySem.W.codeIn K cd17 "is_young" = true)
    (k17 : PySem.W.keepIn K (.ref f17) = true)
    (a18 : PySem.W.nsIn K mainGlobals "refers_to_young" = some (some (.ref f18)))
    (l18 : K.lookup f18 = some ⟨oc18, od18, .func (PySem.W.fnOf "refers_to_young" "refers_to_young" (defArgs s_refers_to_young) (defBody s_refers_to_young) (defScope s_refers_to_young) .none kV18 dc18 pm18 an18 cd18 ct18), sl18⟩)
    (c18 : PySem.W.codeIn K cd18 "refers_to_young" = true)
    (k18 : PySem.W.keepIn K (.ref f18) = true)
    (a19 : PySem.W.nsIn K mainGlobals "_law_cell" = some (some (.ref f19)))
    (l19 : K.lookup f19 = some ⟨oc19, od19, .func (PySem.W.fnOf "_law_cell" "_law_cell" (defArgs s__law_cell) (defBody s__law_cell) (defScope s__law_cell) .none kV19 dc19 pm19 an19 cd19 ct19), sl19⟩)
    (c19 : PySem.W.codeIn K cd19 "_law_cell" = true)
    (k19 : PySem.W.keepIn K (.ref f19) = true)
    (a20 : PySem.W.nsIn K mainGlobals "_law_box" = some (some (.ref f20)))
    (l20 : K.lookup f20 = some ⟨oc20, od20, .func (PySem.W.fnOf "_law_box" "_law_box" (defArgs s__law_box) (defBody s__law_box) (defScope s__law_box) .none kV20 dc20 pm20 an20 cd20 ct20), sl20⟩)
    (c20 : PySem.W.codeIn K cd20 "_law_box" = true)
    (k20 : PySem.W.keepIn K (.ref f20) = true)
    (a21 : PySem.W.nsIn K mainGlobals "_law_take" = some (some (.ref f21)))
    (l21 : K.lookup f21 = some ⟨oc21, od21, .func (PySem.W.fnOf "_law_take" "_law_take" (defArgs s__law_take) (defBody s__law_take) (defScope s__law_take) .none kV21 dc21 pm21 an21 cd21 ct21), sl21⟩)
    (c21 : PySem.W.codeIn K cd21 "_law_take" = true)
    (k21 : PySem.W.keepIn K (.ref f21) = true)
    (a22 : PySem.W.nsIn K mainGlobals "_law_same" = some (some (.ref f22)))
    (l22 : K.lookup f22 = some ⟨oc22, od22, .func (PySem.W.fnOf "_law_same" "_law_same" (defArgs s__law_same) (defBody s__law_same) (defScope s__law_same) .none kV22 dc22 pm22 an22 cd22 ct22), sl22⟩)
    (c22 : PySem.W.codeIn K cd22 "_law_same" = true)
    (k22 : PySem.W.keepIn K (.ref f22) = true)
    (a23 : PySem.W.nsIn K mainGlobals "_law_word" = some (some (.ref f23)))
    (l23 : K.lookup f23 = some ⟨oc23, od23, .func (PySem.W.fnOf "_law_word" "_law_word" (defArgs s__law_word) (defBody s__law_word) (defScope s__law_word) .none kV23 dc23 pm23 an23 cd23 ct23), sl23⟩)
    (c23 : PySem.W.codeIn K cd23 "_law_word" = true)
    (k23 : PySem.W.keepIn K (.ref f23) = true)
    (a24 : PySem.W.nsIn K mainGlobals "_law_name" = some (some (.ref f24)))
    (l24 : K.lookup f24 = some ⟨oc24, od24, .func (PySem.W.fnOf "_law_name" "_law_name" (defArgs s__law_name) (defBody s__law_name) (defScope s__law_name) .none kV24 dc24 pm24 an24 cd24 ct24), sl24⟩)
    (c24 : PySem.W.codeIn K cd24 "_law_name" = true)
    (k24 : PySem.W.keepIn K (.ref f24) = true)
    (a25 : PySem.W.nsIn K mainGlobals "_law_plain" = some (some (.ref f25)))
    (l25 : K.lookup f25 = some ⟨oc25, od25, .func (PySem.W.fnOf "_law_plain" "_law_plain" (defArgs s__law_plain) (defBody s__law_plain) (defScope s__law_plain) .none kV25 dc25 pm25 an25 cd25 ct25), sl25⟩)
    (c25 : PySem.W.codeIn K cd25 "_law_plain" = true)
    (k25 : PySem.W.keepIn K (.ref f25) = true)
    (a26 : PySem.W.nsIn K mainGlobals "_law_pending" = some (some (.ref f26)))
    (l26 : K.lookup f26 = some ⟨oc26, od26, .func (PySem.W.fnOf "_law_pending" "_law_pending" (defArgs s__law_pending) (defBody s__law_pending) (defScope s__law_pending) .none kV26 dc26 pm26 an26 cd26 ct26), sl26⟩)
    (c26 : PySem.W.codeIn K cd26 "_law_pending" = true)
    (k26 : PySem.W.keepIn K (.ref f26) = true)
    (a27 : PySem.W.nsIn K mainGlobals "_law_marked" = some (some (.ref f27)))
    (l27 : K.lookup f27 = some ⟨oc27, od27, .func (PySem.W.fnOf "_law_marked" "_law_marked" (defArgs s__law_marked) (defBody s__law_marked) (defScope s__law_marked) .none kV27 dc27 pm27 an27 cd27 ct27), sl27⟩)
    (c27 : PySem.W.codeIn K cd27 "_law_marked" = true)
    (k27 : PySem.W.keepIn K (.ref f27) = true)
    (a28 : PySem.W.nsIn K mainGlobals "_law_entry" = some (some (.ref f28)))
    (l28 : K.lookup f28 = some ⟨oc28, od28, .func (PySem.W.fnOf "_law_entry" "_law_entry" (defArgs s__law_entry) (defBody s__law_entry) (defScope s__law_entry) .none kV28 dc28 pm28 an28 cd28 ct28), sl28⟩)
    (c28 : PySem.W.codeIn K cd28 "_law_entry" = true)
    (k28 : PySem.W.keepIn K (.ref f28) = true)
    (a29 : PySem.W.nsIn K mainGlobals "_law_kinds" = some (some (.ref f29)))
    (l29 : K.lookup f29 = some ⟨oc29, od29, .func (PySem.W.fnOf "_law_kinds" "_law_kinds" (defArgs s__law_kinds) (defBody s__law_kinds) (defScope s__law_kinds) .none kV29 dc29 pm29 an29 cd29 ct29), sl29⟩)
    (c29 : PySem.W.codeIn K cd29 "_law_kinds" = true)
    (k29 : PySem.W.keepIn K (.ref f29) = true)
    (a30 : PySem.W.nsIn K mainGlobals "_law_kind" = some (some (.ref f30)))
    (l30 : K.lookup f30 = some ⟨oc30, od30, .func (PySem.W.fnOf "_law_kind" "_law_kind" (defArgs s__law_kind) (defBody s__law_kind) (defScope s__law_kind) .none kV30 dc30 pm30 an30 cd30 ct30), sl30⟩)
    (c30 : PySem.W.codeIn K cd30 "_law_kind" = true)
    (k30 : PySem.W.keepIn K (.ref f30) = true)
    (a31 : PySem.W.nsIn K mainGlobals "_law_marks" = some (some (.ref f31)))
    (l31 : K.lookup f31 = some ⟨oc31, od31, .func (PySem.W.fnOf "_law_marks" "_law_marks" (defArgs s__law_marks) (defBody s__law_marks) (defScope s__law_marks) .none kV31 dc31 pm31 an31 cd31 ct31), sl31⟩)
    (c31 : PySem.W.codeIn K cd31 "_law_marks" = true)
    (k31 : PySem.W.keepIn K (.ref f31) = true)
    (a32 : PySem.W.nsIn K mainGlobals "_law_tag" = some (some (.ref f32)))
    (l32 : K.lookup f32 = some ⟨oc32, od32, .func (PySem.W.fnOf "_law_tag" "_law_tag" (defArgs s__law_tag) (defBody s__law_tag) (defScope s__law_tag) .none kV32 dc32 pm32 an32 cd32 ct32), sl32⟩)
    (c32 : PySem.W.codeIn K cd32 "_law_tag" = true)
    (k32 : PySem.W.keepIn K (.ref f32) = true)
    (a33 : PySem.W.nsIn K mainGlobals "_law_form" = some (some (.ref f33)))
    (l33 : K.lookup f33 = some ⟨oc33, od33, .func (PySem.W.fnOf "_law_form" "_law_form" (defArgs s__law_form) (defBody s__law_form) (defScope s__law_form) .none kV33 dc33 pm33 an33 cd33 ct33), sl33⟩)
    (c33 : PySem.W.codeIn K cd33 "_law_form" = true)
    (k33 : PySem.W.keepIn K (.ref f33) = true)
    (a34 : PySem.W.nsIn K mainGlobals "_law_free" = some (some (.ref f34)))
    (l34 : K.lookup f34 = some ⟨oc34, od34, .func (PySem.W.fnOf "_law_free" "_law_free" (defArgs s__law_free) (defBody s__law_free) (defScope s__law_free) .none kV34 dc34 pm34 an34 cd34 ct34), sl34⟩)
    (c34 : PySem.W.codeIn K cd34 "_law_free" = true)
    (k34 : PySem.W.keepIn K (.ref f34) = true)
    (a35 : PySem.W.nsIn K mainGlobals "_law_target" = some (some (.ref f35)))
    (l35 : K.lookup f35 = some ⟨oc35, od35, .func (PySem.W.fnOf "_law_target" "_law_target" (defArgs s__law_target) (defBody s__law_target) (defScope s__law_target) .none kV35 dc35 pm35 an35 cd35 ct35), sl35⟩)
    (c35 : PySem.W.codeIn K cd35 "_law_target" = true)
    (k35 : PySem.W.keepIn K (.ref f35) = true)
    (a36 : PySem.W.nsIn K mainGlobals "_law_moved" = some (some (.ref f36)))
    (l36 : K.lookup f36 = some ⟨oc36, od36, .func (PySem.W.fnOf "_law_moved" "_law_moved" (defArgs s__law_moved) (defBody s__law_moved) (defScope s__law_moved) .none kV36 dc36 pm36 an36 cd36 ct36), sl36⟩)
    (c36 : PySem.W.codeIn K cd36 "_law_moved" = true)
    (k36 : PySem.W.keepIn K (.ref f36) = true)
    (a37 : PySem.W.nsIn K mainGlobals "_law_sent" = some (some (.ref f37)))
    (l37 : K.lookup f37 = some ⟨oc37, od37, .func (PySem.W.fnOf "_law_sent" "_law_sent" (defArgs s__law_sent) (defBody s__law_sent) (defScope s__law_sent) .none kV37 dc37 pm37 an37 cd37 ct37), sl37⟩)
    (c37 : PySem.W.codeIn K cd37 "_law_sent" = true)
    (k37 : PySem.W.keepIn K (.ref f37) = true)
    (a38 : PySem.W.nsIn K mainGlobals "_law_walk" = some (some (.ref f38)))
    (l38 : K.lookup f38 = some ⟨oc38, od38, .func (PySem.W.fnOf "_law_walk" "_law_walk" (defArgs s__law_walk) (defBody s__law_walk) (defScope s__law_walk) .none kV38 dc38 pm38 an38 cd38 ct38), sl38⟩)
    (c38 : PySem.W.codeIn K cd38 "_law_walk" = true)
    (k38 : PySem.W.keepIn K (.ref f38) = true)
    (a39 : PySem.W.nsIn K mainGlobals "_law_graph" = some (some (.ref f39)))
    (l39 : K.lookup f39 = some ⟨oc39, od39, .func (PySem.W.fnOf "_law_graph" "_law_graph" (defArgs s__law_graph) (defBody s__law_graph) (defScope s__law_graph) .none kV39 dc39 pm39 an39 cd39 ct39), sl39⟩)
    (c39 : PySem.W.codeIn K cd39 "_law_graph" = true)
    (k39 : PySem.W.keepIn K (.ref f39) = true)
    (a40 : PySem.W.nsIn K mainGlobals "_law_nodes" = some (some (.ref f40)))
    (l40 : K.lookup f40 = some ⟨oc40, od40, .func (PySem.W.fnOf "_law_nodes" "_law_nodes" (defArgs s__law_nodes) (defBody s__law_nodes) (defScope s__law_nodes) .none kV40 dc40 pm40 an40 cd40 ct40), sl40⟩)
    (c40 : PySem.W.codeIn K cd40 "_law_nodes" = true)
    (k40 : PySem.W.keepIn K (.ref f40) = true)
    (a41 : PySem.W.nsIn K mainGlobals "_law_bare" = some (some (.ref f41)))
    (l41 : K.lookup f41 = some ⟨oc41, od41, .func (PySem.W.fnOf "_law_bare" "_law_bare" (defArgs s__law_bare) (defBody s__law_bare) (defScope s__law_bare) .none kV41 dc41 pm41 an41 cd41 ct41), sl41⟩)
    (c41 : PySem.W.codeIn K cd41 "_law_bare" = true)
    (k41 : PySem.W.keepIn K (.ref f41) = true)
    (a42 : PySem.W.nsIn K mainGlobals "_law_order" = some (some (.ref f42)))
    (l42 : K.lookup f42 = some ⟨oc42, od42, .func (PySem.W.fnOf "_law_order" "_law_order" (defArgs s__law_order) (defBody s__law_order) (defScope s__law_order) .none kV42 dc42 pm42 an42 cd42 ct42), sl42⟩)
    (c42 : PySem.W.codeIn K cd42 "_law_order" = true)
    (k42 : PySem.W.keepIn K (.ref f42) = true)
    (a43 : PySem.W.nsIn K mainGlobals "_law_built" = some (some (.ref f43)))
    (l43 : K.lookup f43 = some ⟨oc43, od43, .func (PySem.W.fnOf "_law_built" "_law_built" (defArgs s__law_built) (defBody s__law_built) (defScope s__law_built) .none kV43 dc43 pm43 an43 cd43 ct43), sl43⟩)
    (c43 : PySem.W.codeIn K cd43 "_law_built" = true)
    (k43 : PySem.W.keepIn K (.ref f43) = true)
    (a44 : PySem.W.nsIn K mainGlobals "_law_asked" = some (some (.ref f44)))
    (l44 : K.lookup f44 = some ⟨oc44, od44, .func (PySem.W.fnOf "_law_asked" "_law_asked" (defArgs s__law_asked) (defBody s__law_asked) (defScope s__law_asked) .none kV44 dc44 pm44 an44 cd44 ct44), sl44⟩)
    (c44 : PySem.W.codeIn K cd44 "_law_asked" = true)
    (k44 : PySem.W.keepIn K (.ref f44) = true)
    (a45 : PySem.W.nsIn K mainGlobals "_law_all" = some (some (.ref f45)))
    (l45 : K.lookup f45 = some ⟨oc45, od45, .func (PySem.W.fnOf "_law_all" "_law_all" (defArgs s__law_all) (defBody s__law_all) (defScope s__law_all) .none kV45 dc45 pm45 an45 cd45 ct45), sl45⟩)
    (c45 : PySem.W.codeIn K cd45 "_law_all" = true)
    (k45 : PySem.W.keepIn K (.ref f45) = true)
    (a46 : PySem.W.nsIn K mainGlobals "_law_set" = some (some (.ref f46)))
    (l46 : K.lookup f46 = some ⟨oc46, od46, .func (PySem.W.fnOf "_law_set" "_law_set" (defArgs s__law_set) (defBody s__law_set) (defScope s__law_set) .none kV46 dc46 pm46 an46 cd46 ct46), sl46⟩)
    (c46 : PySem.W.codeIn K cd46 "_law_set" = true)
    (k46 : PySem.W.keepIn K (.ref f46) = true)
    (a47 : PySem.W.nsIn K mainGlobals "law" = some (some (.ref f47)))
    (l47 : K.lookup f47 = some ⟨oc47, od47, .func (PySem.W.fnOf "law" "law" (defArgs s_law) (defBody s_law) (defScope s_law) .none kV47 dc47 pm47 an47 cd47 ct47), sl47⟩)
    (c47 : PySem.W.codeIn K cd47 "law" = true)
    (k47 : PySem.W.keepIn K (.ref f47) = true)
    (z_bool : PySem.W.nsIn K mainGlobals "bool" = some none)
    (z_enumerate : PySem.W.nsIn K mainGlobals "enumerate" = some none)
    (z_int : PySem.W.nsIn K mainGlobals "int" = some none)
    (z_isinstance : PySem.W.nsIn K mainGlobals "isinstance" = some none)
    (z_len : PySem.W.nsIn K mainGlobals "len" = some none)
    (z_list : PySem.W.nsIn K mainGlobals "list" = some none)
    (z_min : PySem.W.nsIn K mainGlobals "min" = some none)
    (z_property : PySem.W.nsIn K mainGlobals "property" = some none)
    (z_range : PySem.W.nsIn K mainGlobals "range" = some none)
    (z_sorted : PySem.W.nsIn K mainGlobals "sorted" = some none)
    (z_str : PySem.W.nsIn K mainGlobals "str" = some none)
    (z_sum : PySem.W.nsIn K mainGlobals "sum" = some none)
    (z_tuple : PySem.W.nsIn K mainGlobals "tuple" = some none)
    (g_CT : PySem.W.nsIn K mainGlobals "Thing" = some (some (.ref CT)))
    (pg_CT : PySem.W.plainGet K CT Str.empty = true)
    (hd_CT : PySem.W.hasDictIn K CT = true)
    (po_CT : PySem.W.plainOver K CT = true)
    (sa_CT : PySem.W.findIn K (.ref CT) "__setattr__" = some (some (.builtin "object.__setattr__")))
    (mk_CT : PySem.W.makesIn K CT = true)
    (kc_CT : PySem.W.keepIn K (.ref CT) = true)
    (g_CS : PySem.W.nsIn K mainGlobals "Store" = some (some (.ref CS)))
    (pg_CS : PySem.W.plainGet K CS Str.empty = true)
    (hd_CS : PySem.W.hasDictIn K CS = true)
    (po_CS : PySem.W.plainOver K CS = true)
    (sa_CS : PySem.W.findIn K (.ref CS) "__setattr__" = some (some (.builtin "object.__setattr__")))
    (mk_CS : PySem.W.makesIn K CS = true)
    (kc_CS : PySem.W.keepIn K (.ref CS) = true)
    (g_CH : PySem.W.nsIn K mainGlobals "Heap" = some (some (.ref CH)))
    (pg_CH : PySem.W.plainGet K CH Str.empty = true)
    (hd_CH : PySem.W.hasDictIn K CH = true)
    (po_CH : PySem.W.plainOver K CH = true)
    (sa_CH : PySem.W.findIn K (.ref CH) "__setattr__" = some (some (.builtin "object.__setattr__")))
    (mk_CH : PySem.W.makesIn K CH = true)
    (kc_CH : PySem.W.keepIn K (.ref CH) = true)
    (n_CT_kind : PySem.W.findIn K (.ref CT) "kind" = some none)
    (n_CT_tag : PySem.W.findIn K (.ref CT) "tag" = some none)
    (n_CT_slots : PySem.W.findIn K (.ref CT) "slots" = some none)
    (n_CT_age : PySem.W.findIn K (.ref CT) "age" = some none)
    (n_CS_things : PySem.W.findIn K (.ref CS) "things" = some none)
    (n_CH_things : PySem.W.findIn K (.ref CH) "things" = some none)
    (n_CH_young_many : PySem.W.findIn K (.ref CH) "young_many" = some none)
    (n_CH_old_many : PySem.W.findIn K (.ref CH) "old_many" = some none)
    (n_CH_marked : PySem.W.findIn K (.ref CH) "marked" = some none)
    (rd : PySem.W.readsIn K CS (.type "type") = true)
    (ga : PySem.W.specialIn K (.ref CS) "__getattribute__" = some (some (.builtin "type.__getattribute__"))) :
    ∃ fd : FuncData, (∀ (s : Shared) (v : Value), BindsTo s fd ⟨[v], []⟩ [("script", v)]) ∧ ∀ base : Heap, K.In base → base.Ns mainGlobals mg → FnOk l.prog w K mg base CX0 14 fa fd ["script"] (spLaw K) := by
  have e := hfa.symm.trans (PySem.W.mg_of X G a47)
  cases e
  have g1 : Gv K mg "_wall" s__wall p__wall := ⟨_, _, (fun_mk (st := s__wall) l1 c1 k1), PySem.W.mg_of X G a1, ((fun_mk (st := s__wall) l1 c1 k1).binds (ps := p__wall) fun _ _ _ _ _ _ us hl => match us, hl with | [_], _ => rfl)⟩
  have g2 : ∃ fI fd, L2.Mk K CT fI ∧ Binds K fd p_Thing___init__ [] ∧ Fun K "__init__" "Thing.__init__" s_Thing___init__ fI fd := ⟨_, _, ⟨mk_CT, a2, i2, kc_CT⟩, ((fun_mk (st := s_Thing___init__) l2 c2 k2).binds (ps := p_Thing___init__) fun _ _ _ _ _ _ us hl => match us, hl with | [_, _, _, _], _ => rfl), (fun_mk (st := s_Thing___init__) l2 c2 k2)⟩
  have g3 : ∃ fI fd, L2.Mk K CS fI ∧ Binds K fd p_Store___init__ [] ∧ Fun K "__init__" "Store.__init__" s_Store___init__ fI fd := ⟨_, _, ⟨mk_CS, a3, i3, kc_CS⟩, ((fun_mk (st := s_Store___init__) l3 c3 k3).binds (ps := p_Store___init__) fun _ _ _ _ _ _ us hl => match us, hl with | [_], _ => rfl), (fun_mk (st := s_Store___init__) l3 c3 k3)⟩
  have gv : ∃ fI fd, PySem.W.findCls K (.ref CS) (.type "type") "__init__" = some (.val (.ref fI)) ∧ PySem.W.keepIn K (.ref fI) = true ∧ Binds K fd p_Store___init__ [] ∧ Fun K "__init__" "Store.__init__" s_Store___init__ fI fd := ⟨_, _, v3, k3, ((fun_mk (st := s_Store___init__) l3 c3 k3).binds (ps := p_Store___init__) fun _ _ _ _ _ _ us hl => match us, hl with | [_], _ => rfl), (fun_mk (st := s_Store___init__) l3 c3 k3)⟩
  have g4 : Gvm K CS "make" "Store.make" s_Store_make p_Store_make := ⟨_, _, (fun_mk (st := s_Store_make) l4 c4 k4), ⟨a4, i4, k4⟩, ((fun_mk (st := s_Store_make) l4 c4 k4).binds (ps := p_Store_make) fun _ _ _ _ _ _ us hl => match us, hl with | [_, _, _, _], _ => rfl)⟩
  have g5 : Gvm K CS "set_slot" "Store.set_slot" s_Store_set_slot p_Store_set_slot := ⟨_, _, (fun_mk (st := s_Store_set_slot) l5 c5 k5), ⟨a5, i5, k5⟩, ((fun_mk (st := s_Store_set_slot) l5 c5 k5).binds (ps := p_Store_set_slot) fun _ _ _ _ _ _ us hl => match us, hl with | [_, _, _, _], _ => rfl)⟩
  have g6 : Gvm K CS "change" "Store.change" s_Store_change p_Store_change := ⟨_, _, (fun_mk (st := s_Store_change) l6 c6 k6), ⟨a6, i6, k6⟩, ((fun_mk (st := s_Store_change) l6 c6 k6).binds (ps := p_Store_change) fun _ _ _ _ _ _ us hl => match us, hl with | [_, _, _, _], _ => rfl)⟩
  have g7 : Gvm K CS "reach" "Store.reach" s_Store_reach p_Store_reach := ⟨_, _, (fun_mk (st := s_Store_reach) l7 c7 k7), ⟨a7, i7, k7⟩, ((fun_mk (st := s_Store_reach) l7 c7 k7).binds (ps := p_Store_reach) fun _ _ _ _ _ _ us hl => match us, hl with | [_, _], _ => rfl)⟩
  have gh7 : Gvm K CH "reach" "Store.reach" s_Store_reach p_Store_reach := ⟨_, _, (fun_mk (st := s_Store_reach) l7 c7 k7), ⟨h7, i7, k7⟩, ((fun_mk (st := s_Store_reach) l7 c7 k7).binds (ps := p_Store_reach) fun _ _ _ _ _ _ us hl => match us, hl with | [_, _], _ => rfl)⟩
  have g8 : Gvm K CS "meet_all" "Store.meet_all" s_Store_meet_all p_Store_meet_all := ⟨_, _, (fun_mk (st := s_Store_meet_all) l8 c8 k8), ⟨a8, i8, k8⟩, ((fun_mk (st := s_Store_meet_all) l8 c8 k8).binds (ps := p_Store_meet_all) fun _ _ _ _ _ _ us hl => match us, hl with | [_, _, _, _], _ => rfl)⟩
  have gh8 : Gvm K CH "meet_all" "Store.meet_all" s_Store_meet_all p_Store_meet_all := ⟨_, _, (fun_mk (st := s_Store_meet_all) l8 c8 k8), ⟨h8, i8, k8⟩, ((fun_mk (st := s_Store_meet_all) l8 c8 k8).binds (ps := p_Store_meet_all) fun _ _ _ _ _ _ us hl => match us, hl with | [_, _, _, _], _ => rfl)⟩
  have g9 : Gvm K CS "graph" "Store.graph" s_Store_graph p_Store_graph := ⟨_, _, (fun_mk (st := s_Store_graph) l9 c9 k9), ⟨a9, i9, k9⟩, ((fun_mk (st := s_Store_graph) l9 c9 k9).binds (ps := p_Store_graph) fun _ _ _ _ _ _ us hl => match us, hl with | [_, _], _ => rfl)⟩
  have gh9 : Gvm K CH "graph" "Store.graph" s_Store_graph p_Store_graph := ⟨_, _, (fun_mk (st := s_Store_graph) l9 c9 k9), ⟨h9, i9, k9⟩, ((fun_mk (st := s_Store_graph) l9 c9 k9).binds (ps := p_Store_graph) fun _ _ _ _ _ _ us hl => match us, hl with | [_, _], _ => rfl)⟩
  have g10 : Gv K mg "address_of" s_address_of p_address_of := ⟨_, _, (fun_mk (st := s_address_of) l10 c10 k10), PySem.W.mg_of X G a10, ((fun_mk (st := s_address_of) l10 c10 k10).binds (ps := p_address_of) fun _ _ _ _ _ _ us hl => match us, hl with | [_], _ => rfl)⟩
  have g11 : Gv K mg "moved" s_moved p_moved := ⟨_, _, (fun_mk (st := s_moved) l11 c11 k11), PySem.W.mg_of X G a11, ((fun_mk (st := s_moved) l11 c11 k11).binds (ps := p_moved) fun _ _ _ _ _ _ us hl => match us, hl with | [_, _], _ => rfl)⟩
  have g12 : ∃ fI fd, L2.Mk K CH fI ∧ Binds K fd p_Heap___init__ [] ∧ Fun K "__init__" "Heap.__init__" s_Heap___init__ fI fd := ⟨_, _, ⟨mk_CH, a12, i12, kc_CH⟩, ((fun_mk (st := s_Heap___init__) l12 c12 k12).binds (ps := p_Heap___init__) fun _ _ _ _ _ _ us hl => match us, hl with | [_], _ => rfl), (fun_mk (st := s_Heap___init__) l12 c12 k12)⟩
  have g13 : Gvm K CH "make" "Heap.make" s_Heap_make p_Heap_make := ⟨_, _, (fun_mk (st := s_Heap_make) l13 c13 k13), ⟨a13, i13, k13⟩, ((fun_mk (st := s_Heap_make) l13 c13 k13).binds (ps := p_Heap_make) fun _ _ _ _ _ _ us hl => match us, hl with | [_, _, _, _], _ => rfl)⟩
  have g14 : Gvm K CH "set_slot" "Heap.set_slot" s_Heap_set_slot p_Heap_set_slot := ⟨_, _, (fun_mk (st := s_Heap_set_slot) l14 c14 k14), ⟨a14, i14, k14⟩, ((fun_mk (st := s_Heap_set_slot) l14 c14 k14).binds (ps := p_Heap_set_slot) fun _ _ _ _ _ _ us hl => match us, hl with | [_, _, _, _], _ => rfl)⟩
  have g15 : Gvm K CH "change" "Heap.change" s_Heap_change p_Heap_change := ⟨_, _, (fun_mk (st := s_Heap_change) l15 c15 k15), ⟨a15, i15, k15⟩, ((fun_mk (st := s_Heap_change) l15 c15 k15).binds (ps := p_Heap_change) fun _ _ _ _ _ _ us hl => match us, hl with | [_, _, _, _], _ => rfl)⟩
  have g16 : Gvm K CH "remember" "Heap.remember" s_Heap_remember p_Heap_remember := ⟨_, _, (fun_mk (st := s_Heap_remember) l16 c16 k16), ⟨a16, i16, k16⟩, ((fun_mk (st := s_Heap_remember) l16 c16 k16).binds (ps := p_Heap_remember) fun _ _ _ _ _ _ us hl => match us, hl with | [_, _, _], _ => rfl)⟩
  have g17 : Gv K mg "is_young" s_is_young p_is_young := ⟨_, _, (fun_mk (st := s_is_young) l17 c17 k17), PySem.W.mg_of X G a17, ((fun_mk (st := s_is_young) l17 c17 k17).binds (ps := p_is_young) fun _ _ _ _ _ _ us hl => match us, hl with | [_], _ => rfl)⟩
  have g18 : Gv K mg "refers_to_young" s_refers_to_young p_refers_to_young := ⟨_, _, (fun_mk (st := s_refers_to_young) l18 c18 k18), PySem.W.mg_of X G a18, ((fun_mk (st := s_refers_to_young) l18 c18 k18).binds (ps := p_refers_to_young) fun _ _ _ _ _ _ us hl => match us, hl with | [_], _ => rfl)⟩
  have g19 : Gv K mg "_law_cell" s__law_cell p__law_cell := ⟨_, _, (fun_mk (st := s__law_cell) l19 c19 k19), PySem.W.mg_of X G a19, ((fun_mk (st := s__law_cell) l19 c19 k19).binds (ps := p__law_cell) fun _ _ _ _ _ _ us hl => match us, hl with | [_, _], _ => rfl)⟩
  have g20 : Gv K mg "_law_box" s__law_box p__law_box := ⟨_, _, (fun_mk (st := s__law_box) l20 c20 k20), PySem.W.mg_of X G a20, ((fun_mk (st := s__law_box) l20 c20 k20).binds (ps := p__law_box) fun _ _ _ _ _ _ us hl => match us, hl with | [_, _], _ => rfl)⟩
  have g21 : Gv K mg "_law_take" s__law_take p__law_take := ⟨_, _, (fun_mk (st := s__law_take) l21 c21 k21), PySem.W.mg_of X G a21, ((fun_mk (st := s__law_take) l21 c21 k21).binds (ps := p__law_take) fun _ _ _ _ _ _ us hl => match us, hl with | [_, _], _ => rfl)⟩
  have g22 : Gv K mg "_law_same" s__law_same p__law_same := ⟨_, _, (fun_mk (st := s__law_same) l22 c22 k22), PySem.W.mg_of X G a22, ((fun_mk (st := s__law_same) l22 c22 k22).binds (ps := p__law_same) fun _ _ _ _ _ _ us hl => match us, hl with | [_, _], _ => rfl)⟩
  have g23 : Gv K mg "_law_word" s__law_word p__law_word := ⟨_, _, (fun_mk (st := s__law_word) l23 c23 k23), PySem.W.mg_of X G a23, ((fun_mk (st := s__law_word) l23 c23 k23).binds (ps := p__law_word) fun _ _ _ _ _ _ us hl => match us, hl with | [_], _ => rfl)⟩
  have g24 : Gv K mg "_law_name" s__law_name p__law_name := ⟨_, _, (fun_mk (st := s__law_name) l24 c24 k24), PySem.W.mg_of X G a24, ((fun_mk (st := s__law_name) l24 c24 k24).binds (ps := p__law_name) fun _ _ _ _ _ _ us hl => match us, hl with | [_], _ => rfl)⟩
  have g25 : Gv K mg "_law_plain" s__law_plain p__law_plain := ⟨_, _, (fun_mk (st := s__law_plain) l25 c25 k25), PySem.W.mg_of X G a25, ((fun_mk (st := s__law_plain) l25 c25 k25).binds (ps := p__law_plain) fun _ _ _ _ _ _ us hl => match us, hl with | [_], _ => rfl)⟩
  have g26 : Gv K mg "_law_pending" s__law_pending p__law_pending := ⟨_, _, (fun_mk (st := s__law_pending) l26 c26 k26), PySem.W.mg_of X G a26, ((fun_mk (st := s__law_pending) l26 c26 k26).binds (ps := p__law_pending) fun _ _ _ _ _ _ us hl => match us, hl with | [_, _, _], _ => rfl)⟩
  have g27 : Gv K mg "_law_marked" s__law_marked p__law_marked := ⟨_, _, (fun_mk (st := s__law_marked) l27 c27 k27), PySem.W.mg_of X G a27, ((fun_mk (st := s__law_marked) l27 c27 k27).binds (ps := p__law_marked) fun _ _ _ _ _ _ us hl => match us, hl with | [_, _, _, _], _ => rfl)⟩
  have g28 : Gv K mg "_law_entry" s__law_entry p__law_entry := ⟨_, _, (fun_mk (st := s__law_entry) l28 c28 k28), PySem.W.mg_of X G a28, ((fun_mk (st := s__law_entry) l28 c28 k28).binds (ps := p__law_entry) fun _ _ _ _ _ _ us hl => match us, hl with | [_, _, _, _], _ => rfl)⟩
  have g29 : Gv K mg "_law_kinds" s__law_kinds p__law_kinds := ⟨_, _, (fun_mk (st := s__law_kinds) l29 c29 k29), PySem.W.mg_of X G a29, ((fun_mk (st := s__law_kinds) l29 c29 k29).binds (ps := p__law_kinds) fun _ _ _ _ _ _ us hl => match us, hl with | [], _ => rfl)⟩
  have g30 : Gv K mg "_law_kind" s__law_kind p__law_kind := ⟨_, _, (fun_mk (st := s__law_kind) l30 c30 k30), PySem.W.mg_of X G a30, ((fun_mk (st := s__law_kind) l30 c30 k30).binds (ps := p__law_kind) fun _ _ _ _ _ _ us hl => match us, hl with | [_], _ => rfl)⟩
  have g31 : Gv K mg "_law_marks" s__law_marks p__law_marks := ⟨_, _, (fun_mk (st := s__law_marks) l31 c31 k31), PySem.W.mg_of X G a31, ((fun_mk (st := s__law_marks) l31 c31 k31).binds (ps := p__law_marks) fun _ _ _ _ _ _ us hl => match us, hl with | [_], _ => rfl)⟩
  have g32 : Gv K mg "_law_tag" s__law_tag p__law_tag := ⟨_, _, (fun_mk (st := s__law_tag) l32 c32 k32), PySem.W.mg_of X G a32, ((fun_mk (st := s__law_tag) l32 c32 k32).binds (ps := p__law_tag) fun _ _ _ _ _ _ us hl => match us, hl with | [_, _, _], _ => rfl)⟩
  have g33 : Gv K mg "_law_form" s__law_form p__law_form := ⟨_, _, (fun_mk (st := s__law_form) l33 c33 k33), PySem.W.mg_of X G a33, ((fun_mk (st := s__law_form) l33 c33 k33).binds (ps := p__law_form) fun _ _ _ _ _ _ us hl => match us, hl with | [_, _, _, _], _ => rfl)⟩
  have g34 : Gv K mg "_law_free" s__law_free p__law_free := ⟨_, _, (fun_mk (st := s__law_free) l34 c34 k34), PySem.W.mg_of X G a34, ((fun_mk (st := s__law_free) l34 c34 k34).binds (ps := p__law_free) fun _ _ _ _ _ _ us hl => match us, hl with | [_], _ => rfl)⟩
  have g35 : Gv K mg "_law_target" s__law_target p__law_target := ⟨_, _, (fun_mk (st := s__law_target) l35 c35 k35), PySem.W.mg_of X G a35, ((fun_mk (st := s__law_target) l35 c35 k35).binds (ps := p__law_target) fun _ _ _ _ _ _ us hl => match us, hl with | [_], _ => rfl)⟩
  have g36 : Gv K mg "_law_moved" s__law_moved p__law_moved := ⟨_, _, (fun_mk (st := s__law_moved) l36 c36 k36), PySem.W.mg_of X G a36, ((fun_mk (st := s__law_moved) l36 c36 k36).binds (ps := p__law_moved) fun _ _ _ _ _ _ us hl => match us, hl with | [_, _], _ => rfl)⟩
  have g37 : Gv K mg "_law_sent" s__law_sent p__law_sent := ⟨_, _, (fun_mk (st := s__law_sent) l37 c37 k37), PySem.W.mg_of X G a37, ((fun_mk (st := s__law_sent) l37 c37 k37).binds (ps := p__law_sent) fun _ _ _ _ _ _ us hl => match us, hl with | [_, _], _ => rfl)⟩
  have g38 : Gv K mg "_law_walk" s__law_walk p__law_walk := ⟨_, _, (fun_mk (st := s__law_walk) l38 c38 k38), PySem.W.mg_of X G a38, ((fun_mk (st := s__law_walk) l38 c38 k38).binds (ps := p__law_walk) fun _ _ _ _ _ _ us hl => match us, hl with | [_, _], _ => rfl)⟩
  have g39 : Gv K mg "_law_graph" s__law_graph p__law_graph := ⟨_, _, (fun_mk (st := s__law_graph) l39 c39 k39), PySem.W.mg_of X G a39, ((fun_mk (st := s__law_graph) l39 c39 k39).binds (ps := p__law_graph) fun _ _ _ _ _ _ us hl => match us, hl with | [_, _, _], _ => rfl)⟩
  have g40 : Gv K mg "_law_nodes" s__law_nodes p__law_nodes := ⟨_, _, (fun_mk (st := s__law_nodes) l40 c40 k40), PySem.W.mg_of X G a40, ((fun_mk (st := s__law_nodes) l40 c40 k40).binds (ps := p__law_nodes) fun _ _ _ _ _ _ us hl => match us, hl with | [_, _, _], _ => rfl)⟩
  have g41 : Gv K mg "_law_bare" s__law_bare p__law_bare := ⟨_, _, (fun_mk (st := s__law_bare) l41 c41 k41), PySem.W.mg_of X G a41, ((fun_mk (st := s__law_bare) l41 c41 k41).binds (ps := p__law_bare) fun _ _ _ _ _ _ us hl => match us, hl with | [_], _ => rfl)⟩
  have g42 : Gv K mg "_law_order" s__law_order p__law_order := ⟨_, _, (fun_mk (st := s__law_order) l42 c42 k42), PySem.W.mg_of X G a42, ((fun_mk (st := s__law_order) l42 c42 k42).binds (ps := p__law_order) fun _ _ _ _ _ _ us hl => match us, hl with | [_, _, _, _], _ => rfl)⟩
  have g43 : Gv K mg "_law_built" s__law_built p__law_built := ⟨_, _, (fun_mk (st := s__law_built) l43 c43 k43), PySem.W.mg_of X G a43, ((fun_mk (st := s__law_built) l43 c43 k43).binds (ps := p__law_built) fun _ _ _ _ _ _ us hl => match us, hl with | [_, _, _, _, _], _ => rfl)⟩
  have g44 : Gv K mg "_law_asked" s__law_asked p__law_asked := ⟨_, _, (fun_mk (st := s__law_asked) l44 c44 k44), PySem.W.mg_of X G a44, ((fun_mk (st := s__law_asked) l44 c44 k44).binds (ps := p__law_asked) fun _ _ _ _ _ _ us hl => match us, hl with | [_, _, _, _], _ => rfl)⟩
  have g45 : Gv K mg "_law_all" s__law_all p__law_all := ⟨_, _, (fun_mk (st := s__law_all) l45 c45 k45), PySem.W.mg_of X G a45, ((fun_mk (st := s__law_all) l45 c45 k45).binds (ps := p__law_all) fun _ _ _ _ _ _ us hl => match us, hl with | [_, _, _, _, _], _ => rfl)⟩
  have g46 : Gv K mg "_law_set" s__law_set p__law_set := ⟨_, _, (fun_mk (st := s__law_set) l46 c46 k46), PySem.W.mg_of X G a46, ((fun_mk (st := s__law_set) l46 c46 k46).binds (ps := p__law_set) fun _ _ _ _ _ _ us hl => match us, hl with | [_, _, _, _, _, _], _ => rfl)⟩
  have g47 : Gv K mg "law" s_law p_law := ⟨_, _, (fun_mk (st := s_law) l47 c47 k47), PySem.W.mg_of X G a47, ((fun_mk (st := s_law) l47 c47 k47).binds (ps := p_law) fun _ _ _ _ _ _ us hl => match us, hl with | [_], _ => rfl)⟩
  have T : Txt K w mg := { z_bool := PySem.W.mg_none_of X G z_bool, z_enumerate := PySem.W.mg_none_of X G z_enumerate, z_int := PySem.W.mg_none_of X G z_int, z_isinstance := PySem.W.mg_none_of X G z_isinstance, z_len := PySem.W.mg_none_of X G z_len, z_list := PySem.W.mg_none_of X G z_list, z_min := PySem.W.mg_none_of X G z_min, z_property := PySem.W.mg_none_of X G z_property, z_range := PySem.W.mg_none_of X G z_range, z_sorted := PySem.W.mg_none_of X G z_sorted, z_str := PySem.W.mg_none_of X G z_str, z_sum := PySem.W.mg_none_of X G z_sum, z_tuple := PySem.W.mg_none_of X G z_tuple, g__wall := g1, g_address_of := g10, g_moved := g11, g_is_young := g17, g_refers_to_young := g18, g__law_cell := g19, g__law_box := g20, g__law_take := g21, g__law_same := g22, g__law_word := g23, g__law_name := g24, g__law_plain := g25, g__law_pending := g26, g__law_marked := g27, g__law_entry := g28, g__law_kinds := g29, g__law_kind := g30, g__law_marks := g31, g__law_tag := g32, g__law_form := g33, g__law_free := g34, g__law_target := g35, g__law_moved := g36, g__law_sent := g37, g__law_walk := g38, g__law_graph := g39, g__law_nodes := g40, g__law_bare := g41, g__law_order := g42, g__law_built := g43, g__law_asked := g44, g__law_all := g45, g__law_set := g46, g_law := g47 }
  have TT : ThT K mg CT := { cl := ⟨pg_CT, hd_CT, po_CT, sa_CT⟩, gl := PySem.W.mg_of X G g_CT, n_kind := n_CT_kind, n_tag := n_CT_tag, n_slots := n_CT_slots, n_age := n_CT_age, ini := g2 }
  have BS : BkT K CS := { cl := ⟨pg_CS, hd_CS, po_CS, sa_CS⟩, n_things := n_CS_things, g_reach := g7, g_meet_all := g8, g_graph := g9 }
  have BH : BkT K CH := { cl := ⟨pg_CH, hd_CH, po_CH, sa_CH⟩, n_things := n_CH_things, g_reach := gh7, g_meet_all := gh8, g_graph := gh9 }
  have TS : StT K mg CS := { bk := BS, gl := PySem.W.mg_of X G g_CS, ini := g3, g_make := g4, g_set_slot := g5, g_change := g6 }
  have TH : HeT K mg CH := { bk := BH, gl := PySem.W.mg_of X G g_CH, n_young_many := n_CH_young_many, n_old_many := n_CH_old_many, n_marked := n_CH_marked, ini := g12, g_make := g13, g_set_slot := g14, g_change := g15, g_remember := g16 }
  have TX : StX K mg CS := { cr := ⟨.type "type", ⟨rd, ga⟩, gv⟩ }
  refine ⟨PySem.W.fnOf "law" "law" (defArgs s_law) (defBody s_law) (defScope s_law) .none kV47 dc47 pm47 an47 cd47 ct47, fun s v => .of_eq rfl, fun base _ _ => ?_⟩
  obtain ⟨f, fd, hm', hk', hb', ⟨oc, od, osl, lkk⟩, F⟩ := all_ok (P := l.prog) (base := base) T TT TS TX TH
  have e2 : fa = f := Value.ref.inj (Option.some.inj (hfa.symm.trans hm'))
  subst e2
  have e3 := lkk.symm.trans l47
  cases e3
  exact F
end D0
open PySem PySem.W PyProof.Rows
set_option maxRecDepth 100000 in
set_option maxHeartbeats 0 in
theorem PySem.Challenge.cw_likerun_k15_reach_and_graph_holds : PySem.Challenge.rw_likerun_k15_reach_and_graph.Holds := by
  w_on; o_law; k_head; (case hw => w_witness2)
  k_fill
  refine L2.walk_of (l := PySem.Challenge.rw_likerun_k15_reach_and_graph) (n := 63) (k := 14) (x := "script") (CX := fun _ => L2.CX0) (sp := fun w => D0.spLaw _) rfl (by decide) rfl ⟨rfl, by decide, by decide⟩ (fun w h Y => PySem.W.kIn_of Y) ?F (fun _ _ a ns hl _ hS => ⟨a, ns, rfl, hS, hl, fun _ => rfl⟩) (fun _ _ _ _ _ h => h)
  case F =>
    intro w mg fa h KX G hmg
    refine' D0.all_mk KX G hmg ?a1 ?l1 ?c1 ?k1 ?a2 ?i2 ?l2 ?c2 ?k2 ?a3 ?i3 ?v3 ?l3 ?c3 ?k3 ?a4 ?i4 ?l4 ?c4 ?k4 ?a5 ?i5 ?l5 ?c5 ?k5 ?a6 ?i6 ?l6 ?c6 ?k6 ?a7 ?i7 ?h7 ?l7 ?c7 ?k7 ?a8 ?i8 ?h8 ?l8 ?c8 ?k8 ?a9 ?i9 ?h9 ?l9 ?c9 ?k9 ?a10 ?l10 ?c10 ?k10 ?a11 ?l11 ?c11 ?k11 ?a12 ?i12 ?l12 ?c12 ?k12 ?a13 ?i13 ?l13 ?c13 ?k13 ?a14 ?i14 ?l14 ?c14 ?k14 ?a15 ?i15 ?l15 ?c15 ?k15 ?a16 ?i16 ?l16 ?c16 ?k16 ?a17 ?l17 ?c17 ?k17 ?a18 ?l18 ?c18 ?k18 ?a19 ?l19 ?c19 ?k19 ?a20 ?l20 ?c20 ?k20 ?a21 ?l21 ?c21 ?k21 ?a22 ?l22 ?c22 ?k22 ?a23 ?l23 ?c23 ?k23 ?a24 ?l24 ?c24 ?k24 ?a25 ?l25 ?c25 ?k25 ?a26 ?l26 ?c26 ?k26 ?a27 ?l27 ?c27 ?k27 ?a28 ?l28 ?c28 ?k28 ?a29 ?l29 ?c29 ?k29 ?a30 ?l30 ?c30 ?k30 ?a31 ?l31 ?c31 ?k31 ?a32 ?l32 ?c32 ?k32 ?a33 ?l33 ?c33 ?k33 ?a34 ?l34 ?c34 ?k34 ?a35 ?l35 ?c35 ?k35 ?a36 ?l36 ?c36 ?k36 ?a37 ?l37 ?c37 ?k37 ?a38 ?l38 ?c38 ?k38 ?a39 ?l39 ?c39 ?k39 ?a40 ?l40 ?c40 ?k40 ?a41 ?l41 ?c41 ?k41 ?a42 ?l42 ?c42 ?k42 ?a43 ?l43 ?c43 ?k43 ?a44 ?l44 ?c44 ?k44 ?a45 ?l45 ?c45 ?k45 ?a46 ?l46 ?c46 ?k46 ?a47 ?l47 ?c47 ?k47 ?z_bool ?z_enumerate ?z_int ?z_isinstance ?z_len ?z_list ?z_min ?z_property ?z_range ?z_sorted ?z_str ?z_sum ?z_tuple ?g_CT ?pg_CT ?hd_CT ?po_CT ?sa_CT ?mk_CT ?kc_CT ?g_CS ?pg_CS ?hd_CS ?po_CS ?sa_CS ?mk_CS ?kc_CS ?g_CH ?pg_CH ?hd_CH ?po_CH ?sa_CH ?mk_CH ?kc_CH ?n_CT_kind ?n_CT_tag ?n_CT_slots ?n_CT_age ?n_CS_things ?n_CH_things ?n_CH_young_many ?n_CH_old_many ?n_CH_marked ?rd ?ga
    (case g_CT => k_is)
    (case g_CS => k_is)
    (case g_CH => k_is)
    (case a1 => k_is)
    (case l1 => k_is)
    (case c1 => k_is)
    (case k1 => k_is)
    (case a2 => k_is)
    (case i2 => k_is)
    (case l2 => k_is)
    (case c2 => k_is)
    (case k2 => k_is)
    (case a3 => k_is)
    (case i3 => k_is)
    (case v3 => k_is)
    (case l3 => k_is)
    (case c3 => k_is)
    (case k3 => k_is)
    (case a4 => k_is)
    (case i4 => k_is)
    (case l4 => k_is)
    (case c4 => k_is)
    (case k4 => k_is)
    (case a5 => k_is)
    (case i5 => k_is)
    (case l5 => k_is)
    (case c5 => k_is)
    (case k5 => k_is)
    (case a6 => k_is)
    (case i6 => k_is)
    (case l6 => k_is)
    (case c6 => k_is)
    (case k6 => k_is)
    (case a7 => k_is)
    (case i7 => k_is)
    (case h7 => k_is)
    (case l7 => k_is)
    (case c7 => k_is)
    (case k7 => k_is)
    (case a8 => k_is)
    (case i8 => k_is)
    (case h8 => k_is)
    (case l8 => k_is)
    (case c8 => k_is)
    (case k8 => k_is)
    (case a9 => k_is)
    (case i9 => k_is)
    (case h9 => k_is)
    (case l9 => k_is)
    (case c9 => k_is)
    (case k9 => k_is)
    (case a10 => k_is)
    (case l10 => k_is)
    (case c10 => k_is)
    (case k10 => k_is)
    (case a11 => k_is)
    (case l11 => k_is)
    (case c11 => k_is)
    (case k11 => k_is)
    (case a12 => k_is)
    (case i12 => k_is)
    (case l12 => k_is)
    (case c12 => k_is)
    (case k12 => k_is)
    (case a13 => k_is)
    (case i13 => k_is)
    (case l13 => k_is)
    (case c13 => k_is)
    (case k13 => k_is)
    (case a14 => k_is)
    (case i14 => k_is)
    (case l14 => k_is)
    (case c14 => k_is)
    (case k14 => k_is)
    (case a15 => k_is)
    (case i15 => k_is)
    (case l15 => k_is)
    (case c15 => k_is)
    (case k15 => k_is)
    (case a16 => k_is)
    (case i16 => k_is)
    (case l16 => k_is)
    (case c16 => k_is)
    (case k16 => k_is)
    (case a17 => k_is)
    (case l17 => k_is)
    (case c17 => k_is)
    (case k17 => k_is)
    (case a18 => k_is)
    (case l18 => k_is)
    (case c18 => k_is)
    (case k18 => k_is)
    (case a19 => k_is)
    (case l19 => k_is)
    (case c19 => k_is)
    (case k19 => k_is)
    (case a20 => k_is)
    (case l20 => k_is)
    (case c20 => k_is)
    (case k20 => k_is)
    (case a21 => k_is)
    (case l21 => k_is)
    (case c21 => k_is)
    (case k21 => k_is)
    (case a22 => k_is)
    (case l22 => k_is)
    (case c22 => k_is)
    (case k22 => k_is)
    (case a23 => k_is)
    (case l23 => k_is)
    (case c23 => k_is)
    (case k23 => k_is)
    (case a24 => k_is)
    (case l24 => k_is)
    (case c24 => k_is)
    (case k24 => k_is)
    (case a25 => k_is)
    (case l25 => k_is)
    (case c25 => k_is)
    (case k25 => k_is)
    (case a26 => k_is)
    (case l26 => k_is)
    (case c26 => k_is)
    (case k26 => k_is)
    (case a27 => k_is)
    (case l27 => k_is)
    (case c27 => k_is)
    (case k27 => k_is)
    (case a28 => k_is)
    (case l28 => k_is)
    (case c28 => k_is)
    (case k28 => k_is)
    (case a29 => k_is)
    (case l29 => k_is)
    (case c29 => k_is)
    (case k29 => k_is)
    (case a30 => k_is)
    (case l30 => k_is)
    (case c30 => k_is)
    (case k30 => k_is)
    (case a31 => k_is)
    (case l31 => k_is)
    (case c31 => k_is)
    (case k31 => k_is)
    (case a32 => k_is)
    (case l32 => k_is)
    (case c32 => k_is)
    (case k32 => k_is)
    (case a33 => k_is)
    (case l33 => k_is)
    (case c33 => k_is)
    (case k33 => k_is)
    (case a34 => k_is)
    (case l34 => k_is)
    (case c34 => k_is)
    (case k34 => k_is)
    (case a35 => k_is)
    (case l35 => k_is)
    (case c35 => k_is)
    (case k35 => k_is)
    (case a36 => k_is)
    (case l36 => k_is)
    (case c36 => k_is)
    (case k36 => k_is)
    (case a37 => k_is)
    (case l37 => k_is)
    (case c37 => k_is)
    (case k37 => k_is)
    (case a38 => k_is)
    (case l38 => k_is)
    (case c38 => k_is)
    (case k38 => k_is)
    (case a39 => k_is)
    (case l39 => k_is)
    (case c39 => k_is)
    (case k39 => k_is)
    (case a40 => k_is)
    (case l40 => k_is)
    (case c40 => k_is)
    (case k40 => k_is)
    (case a41 => k_is)
    (case l41 => k_is)
    (case c41 => k_is)
    (case k41 => k_is)
    (case a42 => k_is)
    (case l42 => k_is)
    (case c42 => k_is)
    (case k42 => k_is)
    (case a43 => k_is)
    (case l43 => k_is)
    (case c43 => k_is)
    (case k43 => k_is)
    (case a44 => k_is)
    (case l44 => k_is)
    (case c44 => k_is)
    (case k44 => k_is)
    (case a45 => k_is)
    (case l45 => k_is)
    (case c45 => k_is)
    (case k45 => k_is)
    (case a46 => k_is)
    (case l46 => k_is)
    (case c46 => k_is)
    (case k46 => k_is)
    (case a47 => k_is)
    (case l47 => k_is)
    (case c47 => k_is)
    (case k47 => k_is)
    (case z_bool => k_is)
    (case z_enumerate => k_is)
    (case z_int => k_is)
    (case z_isinstance => k_is)
    (case z_len => k_is)
    (case z_list => k_is)
    (case z_min => k_is)
    (case z_property => k_is)
    (case z_range => k_is)
    (case z_sorted => k_is)
    (case z_str => k_is)
    (case z_sum => k_is)
    (case z_tuple => k_is)
    (case pg_CT => k_is)
    (case hd_CT => k_is)
    (case po_CT => k_is)
    (case sa_CT => k_is)
    (case mk_CT => k_is)
    (case kc_CT => k_is)
    (case pg_CS => k_is)
    (case hd_CS => k_is)
    (case po_CS => k_is)
    (case sa_CS => k_is)
    (case mk_CS => k_is)
    (case kc_CS => k_is)
    (case pg_CH => k_is)
    (case hd_CH => k_is)
    (case po_CH => k_is)
    (case sa_CH => k_is)
    (case mk_CH => k_is)
    (case kc_CH => k_is)
    (case n_CT_kind => k_is)
    (case n_CT_tag => k_is)
    (case n_CT_slots => k_is)
    (case n_CT_age => k_is)
    (case n_CS_things => k_is)
    (case n_CH_things => k_is)
    (case n_CH_young_many => k_is)
    (case n_CH_old_many => k_is)
    (case n_CH_marked => k_is)
    (case rd => k_is)
    (case ga => k_is)
