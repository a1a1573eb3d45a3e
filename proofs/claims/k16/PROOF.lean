import PyProof.Rows.All
import Wide.All
import OpenK.AllK
import Wide.FinOn
import PyProof.EqAt
import PyProof.EqKinds
import PyProof.TupleCall
import HandS.ForExc
import HandS.ForMost
import HandS.StrMore
import HandS.ForDict
import HandS.ClsMeth
import HandS.NoneIn
import HandS.IsInst
import HandS.Style
import HandS.Wide
import HandS.Codes
import HandS.Walk
import HandS.More
import HandS.DictComp
import HandS.SortRule
import HandS.SortInts
import HandS.Conv
import HandS.Iter
import HandS.Property
import HandS.Defaults
import PySem.Challenge.RW_likerun_k16_remembered_objects
import HandS.SlotsOwn
import HandS.Text
import KE.KDictExact
import HandS.Flow
import HandS.Deep
import Open.SpecLaws
import KE.OsGo
set_option Elab.async false
set_option linter.all false
set_option maxRecDepth 100000
namespace D0
open PySem PySem.Spec PyProof.Rows L2
def top (i : Nat) : Stmt := PySem.Challenge.pw_likerun_k16_remembered_objects.main.body.getD i (.Pass ⟨0, 0, 0, 0⟩)
abbrev s__wall : Stmt := top 0
abbrev n__wall : List Str := ["k"]
abbrev p__wall : List Str := ["k"]
theorem sc__wall : FnScope n__wall p__wall (defScope s__wall) := ⟨rfl, rfl, rfl, by decide +kernel, rfl, by decide +kernel, by decide +kernel⟩
abbrev s_Thing___init__ : Stmt := inClass (top 2) 0
abbrev n_Thing___init__ : List Str := ["self", "kind", "tag", "slots"]
abbrev p_Thing___init__ : List Str := ["self", "kind", "tag", "slots"]
theorem sc_Thing___init__ : FnScope n_Thing___init__ p_Thing___init__ (defScope s_Thing___init__) := ⟨rfl, rfl, rfl, by decide +kernel, rfl, by decide +kernel, by decide +kernel⟩
abbrev s_Store___init__ : Stmt := inClass (top 3) 1
abbrev n_Store___init__ : List Str := ["self"]
abbrev p_Store___init__ : List Str := ["self"]
theorem sc_Store___init__ : FnScope n_Store___init__ p_Store___init__ (defScope s_Store___init__) := ⟨rfl, rfl, rfl, by decide +kernel, rfl, by decide +kernel, by decide +kernel⟩
abbrev s_Store___len__ : Stmt := inClass (top 3) 2
abbrev n_Store___len__ : List Str := ["self"]
abbrev p_Store___len__ : List Str := ["self"]
theorem sc_Store___len__ : FnScope n_Store___len__ p_Store___len__ (defScope s_Store___len__) := ⟨rfl, rfl, rfl, by decide +kernel, rfl, by decide +kernel, by decide +kernel⟩
abbrev s_Store_make : Stmt := inClass (top 3) 3
abbrev n_Store_make : List Str := ["self", "kind", "tag", "slots", "address"]
abbrev p_Store_make : List Str := ["self", "kind", "tag", "slots"]
theorem sc_Store_make : FnScope n_Store_make p_Store_make (defScope s_Store_make) := ⟨rfl, rfl, rfl, by decide +kernel, rfl, by decide +kernel, by decide +kernel⟩
abbrev s_Store_kind_of : Stmt := inClass (top 3) 4
abbrev n_Store_kind_of : List Str := ["self", "value"]
abbrev p_Store_kind_of : List Str := ["self", "value"]
theorem sc_Store_kind_of : FnScope n_Store_kind_of p_Store_kind_of (defScope s_Store_kind_of) := ⟨rfl, rfl, rfl, by decide +kernel, rfl, by decide +kernel, by decide +kernel⟩
abbrev s_Store_tag_of : Stmt := inClass (top 3) 5
abbrev n_Store_tag_of : List Str := ["self", "value"]
abbrev p_Store_tag_of : List Str := ["self", "value"]
theorem sc_Store_tag_of : FnScope n_Store_tag_of p_Store_tag_of (defScope s_Store_tag_of) := ⟨rfl, rfl, rfl, by decide +kernel, rfl, by decide +kernel, by decide +kernel⟩
abbrev s_Store_slots_of : Stmt := inClass (top 3) 6
abbrev n_Store_slots_of : List Str := ["self", "value"]
abbrev p_Store_slots_of : List Str := ["self", "value"]
theorem sc_Store_slots_of : FnScope n_Store_slots_of p_Store_slots_of (defScope s_Store_slots_of) := ⟨rfl, rfl, rfl, by decide +kernel, rfl, by decide +kernel, by decide +kernel⟩
abbrev s_Store_slot : Stmt := inClass (top 3) 7
abbrev n_Store_slot : List Str := ["self", "value", "index"]
abbrev p_Store_slot : List Str := ["self", "value", "index"]
theorem sc_Store_slot : FnScope n_Store_slot p_Store_slot (defScope s_Store_slot) := ⟨rfl, rfl, rfl, by decide +kernel, rfl, by decide +kernel, by decide +kernel⟩
abbrev s_Store_set_slot : Stmt := inClass (top 3) 8
abbrev n_Store_set_slot : List Str := ["self", "value", "index", "entry"]
abbrev p_Store_set_slot : List Str := ["self", "value", "index", "entry"]
theorem sc_Store_set_slot : FnScope n_Store_set_slot p_Store_set_slot (defScope s_Store_set_slot) := ⟨rfl, rfl, rfl, by decide +kernel, rfl, by decide +kernel, by decide +kernel⟩
abbrev s_Store_change : Stmt := inClass (top 3) 9
abbrev n_Store_change : List Str := ["self", "value", "tag", "slots", "thing"]
abbrev p_Store_change : List Str := ["self", "value", "tag", "slots"]
theorem sc_Store_change : FnScope n_Store_change p_Store_change (defScope s_Store_change) := ⟨rfl, rfl, rfl, by decide +kernel, rfl, by decide +kernel, by decide +kernel⟩
abbrev s_Store_reach : Stmt := inClass (top 3) 10
abbrev n_Store_reach : List Str := ["self", "entries", "met", "order", "at"]
abbrev p_Store_reach : List Str := ["self", "entries"]
theorem sc_Store_reach : FnScope n_Store_reach p_Store_reach (defScope s_Store_reach) := ⟨rfl, rfl, rfl, by decide +kernel, rfl, by decide +kernel, by decide +kernel⟩
abbrev s_Store_meet_all : Stmt := inClass (top 3) 11
abbrev n_Store_meet_all : List Str := ["self", "entries", "met", "order", "entry", "address"]
abbrev p_Store_meet_all : List Str := ["self", "entries", "met", "order"]
theorem sc_Store_meet_all : FnScope n_Store_meet_all p_Store_meet_all (defScope s_Store_meet_all) := ⟨rfl, rfl, rfl, by decide +kernel, rfl, by decide +kernel, by decide +kernel⟩
abbrev s_Store_graph : Stmt := inClass (top 3) 12
abbrev n_Store_graph : List Str := ["self", "entries"]
abbrev p_Store_graph : List Str := ["self", "entries"]
theorem sc_Store_graph : FnScope n_Store_graph p_Store_graph (defScope s_Store_graph) := ⟨rfl, rfl, rfl, by decide +kernel, rfl, by decide +kernel, by decide +kernel⟩
abbrev s_address_of : Stmt := top 4
abbrev n_address_of : List Str := ["entry", "word"]
abbrev p_address_of : List Str := ["entry"]
theorem sc_address_of : FnScope n_address_of p_address_of (defScope s_address_of) := ⟨rfl, rfl, rfl, by decide +kernel, rfl, by decide +kernel, by decide +kernel⟩
abbrev s_moved : Stmt := top 5
abbrev n_moved : List Str := ["entry", "table", "word"]
abbrev p_moved : List Str := ["entry", "table"]
theorem sc_moved : FnScope n_moved p_moved (defScope s_moved) := ⟨rfl, rfl, rfl, by decide +kernel, rfl, by decide +kernel, by decide +kernel⟩
abbrev s_Heap___init__ : Stmt := inClass (top 7) 0
abbrev n_Heap___init__ : List Str := ["self"]
abbrev p_Heap___init__ : List Str := ["self"]
theorem sc_Heap___init__ : FnScope n_Heap___init__ p_Heap___init__ (defScope s_Heap___init__) := ⟨rfl, rfl, rfl, by decide +kernel, rfl, by decide +kernel, by decide +kernel⟩
abbrev s_Heap___len__ : Stmt := inClass (top 7) 1
abbrev n_Heap___len__ : List Str := ["self"]
abbrev p_Heap___len__ : List Str := ["self"]
theorem sc_Heap___len__ : FnScope n_Heap___len__ p_Heap___len__ (defScope s_Heap___len__) := ⟨rfl, rfl, rfl, by decide +kernel, rfl, by decide +kernel, by decide +kernel⟩
abbrev s_Heap_young : Stmt := inClass (top 7) 2
abbrev n_Heap_young : List Str := ["self"]
abbrev p_Heap_young : List Str := ["self"]
theorem sc_Heap_young : FnScope n_Heap_young p_Heap_young (defScope s_Heap_young) := ⟨rfl, rfl, rfl, by decide +kernel, rfl, by decide +kernel, by decide +kernel⟩
abbrev s_Heap_old : Stmt := inClass (top 7) 3
abbrev n_Heap_old : List Str := ["self"]
abbrev p_Heap_old : List Str := ["self"]
theorem sc_Heap_old : FnScope n_Heap_old p_Heap_old (defScope s_Heap_old) := ⟨rfl, rfl, rfl, by decide +kernel, rfl, by decide +kernel, by decide +kernel⟩
abbrev s_Heap_remembered : Stmt := inClass (top 7) 4
abbrev n_Heap_remembered : List Str := ["self"]
abbrev p_Heap_remembered : List Str := ["self"]
theorem sc_Heap_remembered : FnScope n_Heap_remembered p_Heap_remembered (defScope s_Heap_remembered) := ⟨rfl, rfl, rfl, by decide +kernel, rfl, by decide +kernel, by decide +kernel⟩
abbrev s_Heap_make : Stmt := inClass (top 7) 5
abbrev n_Heap_make : List Str := ["self", "kind", "tag", "slots", "address"]
abbrev p_Heap_make : List Str := ["self", "kind", "tag", "slots"]
theorem sc_Heap_make : FnScope n_Heap_make p_Heap_make (defScope s_Heap_make) := ⟨rfl, rfl, rfl, by decide +kernel, rfl, by decide +kernel, by decide +kernel⟩
abbrev s_Heap_set_slot : Stmt := inClass (top 7) 6
abbrev n_Heap_set_slot : List Str := ["self", "value", "index", "entry"]
abbrev p_Heap_set_slot : List Str := ["self", "value", "index", "entry"]
theorem sc_Heap_set_slot : FnScope n_Heap_set_slot p_Heap_set_slot (defScope s_Heap_set_slot) := ⟨rfl, rfl, rfl, by decide +kernel, rfl, by decide +kernel, by decide +kernel⟩
abbrev s_Heap_change : Stmt := inClass (top 7) 7
abbrev n_Heap_change : List Str := ["self", "value", "tag", "slots", "thing"]
abbrev p_Heap_change : List Str := ["self", "value", "tag", "slots"]
theorem sc_Heap_change : FnScope n_Heap_change p_Heap_change (defScope s_Heap_change) := ⟨rfl, rfl, rfl, by decide +kernel, rfl, by decide +kernel, by decide +kernel⟩
abbrev s_Heap_remember : Stmt := inClass (top 7) 8
abbrev n_Heap_remember : List Str := ["self", "address", "entries"]
abbrev p_Heap_remember : List Str := ["self", "address", "entries"]
theorem sc_Heap_remember : FnScope n_Heap_remember p_Heap_remember (defScope s_Heap_remember) := ⟨rfl, rfl, rfl, by decide +kernel, rfl, by decide +kernel, by decide +kernel⟩
abbrev s_Heap_collect : Stmt := inClass (top 7) 9
abbrev n_Heap_collect : List Str := ["self", "entries", "full", "table", "entry"]
abbrev p_Heap_collect : List Str := ["self", "entries", "full"]
theorem sc_Heap_collect : FnScope n_Heap_collect p_Heap_collect (defScope s_Heap_collect) := ⟨rfl, rfl, rfl, by decide +kernel, rfl, by decide +kernel, by decide +kernel⟩
abbrev s_Heap_move_all : Stmt := inClass (top 7) 10
abbrev n_Heap_move_all : List Str := ["self", "entries", "order", "address", "table", "kept", "thing", "number", "entry"]
abbrev p_Heap_move_all : List Str := ["self", "entries"]
theorem sc_Heap_move_all : FnScope n_Heap_move_all p_Heap_move_all (defScope s_Heap_move_all) := ⟨rfl, rfl, rfl, by decide +kernel, rfl, by decide +kernel, by decide +kernel⟩
abbrev s_Heap_move_young : Stmt := inClass (top 7) 11
abbrev n_Heap_move_young : List Str := ["self", "entries", "order", "address", "copied", "changed", "number", "table", "thing"]
abbrev p_Heap_move_young : List Str := ["self", "entries"]
theorem sc_Heap_move_young : FnScope n_Heap_move_young p_Heap_move_young (defScope s_Heap_move_young) := ⟨rfl, rfl, rfl, by decide +kernel, rfl, by decide +kernel, by decide +kernel⟩
abbrev s_Heap_place : Stmt := inClass (top 7) 12
abbrev n_Heap_place : List Str := ["self", "thing", "address"]
abbrev p_Heap_place : List Str := ["self", "thing"]
theorem sc_Heap_place : FnScope n_Heap_place p_Heap_place (defScope s_Heap_place) := ⟨rfl, rfl, rfl, by decide +kernel, rfl, by decide +kernel, by decide +kernel⟩
abbrev s_Heap_readdress : Stmt := inClass (top 7) 13
abbrev n_Heap_readdress : List Str := ["self", "address", "table", "thing", "entry"]
abbrev p_Heap_readdress : List Str := ["self", "address", "table"]
theorem sc_Heap_readdress : FnScope n_Heap_readdress p_Heap_readdress (defScope s_Heap_readdress) := ⟨rfl, rfl, rfl, by decide +kernel, rfl, by decide +kernel, by decide +kernel⟩
abbrev s_Heap_reached_young : Stmt := inClass (top 7) 14
abbrev n_Heap_reached_young : List Str := ["self", "entries", "met", "order", "address", "at"]
abbrev p_Heap_reached_young : List Str := ["self", "entries"]
theorem sc_Heap_reached_young : FnScope n_Heap_reached_young p_Heap_reached_young (defScope s_Heap_reached_young) := ⟨rfl, rfl, rfl, by decide +kernel, rfl, by decide +kernel, by decide +kernel⟩
abbrev s_Heap_faults : Stmt := inClass (top 7) 15
abbrev n_Heap_faults : List Str := ["self", "entries", "asked", "forgotten", "address", "slots", "addresses", "dangling", "found", "entry"]
abbrev p_Heap_faults : List Str := ["self", "entries"]
theorem sc_Heap_faults : FnScope n_Heap_faults p_Heap_faults (defScope s_Heap_faults) := ⟨rfl, rfl, rfl, by decide +kernel, rfl, by decide +kernel, by decide +kernel⟩
abbrev s_is_young : Stmt := top 8
abbrev n_is_young : List Str := ["address"]
abbrev p_is_young : List Str := ["address"]
theorem sc_is_young : FnScope n_is_young p_is_young (defScope s_is_young) := ⟨rfl, rfl, rfl, by decide +kernel, rfl, by decide +kernel, by decide +kernel⟩
abbrev s_refers_to_young : Stmt := top 9
abbrev n_refers_to_young : List Str := ["entries", "entry", "address"]
abbrev p_refers_to_young : List Str := ["entries"]
theorem sc_refers_to_young : FnScope n_refers_to_young p_refers_to_young (defScope s_refers_to_young) := ⟨rfl, rfl, rfl, by decide +kernel, rfl, by decide +kernel, by decide +kernel⟩
abbrev s_meet_young : Stmt := top 10
abbrev n_meet_young : List Str := ["entries", "met", "order", "entry", "address"]
abbrev p_meet_young : List Str := ["entries", "met", "order"]
theorem sc_meet_young : FnScope n_meet_young p_meet_young (defScope s_meet_young) := ⟨rfl, rfl, rfl, by decide +kernel, rfl, by decide +kernel, by decide +kernel⟩
abbrev s__law_cell : Stmt := top 12
abbrev n__law_cell : List Str := ["script", "k"]
abbrev p__law_cell : List Str := ["script", "k"]
theorem sc__law_cell : FnScope n__law_cell p__law_cell (defScope s__law_cell) := ⟨rfl, rfl, rfl, by decide +kernel, rfl, by decide +kernel, by decide +kernel⟩
abbrev s__law_box : Stmt := top 13
abbrev n__law_box : List Str := ["script", "k", "cell"]
abbrev p__law_box : List Str := ["script", "k"]
theorem sc__law_box : FnScope n__law_box p__law_box (defScope s__law_box) := ⟨rfl, rfl, rfl, by decide +kernel, rfl, by decide +kernel, by decide +kernel⟩
abbrev s__law_take : Stmt := top 14
abbrev n__law_take : List Str := ["box", "many", "digit", "first", "second"]
abbrev p__law_take : List Str := ["box", "many"]
theorem sc__law_take : FnScope n__law_take p__law_take (defScope s__law_take) := ⟨rfl, rfl, rfl, by decide +kernel, rfl, by decide +kernel, by decide +kernel⟩
abbrev s__law_same : Stmt := top 15
abbrev n__law_same : List Str := ["told", "due", "k"]
abbrev p__law_same : List Str := ["told", "due"]
theorem sc__law_same : FnScope n__law_same p__law_same (defScope s__law_same) := ⟨rfl, rfl, rfl, by decide +kernel, rfl, by decide +kernel, by decide +kernel⟩
abbrev s__law_word : Stmt := top 16
abbrev n__law_word : List Str := ["box", "menu", "letters", "k"]
abbrev p__law_word : List Str := ["box"]
theorem sc__law_word : FnScope n__law_word p__law_word (defScope s__law_word) := ⟨rfl, rfl, rfl, by decide +kernel, rfl, by decide +kernel, by decide +kernel⟩
abbrev s__law_name : Stmt := top 17
abbrev n__law_name : List Str := ["box", "letters", "k"]
abbrev p__law_name : List Str := ["box"]
theorem sc__law_name : FnScope n__law_name p__law_name (defScope s__law_name) := ⟨rfl, rfl, rfl, by decide +kernel, rfl, by decide +kernel, by decide +kernel⟩
abbrev s__law_plain : Stmt := top 18
abbrev n__law_plain : List Str := ["box", "way", "menu", "words"]
abbrev p__law_plain : List Str := ["box"]
theorem sc__law_plain : FnScope n__law_plain p__law_plain (defScope s__law_plain) := ⟨rfl, rfl, rfl, by decide +kernel, rfl, by decide +kernel, by decide +kernel⟩
abbrev s__law_pending : Stmt := top 19
abbrev n__law_pending : List Str := ["box", "pool", "errors", "way", "reasons"]
abbrev p__law_pending : List Str := ["box", "pool", "errors"]
theorem sc__law_pending : FnScope n__law_pending p__law_pending (defScope s__law_pending) := ⟨rfl, rfl, rfl, by decide +kernel, rfl, by decide +kernel, by decide +kernel⟩
abbrev s__law_marked : Stmt := top 20
abbrev n__law_marked : List Str := ["box", "pool", "errors", "way"]
abbrev p__law_marked : List Str := ["box", "pool", "errors", "way"]
theorem sc__law_marked : FnScope n__law_marked p__law_marked (defScope s__law_marked) := ⟨rfl, rfl, rfl, by decide +kernel, rfl, by decide +kernel, by decide +kernel⟩
abbrev s__law_entry : Stmt := top 21
abbrev n__law_entry : List Str := ["box", "pool", "errors", "marks", "way"]
abbrev p__law_entry : List Str := ["box", "pool", "errors", "marks"]
theorem sc__law_entry : FnScope n__law_entry p__law_entry (defScope s__law_entry) := ⟨rfl, rfl, rfl, by decide +kernel, rfl, by decide +kernel, by decide +kernel⟩
abbrev s__law_kinds : Stmt := top 22
abbrev n__law_kinds : List Str := ["first"]
abbrev p__law_kinds : List Str := []
theorem sc__law_kinds : FnScope n__law_kinds p__law_kinds (defScope s__law_kinds) := ⟨rfl, rfl, rfl, by decide +kernel, rfl, by decide +kernel, by decide +kernel⟩
abbrev s__law_kind : Stmt := top 23
abbrev n__law_kind : List Str := ["box", "menu"]
abbrev p__law_kind : List Str := ["box"]
theorem sc__law_kind : FnScope n__law_kind p__law_kind (defScope s__law_kind) := ⟨rfl, rfl, rfl, by decide +kernel, rfl, by decide +kernel, by decide +kernel⟩
abbrev s__law_marks : Stmt := top 24
abbrev n__law_marks : List Str := ["kind"]
abbrev p__law_marks : List Str := ["kind"]
theorem sc__law_marks : FnScope n__law_marks p__law_marks (defScope s__law_marks) := ⟨rfl, rfl, rfl, by decide +kernel, rfl, by decide +kernel, by decide +kernel⟩
abbrev s__law_tag : Stmt := top 25
abbrev n__law_tag : List Str := ["box", "kind", "many", "name", "words", "k"]
abbrev p__law_tag : List Str := ["box", "kind", "many"]
theorem sc__law_tag : FnScope n__law_tag p__law_tag (defScope s__law_tag) := ⟨rfl, rfl, rfl, by decide +kernel, rfl, by decide +kernel, by decide +kernel⟩
abbrev s__law_form : Stmt := top 26
abbrev n__law_form : List Str := ["box", "kind", "pool", "errors", "many", "k", "rest", "tag", "first", "pairs", "entry"]
abbrev p__law_form : List Str := ["box", "kind", "pool", "errors"]
theorem sc__law_form : FnScope n__law_form p__law_form (defScope s__law_form) := ⟨rfl, rfl, rfl, by decide +kernel, rfl, by decide +kernel, by decide +kernel⟩
abbrev s__law_free : Stmt := top 27
abbrev n__law_free : List Str := ["node", "k"]
abbrev p__law_free : List Str := ["node"]
theorem sc__law_free : FnScope n__law_free p__law_free (defScope s__law_free) := ⟨rfl, rfl, rfl, by decide +kernel, rfl, by decide +kernel, by decide +kernel⟩
abbrev s__law_target : Stmt := top 28
abbrev n__law_target : List Str := ["entry"]
abbrev p__law_target : List Str := ["entry"]
theorem sc__law_target : FnScope n__law_target p__law_target (defScope s__law_target) := ⟨rfl, rfl, rfl, by decide +kernel, rfl, by decide +kernel, by decide +kernel⟩
abbrev s__law_moved : Stmt := top 29
abbrev n__law_moved : List Str := ["entry", "table"]
abbrev p__law_moved : List Str := ["entry", "table"]
theorem sc__law_moved : FnScope n__law_moved p__law_moved (defScope s__law_moved) := ⟨rfl, rfl, rfl, by decide +kernel, rfl, by decide +kernel, by decide +kernel⟩
abbrev s__law_sent : Stmt := top 30
abbrev n__law_sent : List Str := ["entries", "table", "entry"]
abbrev p__law_sent : List Str := ["entries", "table"]
theorem sc__law_sent : FnScope n__law_sent p__law_sent (defScope s__law_sent) := ⟨rfl, rfl, rfl, by decide +kernel, rfl, by decide +kernel, by decide +kernel⟩
abbrev s__law_spoil : Stmt := top 31
abbrev n__law_spoil : List Str := ["row", "due"]
abbrev p__law_spoil : List Str := ["row", "due"]
theorem sc__law_spoil : FnScope n__law_spoil p__law_spoil (defScope s__law_spoil) := ⟨rfl, rfl, rfl, by decide +kernel, rfl, by decide +kernel, by decide +kernel⟩
abbrev s__law_errors : Stmt := top 32
abbrev n__law_errors : List Str := ["nodes", "k"]
abbrev p__law_errors : List Str := ["nodes"]
theorem sc__law_errors : FnScope n__law_errors p__law_errors (defScope s__law_errors) := ⟨rfl, rfl, rfl, by decide +kernel, rfl, by decide +kernel, by decide +kernel⟩
abbrev s__law_counts : Stmt := top 33
abbrev n__law_counts : List Str := ["bank", "new", "aged"]
abbrev p__law_counts : List Str := ["bank", "new", "aged"]
theorem sc__law_counts : FnScope n__law_counts p__law_counts (defScope s__law_counts) := ⟨rfl, rfl, rfl, by decide +kernel, rfl, by decide +kernel, by decide +kernel⟩
abbrev s__law_first : Stmt := top 34
abbrev n__law_first : List Str := ["script", "bank", "nodes", "many", "fill", "k", "box", "kind", "form", "table", "one"]
abbrev p__law_first : List Str := ["script", "bank", "nodes", "many"]
theorem sc__law_first : FnScope n__law_first p__law_first (defScope s__law_first) := ⟨rfl, rfl, rfl, by decide +kernel, rfl, by decide +kernel, by decide +kernel⟩
abbrev s__law_aged : Stmt := top 35
abbrev n__law_aged : List Str := ["bank", "many", "way", "odd", "even", "k"]
abbrev p__law_aged : List Str := ["bank", "many", "way"]
theorem sc__law_aged : FnScope n__law_aged p__law_aged (defScope s__law_aged) := ⟨rfl, rfl, rfl, by decide +kernel, rfl, by decide +kernel, by decide +kernel⟩
abbrev s__law_table : Stmt := top 36
abbrev n__law_table : List Str := ["many", "aged", "k"]
abbrev p__law_table : List Str := ["many", "aged"]
theorem sc__law_table : FnScope n__law_table p__law_table (defScope s__law_table) := ⟨rfl, rfl, rfl, by decide +kernel, rfl, by decide +kernel, by decide +kernel⟩
abbrev s__law_note : Stmt := top 37
abbrev n__law_note : List Str := ["aged", "marked", "node", "entries", "entry"]
abbrev p__law_note : List Str := ["aged", "marked", "node", "entries"]
theorem sc__law_note : FnScope n__law_note p__law_note (defScope s__law_note) := ⟨rfl, rfl, rfl, by decide +kernel, rfl, by decide +kernel, by decide +kernel⟩
abbrev s__law_make : Stmt := top 38
abbrev n__law_make : List Str := ["box", "bank", "nodes", "aged", "pool", "errors", "kind", "form", "value"]
abbrev p__law_make : List Str := ["box", "bank", "nodes", "aged", "pool", "errors"]
theorem sc__law_make : FnScope n__law_make p__law_make (defScope s__law_make) := ⟨rfl, rfl, rfl, by decide +kernel, rfl, by decide +kernel, by decide +kernel⟩
abbrev s__law_change : Stmt := top 39
abbrev n__law_change : List Str := ["box", "bank", "nodes", "aged", "marked", "pool", "errors", "node", "kind", "form", "table", "given"]
abbrev p__law_change : List Str := ["box", "bank", "nodes", "aged", "marked", "pool", "errors"]
theorem sc__law_change : FnScope n__law_change p__law_change (defScope s__law_change) := ⟨rfl, rfl, rfl, by decide +kernel, rfl, by decide +kernel, by decide +kernel⟩
abbrev s__law_deed : Stmt := top 40
abbrev n__law_deed : List Str := ["box", "bank", "nodes", "aged", "marked", "way", "pool", "errors", "holders", "node", "places", "at", "entry", "row", "table", "k"]
abbrev p__law_deed : List Str := ["box", "bank", "nodes", "aged", "marked"]
theorem sc__law_deed : FnScope n__law_deed p__law_deed (defScope s__law_deed) := ⟨rfl, rfl, rfl, by decide +kernel, rfl, by decide +kernel, by decide +kernel⟩
abbrev s__law_strays : Stmt := top 41
abbrev n__law_strays : List Str := ["box", "bank", "nodes", "aged", "table", "k", "entries", "firsts", "places", "forms", "due", "place", "handed", "row"]
abbrev p__law_strays : List Str := ["box", "bank", "nodes", "aged"]
theorem sc__law_strays : FnScope n__law_strays p__law_strays (defScope s__law_strays) := ⟨rfl, rfl, rfl, by decide +kernel, rfl, by decide +kernel, by decide +kernel⟩
abbrev s__law_told : Stmt := top 42
abbrev n__law_told : List Str := ["box", "bank", "nodes", "aged", "marked", "k", "due", "row", "table"]
abbrev p__law_told : List Str := ["box", "bank", "nodes", "aged", "marked"]
theorem sc__law_told : FnScope n__law_told p__law_told (defScope s__law_told) := ⟨rfl, rfl, rfl, by decide +kernel, rfl, by decide +kernel, by decide +kernel⟩
abbrev s__law_other : Stmt := top 43
abbrev n__law_other : List Str := ["bank", "nodes", "aged", "holders", "last", "places", "k"]
abbrev p__law_other : List Str := ["bank", "nodes", "aged"]
theorem sc__law_other : FnScope n__law_other p__law_other (defScope s__law_other) := ⟨rfl, rfl, rfl, by decide +kernel, rfl, by decide +kernel, by decide +kernel⟩
abbrev s__law_last : Stmt := top 44
abbrev n__law_last : List Str := ["box", "bank", "places", "value", "place"]
abbrev p__law_last : List Str := ["box", "bank"]
theorem sc__law_last : FnScope n__law_last p__law_last (defScope s__law_last) := ⟨rfl, rfl, rfl, by decide +kernel, rfl, by decide +kernel, by decide +kernel⟩
abbrev s_law : Stmt := top 45
abbrev n_law : List Str := ["script", "head", "many", "way", "deeds", "bank", "twin", "nodes", "due", "marked", "turn", "box"]
abbrev p_law : List Str := ["script"]
theorem sc_law : FnScope n_law p_law (defScope s_law) := ⟨rfl, rfl, rfl, by decide +kernel, rfl, by decide +kernel, by decide +kernel⟩
end D0
namespace D0
open PySem PySem.Spec PyProof.Rows L2 SX
theorem _root_.L2.Fun.lk {K : PySem.W.Frag} {x q : Str} {st : Stmt} {f : Addr} {fd : FuncData} (F : Fun K x q st f fd) : ∃ oc od osl, K.lookup f = some ⟨oc, od, .func fd, osl⟩ := by
  obtain ⟨oc, od, kV, doc, pm, an, cdv, ct, osl, e, lk, _⟩ := F.ex
  exact ⟨oc, od, osl, lk⟩
/-- the def named x keeps the promise sp -/
def OkD (P : Program) (w : World) (K : PySem.W.Frag) (mg : Str → Option Value) (base : Heap) (CX : CXT) (k : Nat) (x : Str) (ps : List Str) (sp : Sp) : Prop :=
  ∃ f fd, mg x = some (.ref f) ∧ PySem.W.keepIn K (.ref f) = true ∧ Binds K fd ps [] ∧ (∃ oc od osl, K.lookup f = some ⟨oc, od, .func fd, osl⟩) ∧ FnOk P w K mg base CX k f fd ps sp
theorem OkD.mono {P w K mg base CX j k x ps sp} (O : OkD P w K mg base CX j x ps sp) (h : j ≤ k) : OkD P w K mg base CX k x ps sp := by
  obtain ⟨f, fd, a, b, c, d, F⟩ := O
  exact ⟨f, fd, a, b, c, d, F.mono h⟩
/-- the def named x stands in the text as st -/
def Gv (K : PySem.W.Frag) (mg : Str → Option Value) (x : Str) (st : Stmt) (ps : List Str) : Prop :=
  ∃ f fd, Fun K x x st f fd ∧ mg x = some (.ref f) ∧ Binds K fd ps []
section
variable {X : Cx} {CX : CXT} {k j : Nat} {ps : List Str} {sp : Sp} {E : XK} {x : Str} {p pos : Pos} {e : Expr} {es : List Expr} {t : TA}
theorem pcallE (O : OkD X.prog X.w X.K X.mg X.base CX k x ps sp) (hr : Room j X.A) (hx : Passes CX X E) (ha : PA X (e :: es) t) (hj : k ≤ j := by first | decide | omega) (hg : Gl X x := by rfl)
    (hdb : (x == ("__debug__" : Str)) = false := by decide) (he : starEach (e :: es) X.env = (false, eval e X.env) :: starEach es X.env := by rfl) (hpl : (backTo pos (starEach es X.env)).any (·.1) = false := by rfl) :
    PE X (.Call (.Name x p) (e :: es) [] pos) (tCall sp [] E t) := by
  obtain ⟨f, fd, hm, hk, hb, _, F⟩ := O
  exact pe_call F (hr.mono hj) hg hm hk hb .nil hx ha hdb he hpl
theorem pcall (O : OkD X.prog X.w X.K X.mg X.base CX0 k x ps sp) (hr : Room j X.A) (ha : PA X (e :: es) t) (hj : k ≤ j := by first | decide | omega) (hg : Gl X x := by rfl)
    (hdb : (x == ("__debug__" : Str)) = false := by decide) (he : starEach (e :: es) X.env = (false, eval e X.env) :: starEach es X.env := by rfl) (hpl : (backTo pos (starEach es X.env)).any (·.1) = false := by rfl) :
    PE X (.Call (.Name x p) (e :: es) [] pos) (tCall sp [] E0 t) := pcallE O hr pass0 ha hj hg hdb he hpl
theorem pcall0 (O : OkD X.prog X.w X.K X.mg X.base CX0 k x ps sp) (hr : Room j X.A) (hj : k ≤ j := by first | decide | omega) (hg : Gl X x := by rfl)
    (hdb : (x == ("__debug__" : Str)) = false := by decide) :
    PE X (.Call (.Name x p) [] [] pos) (tCall sp [] E0 tNil) := by
  obtain ⟨f, fd, hm, hk, hb, _, F⟩ := O
  exact pe_call0 F (hr.mono hj) hg hm hk hb .nil pass0 hdb
end
section
variable {P : Program} {w : World} {K : PySem.W.Frag} {mg : Str → Option Value} {base : Heap}
theorem Gv.ok {x : Str} {st : Stmt} {N ps : List Str} {k : Nat} {sp : Sp} (G : Gv K mg x st ps) (S : FnScope N ps (defScope st)) (len : ∀ vs H Q E, sp vs H Q E → vs.length = ps.length)
    (hbody : ∀ (f : Addr) (cdv : Value) (A : Around) (outer : List Env) (s : Shared) (H : Hp) (vs : List V) (Q : VK) (E : XK), Room k (A.deeper (envOfC x (defScope st) s.heap.objs.size f cdv)) → sp vs H Q E →
      ∃ t, PSs (cxOf CX0 P w K mg base N x (defScope st) f cdv A outer s H E).nox (defBody st) t ∧ t { nx := fun _ H' => Q .non H', rt := Q } (start N vs) H) : OkD P w K mg base CX0 (k + 1) x ps sp := by
  obtain ⟨f, fd, F, hm, hb⟩ := G
  exact ⟨f, fd, hm, F.kp, hb, F.lk, F.ok S len (hbody f)⟩
theorem Gv.okX {x : Str} {st : Stmt} {N ps : List Str} {k : Nat} {sp : Sp} (G : Gv K mg x st ps) (S : FnScope N ps (defScope st)) (len : ∀ vs H Q E, sp vs H Q E → vs.length = ps.length)
    (hbody : ∀ (f : Addr) (cdv : Value) (A : Around) (outer : List Env) (s : Shared) (H : Hp) (vs : List V) (Q : VK) (E : XK), Room k (A.deeper (envOfC x (defScope st) s.heap.objs.size f cdv)) → sp vs H Q E →
      ∃ t, PSs (cxOf (L2.CX P w) P w K mg base N x (defScope st) f cdv A outer s H E) (defBody st) t ∧ t { nx := fun _ H' => Q .non H', rt := Q } (start N vs) H) : OkD P w K mg base (L2.CX P w) (k + 1) x ps sp := by
  obtain ⟨f, fd, F, hm, hb⟩ := G
  exact ⟨f, fd, hm, F.kp, hb, F.lk, F.okX S len (hbody f)⟩
end
theorem pe_gI {X : Cx} {x : Str} {n : Int} {pos : Pos} (h : ∃ t, X.mg x = some (.int n t)) (hg : Gl X x := by rfl) (hd : (x == ("__debug__" : Str)) = false := by decide) : PE X (.Name x pos) (tC (.int n)) := by
  obtain ⟨t, h⟩ := h
  exact pe_glob hg h (show RelV (.int n) _ from ⟨t, rfl⟩) hd
/-- is True, is False: of any value -/
theorem op_isTF {X : Cx} : OpR X (compareOp .Is) (fun x y H Q => ∃ b, y = .bl b ∧ Q (.bl (decide (x = .bl b))) H) := by
  intro pins s σ H x y v u Q I rx ry h
  obtain ⟨b, rfl, q⟩ := h
  cases (show u = Value.bool b from ry)
  by_cases e : x = .bl b
  · subst e
    cases (show v = Value.bool b from rx)
    exact wpAny_is_self rfl ⟨.bl true, H, I, rfl, by simpa using q⟩
  · have hp : plainIs v (Value.bool b) = true ∧ v ≠ Value.bool b := by
      cases x with
      | bl c => cases (show v = Value.bool c from rx); exact ⟨rfl, fun z => e (by cases z; rfl)⟩
      | non => cases (show v = Value.none from rx); exact ⟨rfl, fun z => nomatch z⟩
      | ref a => cases (show v = Value.ref a from rx); exact ⟨rfl, fun z => nomatch z⟩
      | ty n => cases (show v = Value.type n from rx); exact ⟨rfl, fun z => nomatch z⟩
      | int i => obtain ⟨t, rfl⟩ := rx; exact ⟨rfl, fun z => nomatch z⟩
      | str i => obtain ⟨t, rfl⟩ := rx; exact ⟨rfl, fun z => nomatch z⟩
      | byt i => obtain ⟨t, rfl⟩ := rx; exact ⟨rfl, fun z => nomatch z⟩
      | flt i => obtain ⟨t, rfl⟩ := rx; exact ⟨rfl, fun z => nomatch z⟩
    exact wpAny_is_other hp.1 hp.2 ⟨.bl false, H, I, rfl, by simpa [e] using q⟩
section
variable {P : Program} {w : World} {K : PySem.W.Frag} {mg : Str → Option Value} {base : Heap}
/-- the method m of the class C keeps the promise sp -/
def OkM (P : Program) (w : World) (K : PySem.W.Frag) (mg : Str → Option Value) (base : Heap) (C : Addr) (CX : CXT) (k : Nat) (m : Str) (ps : List Str) (sp : Sp) : Prop :=
  ∃ f fd, Meth K C m f ∧ Binds K fd ps [] ∧ FnOk P w K mg base CX k f fd ps sp
def Gvm (K : PySem.W.Frag) (C : Addr) (m q : Str) (st : Stmt) (ps : List Str) : Prop := ∃ f fd, Fun K m q st f fd ∧ Meth K C m f ∧ Binds K fd ps []
theorem OkM.mono {C : Addr} {CX j k x ps sp} (O : OkM P w K mg base C CX j x ps sp) (h : j ≤ k) : OkM P w K mg base C CX k x ps sp := by
  obtain ⟨f, fd, a, b, F⟩ := O
  exact ⟨f, fd, a, b, F.mono h⟩
theorem Gvm.ok {C : Addr} {x q : Str} {st : Stmt} {N ps : List Str} {k : Nat} {sp : Sp} (G : Gvm K C x q st ps) (S : FnScope N ps (defScope st)) (len : ∀ vs H Q E, sp vs H Q E → vs.length = ps.length)
    (hbody : ∀ (f : Addr) (cdv : Value) (A : Around) (outer : List Env) (s : Shared) (H : Hp) (vs : List V) (Q : VK) (E : XK), Room k (A.deeper (envOfC q (defScope st) s.heap.objs.size f cdv)) → sp vs H Q E →
      ∃ t, PSs (cxOf CX0 P w K mg base N q (defScope st) f cdv A outer s H E).nox (defBody st) t ∧ t { nx := fun _ H' => Q .non H', rt := Q } (start N vs) H) : OkM P w K mg base C CX0 (k + 1) x ps sp := by
  obtain ⟨f, fd, F, hm, hb⟩ := G
  exact ⟨f, fd, hm, hb, F.ok S len (hbody f)⟩
theorem Gvm.okX {C : Addr} {x q : Str} {st : Stmt} {N ps : List Str} {k : Nat} {sp : Sp} (G : Gvm K C x q st ps) (S : FnScope N ps (defScope st)) (len : ∀ vs H Q E, sp vs H Q E → vs.length = ps.length)
    (hbody : ∀ (f : Addr) (cdv : Value) (A : Around) (outer : List Env) (s : Shared) (H : Hp) (vs : List V) (Q : VK) (E : XK), Room k (A.deeper (envOfC q (defScope st) s.heap.objs.size f cdv)) → sp vs H Q E →
      ∃ t, PSs (cxOf (L2.CX P w) P w K mg base N q (defScope st) f cdv A outer s H E) (defBody st) t ∧ t { nx := fun _ H' => Q .non H', rt := Q } (start N vs) H) : OkM P w K mg base C (L2.CX P w) (k + 1) x ps sp := by
  obtain ⟨f, fd, F, hm, hb⟩ := G
  exact ⟨f, fd, hm, hb, F.okX S len (hbody f)⟩
end
section
variable {X : Cx} {CX : CXT} {k j : Nat} {ps : List Str} {sp : Sp} {E : XK} {x m : Str} {p pos apos : Pos} {o e : Expr} {es : List Expr} {ta : TE} {t : TA} {C : Addr} {pl : Sem Bool}
theorem pmethE (O : OkM X.prog X.w X.K X.mg X.base C CX k m ps sp) (cl : Cls X.K C) (hr : Room j X.A) (hx : Passes CX X E) (ho : PE X o ta) (ha : PA X (e :: es) t) (hj : k ≤ j := by first | decide | omega)
    (he : starEach (e :: es) X.env = (false, eval e X.env) :: starEach es X.env := by rfl) (hpl : (backTo pos (starEach es X.env)).any (·.1) = false := by rfl)
    (hm : eval (.Call (.Attribute o m apos) (e :: es) [] pos) X.env = (do
      let ov ← eval o X.env
      standAt apos.atName
      let (f, first) ← holding [ov] (getMethod ov m pl)
      callWith pos f first (backTo pos (starEach (e :: es) X.env)) (backToKw pos (keywordEach [] X.env))) := by rfl) :
    PE X (.Call (.Attribute o m apos) (e :: es) [] pos) (tMeth C m sp [] E ta t) := by
  obtain ⟨f, fd, hm', hb, F⟩ := O
  exact pe_meth ho cl hm' F (hr.mono hj) hb .nil hx ha he hpl hm
theorem pmeth0 (O : OkM X.prog X.w X.K X.mg X.base C CX k m ps sp) (cl : Cls X.K C) (hr : Room j X.A) (hx : Passes CX X E) (ho : PE X o ta) (hj : k ≤ j := by first | decide | omega)
    (hm : eval (.Call (.Attribute o m apos) [] [] pos) X.env = (do
      let ov ← eval o X.env
      standAt apos.atName
      let (f, first) ← holding [ov] (getMethod ov m pl)
      callWith pos f first (backTo pos (starEach [] X.env)) (backToKw pos (keywordEach [] X.env))) := by rfl) :
    PE X (.Call (.Attribute o m apos) [] [] pos) (tMeth C m sp [] E ta tNil) := by
  obtain ⟨f, fd, hm', hb, F⟩ := O
  exact pe_meth0 ho cl hm' F (hr.mono hj) hb .nil hx hm
end
end D0
namespace D0
open PySem PySem.Spec PyProof.Rows L2 SX
/-- THE TEXT -/
structure Txt (K : PySem.W.Frag) (w : World) (mg : Str → Option Value) : Prop where
  z_bool : mg "bool" = none
  z_enumerate : mg "enumerate" = none
  z_int : mg "int" = none
  z_isinstance : mg "isinstance" = none
  z_len : mg "len" = none
  z_list : mg "list" = none
  z_property : mg "property" = none
  z_range : mg "range" = none
  z_sorted : mg "sorted" = none
  z_str : mg "str" = none
  z_sum : mg "sum" = none
  z_tuple : mg "tuple" = none
  z_zip : mg "zip" = none
  g__wall : Gv K mg "_wall" s__wall p__wall
  g_address_of : Gv K mg "address_of" s_address_of p_address_of
  g_moved : Gv K mg "moved" s_moved p_moved
  g_is_young : Gv K mg "is_young" s_is_young p_is_young
  g_refers_to_young : Gv K mg "refers_to_young" s_refers_to_young p_refers_to_young
  g_meet_young : Gv K mg "meet_young" s_meet_young p_meet_young
  g__law_cell : Gv K mg "_law_cell" s__law_cell p__law_cell
  g__law_box : Gv K mg "_law_box" s__law_box p__law_box
  g__law_take : Gv K mg "_law_take" s__law_take p__law_take
  g__law_same : Gv K mg "_law_same" s__law_same p__law_same
  g__law_word : Gv K mg "_law_word" s__law_word p__law_word
  g__law_name : Gv K mg "_law_name" s__law_name p__law_name
  g__law_plain : Gv K mg "_law_plain" s__law_plain p__law_plain
  g__law_pending : Gv K mg "_law_pending" s__law_pending p__law_pending
  g__law_marked : Gv K mg "_law_marked" s__law_marked p__law_marked
  g__law_entry : Gv K mg "_law_entry" s__law_entry p__law_entry
  g__law_kinds : Gv K mg "_law_kinds" s__law_kinds p__law_kinds
  g__law_kind : Gv K mg "_law_kind" s__law_kind p__law_kind
  g__law_marks : Gv K mg "_law_marks" s__law_marks p__law_marks
  g__law_tag : Gv K mg "_law_tag" s__law_tag p__law_tag
  g__law_form : Gv K mg "_law_form" s__law_form p__law_form
  g__law_free : Gv K mg "_law_free" s__law_free p__law_free
  g__law_target : Gv K mg "_law_target" s__law_target p__law_target
  g__law_moved : Gv K mg "_law_moved" s__law_moved p__law_moved
  g__law_sent : Gv K mg "_law_sent" s__law_sent p__law_sent
  g__law_spoil : Gv K mg "_law_spoil" s__law_spoil p__law_spoil
  g__law_errors : Gv K mg "_law_errors" s__law_errors p__law_errors
  g__law_counts : Gv K mg "_law_counts" s__law_counts p__law_counts
  g__law_first : Gv K mg "_law_first" s__law_first p__law_first
  g__law_aged : Gv K mg "_law_aged" s__law_aged p__law_aged
  g__law_table : Gv K mg "_law_table" s__law_table p__law_table
  g__law_note : Gv K mg "_law_note" s__law_note p__law_note
  g__law_make : Gv K mg "_law_make" s__law_make p__law_make
  g__law_change : Gv K mg "_law_change" s__law_change p__law_change
  g__law_deed : Gv K mg "_law_deed" s__law_deed p__law_deed
  g__law_strays : Gv K mg "_law_strays" s__law_strays p__law_strays
  g__law_told : Gv K mg "_law_told" s__law_told p__law_told
  g__law_other : Gv K mg "_law_other" s__law_other p__law_other
  g__law_last : Gv K mg "_law_last" s__law_last p__law_last
  g_law : Gv K mg "law" s_law p_law
structure ThT (K : PySem.W.Frag) (mg : Str → Option Value) (C : Addr) : Prop where
  cl : Cls K C
  gl : mg "Thing" = some (.ref C)
  n_kind : NoAttr K C "kind"
  n_tag : NoAttr K C "tag"
  n_slots : NoAttr K C "slots"
  n_age : NoAttr K C "age"
  ini : ∃ fI fd, Mk K C fI ∧ Binds K fd p_Thing___init__ [] ∧ Fun K "__init__" "Thing.__init__" s_Thing___init__ fI fd
/-- the class of the bank -/
structure HeT (K : PySem.W.Frag) (mg : Str → Option Value) (C : Addr) : Prop where
  cl : Cls K C
  gl : mg "Heap" = some (.ref C)
  n_things : NoAttr K C "things"
  n_young_many : NoAttr K C "young_many"
  n_old_many : NoAttr K C "old_many"
  n_marked : NoAttr K C "marked"
  ini : ∃ fI fd, Mk K C fI ∧ Binds K fd p_Heap___init__ [] ∧ Fun K "__init__" "Heap.__init__" s_Heap___init__ fI fd
  g_reach : Gvm K C "reach" "Store.reach" s_Store_reach p_Store_reach
  g_meet_all : Gvm K C "meet_all" "Store.meet_all" s_Store_meet_all p_Store_meet_all
  g_slots_of : Gvm K C "slots_of" "Store.slots_of" s_Store_slots_of p_Store_slots_of
  g_make : Gvm K C "make" "Heap.make" s_Heap_make p_Heap_make
  g_set_slot : Gvm K C "set_slot" "Heap.set_slot" s_Heap_set_slot p_Heap_set_slot
  g_change : Gvm K C "change" "Heap.change" s_Heap_change p_Heap_change
  g_remember : Gvm K C "remember" "Heap.remember" s_Heap_remember p_Heap_remember
  g_move_all : Gvm K C "move_all" "Heap.move_all" s_Heap_move_all p_Heap_move_all
  g_move_young : Gvm K C "move_young" "Heap.move_young" s_Heap_move_young p_Heap_move_young
  g_place : Gvm K C "place" "Heap.place" s_Heap_place p_Heap_place
  g_readdress : Gvm K C "readdress" "Heap.readdress" s_Heap_readdress p_Heap_readdress
  g_reached_young : Gvm K C "reached_young" "Heap.reached_young" s_Heap_reached_young p_Heap_reached_young
  g_faults : Gvm K C "faults" "Heap.faults" s_Heap_faults p_Heap_faults
  y_young : ∃ p f fd, PropOf K C "young" p f ∧ Fun K "young" "Heap.young" s_Heap_young f fd ∧ Binds K fd p_Heap_young []
  y_old : ∃ p f fd, PropOf K C "old" p f ∧ Fun K "old" "Heap.old" s_Heap_old f fd ∧ Binds K fd p_Heap_old []
  y_remembered : ∃ p f fd, PropOf K C "remembered" p f ∧ Fun K "remembered" "Heap.remembered" s_Heap_remembered f fd ∧ Binds K fd p_Heap_remembered []
  len : ∃ g fd, PySem.W.findIn K (.ref C) "__len__" = some (some (.ref g)) ∧ PySem.W.isFn K (.ref g) = true ∧ Fun K "__len__" "Heap.__len__" s_Heap___len__ g fd ∧ Binds K fd p_Heap___len__ []
  col : ∃ f fd, FunD K "collect" "Heap.collect" (defArgs s_Heap_collect) (defBody s_Heap_collect) (defScope s_Heap_collect) [.bl false] [] f fd ∧ Meth K C "collect" f
end D0
namespace D0
open PySem PySem.Spec PyProof.Rows L2 SX
/-- how collect binds: all three given; full lacks; full by its name -/
theorem col_binds {K : PySem.W.Frag} {f : Addr} {fd : FuncData} (F : FunD K "collect" "Heap.collect" (defArgs s_Heap_collect) (defBody s_Heap_collect) (defScope s_Heap_collect) [.bl false] [] f fd) :
    Binds K fd p_Heap_collect [] ∧ (∃ t, RelV (.bl false) t ∧ Binds K fd p_Heap_collect [t]) ∧ KBn K fd p_Heap_collect 2 ["full"] (fun us ws => us ++ ws) (fun vs zs => vs ++ zs) := by
  refine ⟨?_, ?_, ?_⟩
  · obtain ⟨ds, r, h⟩ := F.binds1 (ps := p_Heap_collect) 3 1 (by simp) rfl (fun T kV doc pm an cdv ct us its h1 h2 => match us, its, h1, h2 with | [_, _, _], [_], _, _ => ⟨_, rfl, rfl⟩)
    cases r
    exact h
  · obtain ⟨ds, r, h⟩ := F.binds1 (ps := p_Heap_collect) 2 0 (by simp) rfl (fun T kV doc pm an cdv ct us its h1 h2 => match us, its, h1, h2 with | [_, _], [_], _, _ => ⟨_, rfl, rfl⟩)
    obtain ⟨t, rfl, rt⟩ := Vals.one r
    exact ⟨t, rt, h⟩
  · obtain ⟨oc, od, dV, kV, doc, pm, an, cdv, ct, osl, rfl, lk, hcd, hD, hK⟩ := F.ex
    rcases hD with ⟨e, _⟩ | ⟨_, T, o, its, m, rfl, lT, oT, rT⟩
    · cases e
    refine ⟨fun s us ws X l1 l2 => ?_, fun r1 r2 => r1.append r2⟩
    obtain ⟨k, e1, e2⟩ : ∃ k, bindArgs (PySem.W.fnOf "collect" "Heap.collect" (defArgs s_Heap_collect) (defBody s_Heap_collect) (defScope s_Heap_collect) (.ref T) kV doc pm an cdv ct) ⟨us, (["full"] : List Str).zip ws⟩ = seqItems? (.ref T) >>= k ∧ k (some its.toArray) = pure (p_Heap_collect.zip (us ++ ws)) :=
      match us, ws, its, l1, l2, rT.length.symm with | [_, _], [_], [_], _, _, _ => ⟨_, rfl, rfl⟩
    refine BindsTo.of_looks fun M => ?_
    rw [e1]
    exact looks_items X lT oT (.of_pure e2)
end D0
namespace D0
open PySem PySem.Spec PyProof.Rows L2 SX
theorem same_new {H : Hp} {p : Addr} (h : H p = none) (o : HO) : Same H (upd H p o) := fun b u q => by rw [upd_ne (ne_of_none q h)]; exact q
theorem split_at {X : Cx} {body : List Stmt} (n : Nat) {F : TS → Prop} (G : TS → Prop) (h1 : ∃ t, PSs X (body.drop n) t ∧ G t) (h2 : ∀ t, PSs X (body.drop n) t → G t → ∃ u, PSs X body u ∧ F u) : ∃ u, PSs X body u ∧ F u := by
  obtain ⟨t, a, b⟩ := h1
  exact h2 t a b
theorem str_dec (a b : List Nat) : decide (V.str (S a) = V.str (S b)) = decide (a = b) := by
  by_cases h : a = b
  · subst h; rw [decide_eq_true rfl, decide_eq_true rfl]
  · rw [decide_eq_false h, decide_eq_false]
    intro z; exact h (S_inj (V.str.inj z))
theorem int_dec {a b : Nat} : decide (V.int (a : Int) = V.int (b : Int)) = decide (a = b) := by
  by_cases h : a = b
  · subst h; rw [decide_eq_true rfl, decide_eq_true rfl]
  · rw [decide_eq_false h, decide_eq_false (fun z => h (by have := V.int.inj z; omega))]
theorem lt_dec {a b : Nat} : decide ((a : Int) < (b : Int)) = decide (a < b) := by
  by_cases h : a < b
  · rw [decide_eq_true h, decide_eq_true (by omega)]
  · rw [decide_eq_false h, decide_eq_false (by omega)]
/-- frozen data -/
inductive D where
  | non | bl (b : Bool) | int (i : Int) | str (l : List Nat) | tup (l : List D)
mutual
def dep : D → Nat
  | .tup l => 1 + deps l
  | _ => 0
def deps : List D → Nat
  | [] => 0
  | d :: r => max (dep d) (deps r)
end
theorem dep_tup (l : List D) : dep (.tup l) = 1 + deps l := by unfold dep; rfl
theorem deps_mem : ∀ {l : List D} {n : Nat}, deps l ≤ n → ∀ d ∈ l, dep d ≤ n
  | d :: r, n, h, e, hm => by
    unfold deps at h
    rcases List.mem_cons.mp hm with rfl | hm
    · omega
    · exact deps_mem (by omega) e hm
theorem deps_of : ∀ {l : List D} {n : Nat}, (∀ d ∈ l, dep d ≤ n) → deps l ≤ n
  | [], _, _ => by unfold deps; omega
  | d :: r, n, h => by
    unfold deps
    have h1 := h d (List.mem_cons_self ..)
    have h2 := deps_of (n := n) fun e he => h e (List.mem_cons_of_mem _ he)
    omega
/-- the tuples of H stand in H' -/
def Tups (H H' : Hp) : Prop := ∀ a vs, H a = some (.tup vs) → H' a = some (.tup vs)
theorem Tups.refl {H : Hp} : Tups H H := fun _ _ h => h
theorem Tups.trans {H H1 H2 : Hp} (x : Tups H H1) (y : Tups H1 H2) : Tups H H2 := fun a vs h => y a vs (x a vs h)
theorem Tups.same {H H' : Hp} (s : Same H H') : Tups H H' := fun a vs h => s a _ h
theorem Tups.new {H : Hp} {p : Addr} {o : HO} (h : H p = none) : Tups H (upd H p o) := fun a vs e => by rw [upd_ne (ne_of_none e h)]; exact e
theorem Tups.at {H : Hp} {p : Addr} {o o' : HO} (h : H p = some o) (n : ∀ vs, o ≠ .tup vs) : Tups H (upd H p o') := fun a vs e => by
  rw [upd_ne (fun z => by rw [z, h] at e; exact n vs (Option.some.inj e))]; exact e
mutual
/-- the value v is the datum d -/
inductive Rep (H : Hp) : V → D → Prop
  | non : Rep H .non .non
  | bl (b : Bool) : Rep H (.bl b) (.bl b)
  | int (i : Int) : Rep H (.int i) (.int i)
  | str (l : List Nat) : Rep H (.str (S l)) (.str l)
  | tup {a : Addr} {vs : List V} {ds : List D} (h : H a = some (.tup vs)) (hl : vs.length ≤ 2000) (r : Reps H vs ds) : Rep H (.ref a) (.tup ds)
inductive Reps (H : Hp) : List V → List D → Prop
  | nil : Reps H [] []
  | cons {v : V} {d : D} {vs : List V} {ds : List D} (h : Rep H v d) (r : Reps H vs ds) : Reps H (v :: vs) (d :: ds)
end
mutual
theorem Rep.mono {H H' : Hp} {v : V} {d : D} (s : Tups H H') : Rep H v d → Rep H' v d
  | .non => .non
  | .bl b => .bl b
  | .int i => .int i
  | .str l => .str l
  | .tup h hl r => .tup (s _ _ h) hl (Reps.mono s r)
theorem Reps.mono {H H' : Hp} {vs : List V} {ds : List D} (s : Tups H H') : Reps H vs ds → Reps H' vs ds
  | .nil => .nil
  | .cons h r => .cons (Rep.mono s h) (Reps.mono s r)
end
theorem Reps.len {H : Hp} : ∀ {vs : List V} {ds : List D}, Reps H vs ds → vs.length = ds.length
  | _, _, .nil => rfl
  | _, _, .cons _ r => congrArg Nat.succ r.len
theorem Reps.get {H : Hp} : ∀ {vs : List V} {ds : List D} {i : Nat} {v : V}, Reps H vs ds → vs[i]? = some v → ∃ d, ds[i]? = some d ∧ Rep H v d
  | _, _, _, _, .nil, h => by simp at h
  | _, _, 0, v, .cons (d := d) h r, e => by simp at e; subst e; exact ⟨d, rfl, h⟩
  | _, _, i + 1, v, .cons h r, e => by obtain ⟨d, e1, e2⟩ := Reps.get (i := i) r (by simpa using e); exact ⟨d, by simpa using e1, e2⟩
theorem Reps.at {H : Hp} : ∀ {vs : List V} {ds : List D} {i : Nat} {d : D}, Reps H vs ds → ds[i]? = some d → ∃ v, vs[i]? = some v ∧ Rep H v d
  | _, _, _, _, .nil, h => by simp at h
  | _, _, 0, d, .cons (v := v) h r, e => by simp at e; subst e; exact ⟨v, rfl, h⟩
  | _, _, i + 1, d, .cons h r, e => by obtain ⟨v, e1, e2⟩ := Reps.at (i := i) r (by simpa using e); exact ⟨v, by simpa using e1, e2⟩
theorem Reps.app {H : Hp} : ∀ {vs ws : List V} {ds es : List D}, Reps H vs ds → Reps H ws es → Reps H (vs ++ ws) (ds ++ es)
  | _, _, _, _, .nil, s => s
  | _, _, _, _, .cons h r, s => .cons h (r.app s)
theorem Reps.one {H : Hp} {v : V} {d : D} (h : Rep H v d) : Reps H [v] [d] := .cons h .nil
theorem Reps.set {H : Hp} : ∀ {vs : List V} {ds : List D} {i : Nat} {v : V} {d : D}, Reps H vs ds → Rep H v d → Reps H (vs.set i v) (ds.set i d)
  | _, _, _, _, _, .nil, _ => .nil
  | _, _, 0, _, _, .cons h r, e => .cons e r
  | _, _, i + 1, _, _, .cons h r, e => .cons h (Reps.set (i := i) r e)
def tyD : D → String
  | .non => "NoneType" | .bl _ => "bool" | .int _ => "int" | .str _ => "str" | .tup _ => "tuple"
theorem Rep.ty {K : PySem.W.Frag} {H : Hp} {v : V} {d : D} (r : Rep H v d) : TyX K H v (.type (tyD d)) := by
  cases r with
  | non => exact .base .non
  | bl b => exact .base (.bl b)
  | int i => exact .base (.int i)
  | str l => exact .base (.str _)
  | tup h hl r => exact .base (.tup h)
def isInt : D → Bool | .int _ => true | .bl _ => true | _ => false
def isStr : D → Bool | .str _ => true | _ => false
def isBl : D → Bool | .bl _ => true | _ => false
def isTup : D → Bool | .tup _ => true | _ => false
theorem kit_i : ∀ d : D, kitB (tyD d) "int" = some (isInt d)
  | .non => (by decide +kernel : kitB "NoneType" "int" = some false)
  | .bl _ => (by decide +kernel : kitB "bool" "int" = some true)
  | .int _ => (by decide +kernel : kitB "int" "int" = some true)
  | .str _ => (by decide +kernel : kitB "str" "int" = some false)
  | .tup _ => (by decide +kernel : kitB "tuple" "int" = some false)
theorem kit_s : ∀ d : D, kitB (tyD d) "str" = some (isStr d)
  | .non => (by decide +kernel : kitB "NoneType" "str" = some false)
  | .bl _ => (by decide +kernel : kitB "bool" "str" = some false)
  | .int _ => (by decide +kernel : kitB "int" "str" = some false)
  | .str _ => (by decide +kernel : kitB "str" "str" = some true)
  | .tup _ => (by decide +kernel : kitB "tuple" "str" = some false)
theorem kit_b : ∀ d : D, kitB (tyD d) "bool" = some (isBl d)
  | .non => (by decide +kernel : kitB "NoneType" "bool" = some false)
  | .bl _ => (by decide +kernel : kitB "bool" "bool" = some true)
  | .int _ => (by decide +kernel : kitB "int" "bool" = some false)
  | .str _ => (by decide +kernel : kitB "str" "bool" = some false)
  | .tup _ => (by decide +kernel : kitB "tuple" "bool" = some false)
theorem kit_t : ∀ d : D, kitB (tyD d) "tuple" = some (isTup d)
  | .non => (by decide +kernel : kitB "NoneType" "tuple" = some false)
  | .bl _ => (by decide +kernel : kitB "bool" "tuple" = some false)
  | .int _ => (by decide +kernel : kitB "int" "tuple" = some false)
  | .str _ => (by decide +kernel : kitB "str" "tuple" = some false)
  | .tup _ => (by decide +kernel : kitB "tuple" "tuple" = some true)
theorem kit_l : ∀ d : D, kitB (tyD d) "list" = some false
  | .non => (by decide +kernel : kitB "NoneType" "list" = some false)
  | .bl _ => (by decide +kernel : kitB "bool" "list" = some false)
  | .int _ => (by decide +kernel : kitB "int" "list" = some false)
  | .str _ => (by decide +kernel : kitB "str" "list" = some false)
  | .tup _ => (by decide +kernel : kitB "tuple" "list" = some false)
end D0
namespace D0
open PySem PySem.Spec PyProof.Rows L2 SX
/-! ### entries -/
def wRef : List Nat := [114, 101, 102]
def wHandled : List Nat := [104, 97, 110, 100, 108, 101, 100]
def wPending : List Nat := [112, 101, 110, 100, 105, 110, 103]
inductive En | ref (k : Nat) | hand (k : Nat) | oth (l : List Nat) (ds : List D)
inductive Ent | pl (e : En) | pend (r : Int) (e : En)
def En.d (f : Nat → Int) : En → D
  | .ref k => .tup [.str wRef, .int (f k)]
  | .hand k => .tup [.str wHandled, .int (f k)]
  | .oth l ds => .tup (.str l :: ds)
def Ent.d (f : Nat → Int) : Ent → D
  | .pl e => e.d f
  | .pend r e => .tup [.str wPending, .int r, e.d f]
def En.ok (m : Nat) : En → Prop
  | .ref k => k < m
  | .hand k => k < m
  | .oth l ds => l ≠ wRef ∧ l ≠ wHandled ∧ l ≠ wPending ∧ deps ds = 0
def Ent.ok (m : Nat) : Ent → Prop
  | .pl e => e.ok m
  | .pend _ e => e.ok m
theorem En.ok.mono {m n : Nat} (h : m ≤ n) : ∀ {e : En}, e.ok m → e.ok n
  | .ref _, x => Nat.lt_of_lt_of_le x h
  | .hand _, x => Nat.lt_of_lt_of_le x h
  | .oth _ _, x => x
theorem Ent.ok.mono {m n : Nat} (h : m ≤ n) : ∀ {e : Ent}, e.ok m → e.ok n
  | .pl _, x => En.ok.mono h x
  | .pend _ _, x => En.ok.mono h x
theorem En.dep {m : Nat} {f : Nat → Int} : ∀ {e : En}, e.ok m → D0.dep (e.d f) ≤ 1
  | .ref _, _ => by show D0.dep (.tup _) ≤ 1; rw [dep_tup]; simp [deps, D0.dep]
  | .hand _, _ => by show D0.dep (.tup _) ≤ 1; rw [dep_tup]; simp [deps, D0.dep]
  | .oth _ ds, ⟨_, _, _, h⟩ => by show D0.dep (.tup _) ≤ 1; rw [dep_tup]; simp [deps, D0.dep, h]
theorem Ent.dep {m : Nat} {f : Nat → Int} : ∀ {e : Ent}, e.ok m → D0.dep (e.d f) ≤ 2
  | .pl _, h => Nat.le_succ_of_le (En.dep h)
  | .pend _ e, h => by
    have := En.dep (f := f) (show e.ok m from h)
    show D0.dep (.tup _) ≤ 2; rw [dep_tup]; simp [deps, D0.dep]; omega
def rowD (f : Nat → Int) (es : List Ent) : List D := es.map (Ent.d f)
theorem rowD_dep {m : Nat} {f : Nat → Int} {es : List Ent} (h : ∀ e ∈ es, e.ok m) : deps (rowD f es) ≤ 2 := deps_of fun d hd => by
  obtain ⟨e, he, rfl⟩ := List.mem_map.mp hd
  exact Ent.dep (h e he)
/-- the addresses of a bank whose step is s -/
def tb (s k : Nat) : Int := ((s * k + s - 1 : Nat) : Int)
def ixD (k : Nat) : Int := (k : Nat)
structure Nd where
  kind : List Nat
  tag : D
  row : List Ent
structure Nd.ok (m : Nat) (n : Nd) : Prop where
  tag : D0.dep n.tag ≤ 3
  row : ∀ e ∈ n.row, e.ok m
  len : n.row.length ≤ 100
theorem Nd.ok.mono {m n : Nat} {x : Nd} (h : m ≤ n) (o : x.ok m) : x.ok n := ⟨o.tag, fun e he => (o.row e he).mono h, o.len⟩
/-! ### a bank, a book -/
/-- all but the addresses of F stays; tuples stay -/
structure Chg (F : List Addr) (H H' : Hp) : Prop where
  keep : ∀ a o, a ∉ F → H a = some o → H' a = some o
  tups : Tups H H'
  live : ∀ a, H' a = none → H a = none
theorem live_same {H H' : Hp} (s : Same H H') : ∀ a, H' a = none → H a = none := fun a h => by
  cases e : H a with
  | none => rfl
  | some o => rw [s a o e] at h; cases h
theorem live_upd {H : Hp} {p : Addr} {o : HO} : ∀ a, L2.upd H p o a = none → H a = none := fun a h => by
  by_cases e : a = p
  · rw [e, upd_same] at h; cases h
  · rw [upd_ne e] at h; exact h
theorem Chg.refl {F : List Addr} {H : Hp} : Chg F H H := ⟨fun _ _ _ h => h, .refl, fun _ h => h⟩
theorem Chg.trans {F : List Addr} {H H1 H2 : Hp} (x : Chg F H H1) (y : Chg F H1 H2) : Chg F H H2 := ⟨fun a o n h => y.keep a o n (x.keep a o n h), x.tups.trans y.tups, fun a h => x.live a (y.live a h)⟩
theorem Chg.mono {F G : List Addr} {H H' : Hp} (x : Chg F H H') (s : ∀ a ∈ F, a ∈ G) : Chg G H H' := ⟨fun a o n h => x.keep a o (fun m => n (s a m)) h, x.tups, x.live⟩
theorem Chg.same {F : List Addr} {H H' : Hp} (s : Same H H') : Chg F H H' := ⟨fun a o _ h => s a o h, .same s, live_same s⟩
theorem Chg.upd {F : List Addr} {H : Hp} {p : Addr} {o o' : HO} (h : H p = some o) (n : ∀ vs, o ≠ .tup vs) (m : p ∈ F) : Chg F H (L2.upd H p o') :=
  ⟨fun a u k e => by rw [upd_ne (fun z => k (by rw [z]; exact m))]; exact e, .at h n, live_upd⟩
theorem Chg.new {F : List Addr} {H : Hp} {p : Addr} {o : HO} (h : H p = none) : Chg F H (L2.upd H p o) :=
  ⟨fun a u k e => by rw [upd_ne (ne_of_none e h)]; exact e, .new h, live_upd⟩
/-- what is changed is new or of F: seen from an earlier heap -/
theorem Chg.trans2 {F G : List Addr} {H H1 H2 : Hp} (x : Chg F H H1) (y : Chg G H1 H2) (g : ∀ a ∈ G, a ∈ F ∨ H a = none) : Chg F H H2 :=
  ⟨fun a o n h => y.keep a o (fun m => by rcases g a m with z | z; exact n z; rw [z] at h; cases h) (x.keep a o n h), x.tups.trans y.tups, fun a h => x.live a (y.live a h)⟩
def fThings : Str := "things"
def fKind : Str := "kind"
def fTag : Str := "tag"
def fSlots : Str := "slots"
def fAge : Str := "age"
def fYM : Str := "young_many"
def fOM : Str := "old_many"
def fMk : Str := "marked"
theorem tb_inj {st i j : Nat} (h : 1 ≤ st) (e : tb st i = tb st j) : i = j := by
  unfold tb at e
  rcases Nat.lt_trichotomy i j with l | l | l
  · have := Nat.mul_lt_mul_of_pos_left l (show 0 < st by omega); omega
  · exact l
  · have := Nat.mul_lt_mul_of_pos_left l (show 0 < st by omega); omega
/-- the lists of a book are different ones -/
structure NdB (nb : Addr) (as rs : List Addr) : Prop where
  n1 : nb ∉ as
  n2 : nb ∉ rs
  na : as.Nodup
  nr : rs.Nodup
  dj : ∀ a ∈ as, a ∉ rs
theorem nodup_snoc {l : List Addr} {x : Addr} (h : l.Nodup) (n : x ∉ l) : (l ++ [x]).Nodup :=
  List.nodup_append.mpr ⟨h, List.pairwise_singleton _ _, fun a ha b hb z => n (by rw [List.mem_singleton.mp hb] at z; rw [← z]; exact ha)⟩
theorem nodup_put {l : List Addr} {x : Addr} {k : Nat} (h : l.Nodup) (n : x ∉ l) : (l.set k x).Nodup := by
  refine List.pairwise_iff_getElem.mpr fun i j hi hj hij z => ?_
  have z' : (l.set k x)[i]? = (l.set k x)[j]? := by rw [List.getElem?_eq_getElem hi, List.getElem?_eq_getElem hj]; exact congrArg some z
  rw [List.length_set] at hi hj
  rw [List.getElem?_set, List.getElem?_set] at z'
  by_cases e1 : k = i
  · rw [if_pos e1, if_neg (show ¬ k = j by omega), if_pos (show k < l.length by omega)] at z'
    exact n (List.mem_of_getElem? z'.symm)
  · rw [if_neg e1] at z'
    by_cases e2 : k = j
    · rw [if_pos e2, if_pos (show k < l.length by omega)] at z'
      exact n (List.mem_of_getElem? z')
    · rw [if_neg e2] at z'
      have e3 : l[i] = l[j] := by
        rw [List.getElem?_eq_getElem hi, List.getElem?_eq_getElem hj] at z'
        exact Option.some.inj z'
      have := (List.getElem_inj h).mp e3
      omega
theorem NdB.more {nb a r : Addr} {as rs : List Addr} (N : NdB nb as rs) (h1 : a ∉ as) (h2 : a ∉ rs) (h3 : a ≠ nb) (h4 : r ∉ as) (h5 : r ∉ rs) (h6 : r ≠ nb) (h7 : a ≠ r) : NdB nb (as ++ [a]) (rs ++ [r]) := by
  refine ⟨fun m => ?_, fun m => ?_, nodup_snoc N.na h1, nodup_snoc N.nr h5, fun x hx m => ?_⟩
  · rcases List.mem_append.mp m with m | m
    · exact N.n1 m
    · exact h3 (List.mem_singleton.mp m).symm
  · rcases List.mem_append.mp m with m | m
    · exact N.n2 m
    · exact h6 (List.mem_singleton.mp m).symm
  · rcases List.mem_append.mp hx with hx | hx
    · rcases List.mem_append.mp m with m | m
      · exact N.dj x hx m
      · rw [List.mem_singleton.mp m] at hx; exact h4 hx
    · rw [List.mem_singleton.mp hx] at m
      rcases List.mem_append.mp m with m | m
      · exact h2 m
      · exact h7 (List.mem_singleton.mp m)
theorem NdB.put {nb a r : Addr} {as rs : List Addr} {k : Nat} (N : NdB nb as rs) (h1 : a ∉ as) (h2 : a ∉ rs) (h3 : a ≠ nb) (h4 : r ∉ as) (h5 : r ∉ rs) (h6 : r ≠ nb) (h7 : a ≠ r) : NdB nb (as.set k a) (rs.set k r) := by
  refine ⟨fun m => ?_, fun m => ?_, nodup_put N.na h1, nodup_put N.nr h5, fun x hx m => ?_⟩
  · rcases List.mem_or_eq_of_mem_set m with m | m
    · exact N.n1 m
    · exact h3 m.symm
  · rcases List.mem_or_eq_of_mem_set m with m | m
    · exact N.n2 m
    · exact h6 m.symm
  · rcases List.mem_or_eq_of_mem_set hx with hx | hx
    · rcases List.mem_or_eq_of_mem_set m with m | m
      · exact N.dj x hx m
      · rw [m] at hx; exact h4 hx
    · rw [hx] at m
      rcases List.mem_or_eq_of_mem_set m with m | m
      · exact h2 m
      · exact h7 m
/-- the book -/
structure BoA (H : Hp) (nb : Addr) (as rs : List Addr) (nds : List Nd) : Prop where
  la : as.length = nds.length
  lr : rs.length = nds.length
  h0 : H nb = some (.lst (as.map V.ref))
  hN : ∀ (k : Nat) (a r : Addr) (n : Nd), as[k]? = some a → rs[k]? = some r → nds[k]? = some n → ∃ tv, H a = some (.lst [.str (S n.kind), tv, .ref r]) ∧ Rep H tv n.tag
  hR : ∀ (k : Nat) (r : Addr) (n : Nd), rs[k]? = some r → nds[k]? = some n → ∃ vs, H r = some (.lst vs) ∧ Reps H vs (rowD ixD n.row)
  nd : NdB nb as rs
def FN (nb : Addr) (as rs : List Addr) : List Addr := nb :: (as ++ rs)
theorem ne_ob {H : Hp} {a b : Addr} {o u : HO} (h : H a = some o) (k : H b = some u) (n : o ≠ u) : a ≠ b := fun z => by rw [z, k] at h; exact n (Option.some.inj h).symm
theorem inj_nodup {l : List Addr} (h : l.Nodup) {i j : Nat} {a : Addr} (h1 : l[i]? = some a) (h2 : l[j]? = some a) : i = j := by
  obtain ⟨hi, e1⟩ := List.getElem?_eq_some_iff.mp h1
  obtain ⟨hj, e2⟩ := List.getElem?_eq_some_iff.mp h2
  exact (List.getElem_inj h).mp (e1.trans e2.symm)
end D0
namespace D0
open PySem PySem.Spec PyProof.Rows L2 SX
/-! ### a bank -/
structure Th where
  key : Int
  t : Addr
  s : Addr
  kind : List Nat
  tag : D
  row : List D
  age : Int
def thF (x : Th) (tv : V) : List (Str × V) := [(fKind, .str (S x.kind)), (fTag, tv), (fSlots, .ref x.s), (fAge, .int x.age)]
def Th.kv (x : Th) : Key × V := (.inl x.key, .ref x.t)
def kvL (L : List Th) : List (Key × V) := L.map Th.kv
theorem kvL_len (L : List Th) : (kvL L).length = L.length := by unfold kvL; rw [List.length_map]
theorem kvL_get : ∀ {L : List Th} {x : Th}, (L.map Th.key).Nodup → x ∈ L → valV (kvL L) (.inl x.key) = some (.ref x.t)
  | y :: r, x, hn, hm => by
    rw [List.map_cons, List.nodup_cons] at hn
    unfold kvL valV
    rw [List.map_cons]
    rcases List.mem_cons.mp hm with rfl | hm
    · rw [List.find?_cons_of_pos (by unfold Th.kv; simp)]; rfl
    · have ih := kvL_get hn.2 hm
      rw [List.find?_cons_of_neg]
      · exact ih
      · intro z
        have z2 : (Sum.inl y.key : Key) = .inl x.key := of_decide_eq_true z
        exact hn.1 (by rw [Sum.inl.inj z2]; exact List.mem_map_of_mem hm)
theorem kvL_none : ∀ {L : List Th} {i : Int}, i ∉ L.map Th.key → valV (kvL L) (.inl i) = none
  | [], _, _ => rfl
  | y :: r, i, h => by
    rw [List.map_cons, List.mem_cons, not_or] at h
    unfold kvL valV
    rw [List.map_cons, List.find?_cons_of_neg]
    · exact kvL_none h.2
    · intro z
      have z2 : (Sum.inl y.key : Key) = .inl i := of_decide_eq_true z
      exact h.1 (Sum.inl.inj z2).symm
theorem kvL_put {L : List Th} {x : Th} (h : x.key ∉ L.map Th.key) : putK (kvL L) (.inl x.key) (.ref x.t) = kvL (L ++ [x]) := by
  unfold putK
  rw [if_neg]
  · unfold kvL; rw [List.map_append]; rfl
  · intro z
    obtain ⟨kv, h1, h2⟩ := List.any_eq_true.mp z
    obtain ⟨y, hy, rfl⟩ := List.mem_map.mp h1
    have h2 : (Sum.inl y.key : Key) = .inl x.key := of_decide_eq_true h2
    exact h (by rw [← Sum.inl.inj h2]; exact List.mem_map_of_mem hy)
theorem key_inj : ∀ {L : List Th} {x y : Th}, (L.map Th.key).Nodup → x ∈ L → y ∈ L → x.key = y.key → x = y
  | z :: r, x, y, hn, hx, hy, e => by
    rw [List.map_cons, List.nodup_cons] at hn
    rcases List.mem_cons.mp hx with k1 | k1 <;> rcases List.mem_cons.mp hy with k2 | k2
    · rw [k1, k2]
    · exact absurd (List.mem_map_of_mem (f := Th.key) k2) (by rw [← e, k1]; exact hn.1)
    · exact absurd (List.mem_map_of_mem (f := Th.key) k1) (by rw [e, k2]; exact hn.1)
    · exact key_inj hn.2 k1 k2 e
/-- the thing of x's key is x -/
def putT (x : Th) (L : List Th) : List Th := L.map fun y => if y.key = x.key then x else y
theorem putT_len (x : Th) (L : List Th) : (putT x L).length = L.length := by unfold putT; rw [List.length_map]
theorem putT_keys (x : Th) (L : List Th) : (putT x L).map Th.key = L.map Th.key := by
  unfold putT
  rw [List.map_map]
  refine List.map_congr_left fun y _ => ?_
  show (if y.key = x.key then x else y).key = y.key
  split
  · rename_i h; exact h.symm
  · rfl
theorem mem_putT {x y : Th} {L : List Th} (h : y ∈ putT x L) : y = x ∨ (y ∈ L ∧ y.key ≠ x.key) := by
  obtain ⟨z, hz, e⟩ := List.mem_map.mp h
  by_cases k : z.key = x.key
  · rw [if_pos k] at e; exact .inl e.symm
  · rw [if_neg k] at e; subst e; exact .inr ⟨hz, k⟩
theorem putT_mem {x y : Th} {L : List Th} (h : y ∈ L) (n : y.key ≠ x.key) : y ∈ putT x L := List.mem_map.mpr ⟨y, h, by rw [if_neg n]⟩
theorem putT_self {x x0 : Th} {L : List Th} (h : x0 ∈ L) (e : x0.key = x.key) : x ∈ putT x L := List.mem_map.mpr ⟨x0, h, by rw [if_pos e]⟩
theorem putT_kv {x x0 : Th} {L : List Th} (hn : (L.map Th.key).Nodup) (h : x0 ∈ L) (e : x0.key = x.key) (et : x0.t = x.t) : kvL (putT x L) = kvL L := by
  unfold putT kvL
  rw [List.map_map]
  refine List.map_congr_left fun y hy => ?_
  show (if y.key = x.key then x else y).kv = y.kv
  split
  · rename_i k
    have := key_inj hn hy h (k.trans e.symm)
    subst this
    unfold Th.kv; rw [← e, ← et]
  · rfl
structure BkA (K : PySem.W.Frag) (C CT : Addr) (H : Hp) (B td : Addr) (more : List (Str × V)) (L : List Th) : Prop where
  hB : ∃ dx, H B = some (.ins C dx ((fThings, .ref td) :: more))
  hD : H td = some (.dK (kvL L))
  hT : ∀ x ∈ L, ∃ dx tv, H x.t = some (.ins CT dx (thF x tv)) ∧ Rep H tv x.tag
  hS : ∀ x ∈ L, ∃ vs, H x.s = some (.lst vs) ∧ Reps H vs x.row
  nk : (L.map Th.key).Nodup
  nt : ∀ x ∈ L, ∀ y ∈ L, x.t = y.t → x.key = y.key
  ns : ∀ x ∈ L, ∀ y ∈ L, x.s = y.s → x.key = y.key
def FB (B td : Addr) (L : List Th) : List Addr := B :: td :: (L.map Th.t ++ L.map Th.s)
theorem fb_t {B td : Addr} {L : List Th} {x : Th} (h : x ∈ L) : x.t ∈ FB B td L := by
  have := List.mem_map_of_mem (f := Th.t) h
  unfold FB; simp [this]
theorem fb_s {B td : Addr} {L : List Th} {x : Th} (h : x ∈ L) : x.s ∈ FB B td L := by
  have := List.mem_map_of_mem (f := Th.s) h
  unfold FB; simp [this]
theorem fb_cases {B td a : Addr} {L : List Th} (h : a ∈ FB B td L) : a = B ∨ a = td ∨ (∃ x ∈ L, a = x.t) ∨ ∃ x ∈ L, a = x.s := by
  unfold FB at h
  simp only [List.mem_cons, List.mem_append, List.mem_map] at h
  rcases h with h | h | ⟨x, hx, h⟩ | ⟨x, hx, h⟩
  · exact .inl h
  · exact .inr (.inl h)
  · exact .inr (.inr (.inl ⟨x, hx, h.symm⟩))
  · exact .inr (.inr (.inr ⟨x, hx, h.symm⟩))
theorem ne_TK : fThings ≠ fKind := by decide
section
variable {K : PySem.W.Frag} {C CT : Addr} {H H' : Hp} {B td : Addr} {more : List (Str × V)} {L : List Th}
theorem BkA.frame (X : BkA K C CT H B td more L) {F : List Addr} (c : Chg F H H') (d : ∀ a ∈ FB B td L, a ∉ F) : BkA K C CT H' B td more L := by
  refine ⟨?_, c.keep _ _ (d _ (by simp [FB])) X.hD, fun x hx => ?_, fun x hx => ?_, X.nk, X.nt, X.ns⟩
  · obtain ⟨dx, h⟩ := X.hB
    exact ⟨dx, c.keep _ _ (d _ (by simp [FB])) h⟩
  · obtain ⟨dx, tv, h, r⟩ := X.hT x hx
    exact ⟨dx, tv, c.keep _ _ (d _ (fb_t hx)) h, r.mono c.tups⟩
  · obtain ⟨vs, h, r⟩ := X.hS x hx
    exact ⟨vs, c.keep _ _ (d _ (fb_s hx)) h, r.mono c.tups⟩
theorem BkA.same (X : BkA K C CT H B td more L) (s : Same H H') : BkA K C CT H' B td more L := X.frame (F := []) (.same s) (fun _ _ h => by cases h)
theorem BkA.here (X : BkA K C CT H B td more L) : ∀ a ∈ FB B td L, H a ≠ none := by
  intro a h
  rcases fb_cases h with rfl | rfl | ⟨x, hx, rfl⟩ | ⟨x, hx, rfl⟩
  · obtain ⟨dx, h⟩ := X.hB; rw [h]; exact fun z => nomatch z
  · rw [X.hD]; exact fun z => nomatch z
  · obtain ⟨dx, tv, g, _⟩ := X.hT x hx; rw [g]; exact fun z => nomatch z
  · obtain ⟨vs, g, _⟩ := X.hS x hx; rw [g]; exact fun z => nomatch z
theorem ins_ne {fs more : List (Str × V)} {C CT dx dx2 : Addr} {tv : V} {x : Th} : HO.ins C dx ((fThings, .ref td) :: more) ≠ .ins CT dx2 (thF x tv) := fun z => by
  injection z with _ _ z
  have : fThings = fKind := by
    unfold thF at z
    simp only [List.cons.injEq, Prod.mk.injEq] at z
    exact z.1.1
  exact ne_TK this
/-- the row of x is another -/
theorem BkA.setRow (X : BkA K C CT H B td more L) {x : Th} {vs : List V} {row : List D} (hx : x ∈ L) (hr : Reps H vs row) :
    BkA K C CT (upd H x.s (.lst vs)) B td more (putT { x with row := row } L) ∧ Chg [x.s] H (upd H x.s (.lst vs)) := by
  obtain ⟨vs0, h0, _⟩ := X.hS x hx
  have c : Chg [x.s] H (upd H x.s (.lst vs)) := .upd h0 (fun _ z => by cases z) (List.mem_singleton_self _)
  have nl : ∀ {a : Addr} {o : HO}, H a = some o → (∀ ws, o ≠ .lst ws) → upd H x.s (.lst vs) a = some o := fun h n => by rw [upd_ne (fun z => by rw [z, h0] at h; exact n _ (Option.some.inj h).symm)]; exact h
  have old : ∀ y ∈ putT { x with row := row } L, ∃ z ∈ L, z.key = y.key ∧ z.t = y.t ∧ z.s = y.s := fun y hy => by
    rcases mem_putT hy with rfl | ⟨h, _⟩
    · exact ⟨x, hx, rfl, rfl, rfl⟩
    · exact ⟨y, h, rfl, rfl, rfl⟩
  refine ⟨⟨?_, ?_, fun y hy => ?_, fun y hy => ?_, by rw [putT_keys]; exact X.nk, fun y hy z hz e => ?_, fun y hy z hz e => ?_⟩, c⟩
  · obtain ⟨dx, h⟩ := X.hB
    exact ⟨dx, nl h (fun _ z => by cases z)⟩
  · rw [putT_kv (x := { x with row := row }) X.nk hx rfl rfl]; exact nl X.hD (fun _ z => by cases z)
  · rcases mem_putT hy with rfl | ⟨h, _⟩
    · obtain ⟨dx, tv, h, r⟩ := X.hT x hx
      exact ⟨dx, tv, nl h (fun _ z => by cases z), r.mono c.tups⟩
    · obtain ⟨dx, tv, h, r⟩ := X.hT y h
      exact ⟨dx, tv, nl h (fun _ z => by cases z), r.mono c.tups⟩
  · rcases mem_putT hy with rfl | ⟨h, n⟩
    · exact ⟨vs, upd_same, hr.mono c.tups⟩
    · obtain ⟨ws, h1, r⟩ := X.hS y h
      exact ⟨ws, by rw [upd_ne (fun z => n (X.ns y h x hx z))]; exact h1, r.mono c.tups⟩
  · obtain ⟨y', h1, h2, h3, _⟩ := old y hy
    obtain ⟨z', g1, g2, g3, _⟩ := old z hz
    rw [← h2, ← g2]; exact X.nt _ h1 _ g1 (by rw [h3, g3]; exact e)
  · obtain ⟨y', h1, h2, _, h3⟩ := old y hy
    obtain ⟨z', g1, g2, _, g3⟩ := old z hz
    rw [← h2, ← g2]; exact X.ns _ h1 _ g1 (by rw [h3, g3]; exact e)
/-- tag, row, age of x are others, its slots a new list -/
theorem BkA.setAll (X : BkA K C CT H B td more L) {x x' : Th} {vs : List V} {tv : V} {dx : Addr} (hx : x ∈ L) (ek : x.key = x'.key) (et : x.t = x'.t) (f : H x'.s = none)
    (c : Chg [x.t] H H') (h1 : H' x.t = some (.ins CT dx (thF x' tv))) (h2 : H' x'.s = some (.lst vs)) (r1 : Rep H' tv x'.tag) (r2 : Reps H' vs x'.row) :
    BkA K C CT H' B td more (putT x' L) := by
  obtain ⟨dx0, tv0, g0, _⟩ := X.hT x hx
  have kp : ∀ {a : Addr} {o : HO}, H a = some o → a ≠ x.t → H' a = some o := fun h n => c.keep _ _ (by simpa using n) h
  have fr : ∀ y ∈ L, y.s ≠ x'.s := fun y hy z => by
    obtain ⟨ws, h, _⟩ := X.hS y hy
    rw [z, f] at h; cases h
  refine ⟨?_, ?_, fun y hy => ?_, fun y hy => ?_, by rw [putT_keys]; exact X.nk, fun y hy z hz e => ?_, fun y hy z hz e => ?_⟩
  · obtain ⟨dx, h⟩ := X.hB
    exact ⟨dx, kp h (ne_ob h g0 (ins_ne (fs := [])))⟩
  · rw [putT_kv X.nk hx ek et]; exact kp X.hD (ne_ob X.hD g0 (fun z => by cases z))
  · rcases mem_putT hy with rfl | ⟨h, n⟩
    · exact ⟨dx, tv, by rw [← et]; exact h1, r1⟩
    · obtain ⟨dx, tv, h3, r⟩ := X.hT y h
      exact ⟨dx, tv, kp h3 (fun z => n ((X.nt y h x hx z).trans ek)), r.mono c.tups⟩
  · rcases mem_putT hy with rfl | ⟨h, n⟩
    · exact ⟨vs, h2, r2⟩
    · obtain ⟨ws, h3, r⟩ := X.hS y h
      exact ⟨ws, kp h3 (ne_ob h3 g0 (fun z => by cases z)), r.mono c.tups⟩
  · have old : ∀ y ∈ putT x' L, ∃ z ∈ L, z.key = y.key ∧ z.t = y.t := fun y hy => by
      rcases mem_putT hy with rfl | ⟨h, _⟩
      · exact ⟨x, hx, ek, et⟩
      · exact ⟨y, h, rfl, rfl⟩
    obtain ⟨y', h1, h2, h3⟩ := old y hy
    obtain ⟨z', g1, g2, g3⟩ := old z hz
    rw [← h2, ← g2]; exact X.nt _ h1 _ g1 (by rw [h3, g3]; exact e)
  · rcases mem_putT hy with rfl | ⟨h, n⟩ <;> rcases mem_putT hz with rfl | ⟨h', n'⟩
    · rfl
    · exact absurd e.symm (fr z h')
    · exact absurd e (fr y h)
    · exact X.ns _ h _ h' e
/-- one more thing -/
theorem BkA.more_ (X : BkA K C CT H B td more L) {more' : List (Str × V)} {vs : List V} {x : Th} {tv : V} {dx dx2 : Addr} (fs : H x.s = none) (ft : H x.t = none) (nk : x.key ∉ L.map Th.key)
    (c : Chg [B, td] H H') (hB : H' B = some (.ins C dx2 ((fThings, .ref td) :: more'))) (hD : H' td = some (.dK (kvL (L ++ [x]))))
    (h1 : H' x.t = some (.ins CT dx (thF x tv))) (h2 : H' x.s = some (.lst vs)) (r1 : Rep H' tv x.tag) (r2 : Reps H' vs x.row) :
    BkA K C CT H' B td more' (L ++ [x]) := by
  obtain ⟨dx0, g0⟩ := X.hB
  have kp : ∀ {a : Addr} {o : HO}, H a = some o → a ≠ B → a ≠ td → H' a = some o := fun h n m => c.keep _ _ (by simp [n, m]) h
  have cs : ∀ y ∈ L ++ [x], y ∈ L ∨ y = x := fun y hy => by
    rcases List.mem_append.mp hy with h | h
    · exact .inl h
    · exact .inr (List.mem_singleton.mp h)
  refine ⟨⟨dx2, hB⟩, hD, fun y hy => ?_, fun y hy => ?_, ?_, fun y hy z hz e => ?_, fun y hy z hz e => ?_⟩
  · rcases cs y hy with h | rfl
    · obtain ⟨dx1, tv1, g1, r⟩ := X.hT y h
      exact ⟨dx1, tv1, kp g1 (ne_ob g0 g1 (ins_ne (fs := []))).symm (ne_ob g1 X.hD (fun z => by cases z)), r.mono c.tups⟩
    · exact ⟨dx, tv, h1, r1⟩
  · rcases cs y hy with h | rfl
    · obtain ⟨ws, g1, r⟩ := X.hS y h
      exact ⟨ws, kp g1 (ne_ob g1 g0 (fun z => by cases z)) (ne_ob g1 X.hD (fun z => by cases z)), r.mono c.tups⟩
    · exact ⟨vs, h2, r2⟩
  · rw [List.map_append]
    refine List.nodup_append.mpr ⟨X.nk, List.pairwise_singleton _ _, fun a ha b hb => ?_⟩
    rw [List.mem_singleton.mp hb]
    rintro rfl
    exact nk ha
  · rcases cs y hy with h | rfl <;> rcases cs z hz with h' | rfl
    · exact X.nt _ h _ h' e
    · obtain ⟨dx1, tv1, g1, _⟩ := X.hT y h; rw [e, ft] at g1; cases g1
    · obtain ⟨dx1, tv1, g1, _⟩ := X.hT z h'; rw [← e, ft] at g1; cases g1
    · rfl
  · rcases cs y hy with h | rfl <;> rcases cs z hz with h' | rfl
    · exact X.ns _ h _ h' e
    · obtain ⟨ws, g1, _⟩ := X.hS y h; rw [e, fs] at g1; cases g1
    · obtain ⟨ws, g1, _⟩ := X.hS z h'; rw [← e, fs] at g1; cases g1
    · rfl
theorem BkA.empty {dx : Addr} (hB : H B = some (.ins C dx ((fThings, .ref td) :: more))) (hD : H td = some (.dK [])) : BkA K C CT H B td more [] :=
  ⟨⟨dx, hB⟩, hD, fun x h => (by cases h), fun x h => (by cases h), List.Pairwise.nil, fun x h => (by cases h), fun x h => (by cases h)⟩
/-- the thing of a key -/
theorem BkA.look (X : BkA K C CT H B td more L) {x : Th} (hx : x ∈ L) : ∃ dx dx2 tv vs, H B = some (.ins C dx ((fThings, .ref td) :: more)) ∧ DGet H td (.int x.key) (some (.ref x.t)) ∧
    H x.t = some (.ins CT dx2 (thF x tv)) ∧ Rep H tv x.tag ∧ H x.s = some (.lst vs) ∧ Reps H vs x.row := by
  obtain ⟨dx, hB⟩ := X.hB
  obtain ⟨dx2, tv, g, r⟩ := X.hT x hx
  obtain ⟨vs, g2, r2⟩ := X.hS x hx
  have := DGet.k (k := Sum.inl x.key) X.hD
  rw [kvL_get X.nk hx] at this
  exact ⟨dx, dx2, tv, vs, hB, this, g, r, g2, r2⟩
end
end D0
namespace D0
open PySem PySem.Spec PyProof.Rows L2 SX
/-! ### the walk by levels -/
def En.tg : En → Option Nat
  | .ref k => some k
  | .hand k => some k
  | .oth _ _ => none
def Ent.tg : Ent → Option Nat
  | .pl e => e.tg
  | .pend _ e => e.tg
def tgs (es : List Ent) : List Nat := es.filterMap Ent.tg
theorem En.tg_lt {m k : Nat} : ∀ {e : En}, e.ok m → e.tg = some k → k < m
  | .ref j, h, e => by cases e; exact h
  | .hand j, h, e => by cases e; exact h
theorem Ent.tg_lt {m k : Nat} : ∀ {e : Ent}, e.ok m → e.tg = some k → k < m
  | .pl e, h, q => En.tg_lt (e := e) h q
  | .pend _ e, h, q => En.tg_lt (e := e) h q
theorem tgs_lt {m : Nat} {es : List Ent} (h : ∀ e ∈ es, e.ok m) : ∀ k ∈ tgs es, k < m := fun k hk => by
  obtain ⟨e, he, q⟩ := List.mem_filterMap.mp hk
  exact Ent.tg_lt (h e he) q
theorem tgs_app (a b : List Ent) : tgs (a ++ b) = tgs a ++ tgs b := List.filterMap_append
def put1 (o : List Nat) (x : Nat) : List Nat := if x ∈ o then o else o ++ [x]
def meet (xs o : List Nat) : List Nat := xs.foldl put1 o
theorem meet_app (a b o : List Nat) : meet (a ++ b) o = meet b (meet a o) := List.foldl_append
theorem put1_mem {o : List Nat} {x y : Nat} : y ∈ put1 o x ↔ y ∈ o ∨ y = x := by
  unfold put1
  split
  · rename_i h
    exact ⟨.inl, fun z => z.elim id fun e => by rw [e]; exact h⟩
  · simp
theorem put1_nodup {o : List Nat} {x : Nat} (h : o.Nodup) : (put1 o x).Nodup := by
  unfold put1
  split
  · exact h
  · rename_i n
    exact List.nodup_append.mpr ⟨h, List.pairwise_singleton _ _, fun a ha b hb z => n (by rw [← List.mem_singleton.mp hb, ← z]; exact ha)⟩
theorem put1_pre {o : List Nat} {x : Nat} : ∃ r, put1 o x = o ++ r := by
  unfold put1
  split
  · exact ⟨[], by simp⟩
  · exact ⟨[x], rfl⟩
theorem meet_mem : ∀ {xs o : List Nat} {y : Nat}, y ∈ meet xs o ↔ y ∈ o ∨ y ∈ xs
  | [], o, y => by unfold meet; simp
  | x :: xs, o, y => by
    show y ∈ meet xs (put1 o x) ↔ _
    rw [meet_mem, put1_mem, List.mem_cons, or_assoc]
theorem meet_nodup : ∀ {xs o : List Nat}, o.Nodup → (meet xs o).Nodup
  | [], o, h => h
  | x :: xs, o, h => meet_nodup (xs := xs) (put1_nodup h)
theorem meet_pre : ∀ {xs o : List Nat}, ∃ r, meet xs o = o ++ r
  | [], o => ⟨[], by unfold meet; simp⟩
  | x :: xs, o => by
    obtain ⟨r, e⟩ := put1_pre (o := o) (x := x)
    obtain ⟨r2, e2⟩ := meet_pre (xs := xs) (o := put1 o x)
    exact ⟨r ++ r2, by show meet xs (put1 o x) = _; rw [e2, e, List.append_assoc]⟩
theorem nodup_le : ∀ (N : Nat) {l : List Nat}, l.Nodup → (∀ x ∈ l, x < N) → l.length ≤ N
  | 0, l, _, h => by
    cases l with
    | nil => exact Nat.le_refl _
    | cons x r => exact absurd (h x (List.mem_cons_self ..)) (Nat.not_lt_zero _)
  | N + 1, l, hn, h => by
    have h1 := nodup_le N (l := l.erase N) (hn.erase _) fun x hx => by
      have := (hn.mem_erase_iff).mp hx
      have := h x this.2
      omega
    have := List.length_erase (a := N) (l := l)
    split at this <;> omega
def bfs (sc : Nat → List Nat) : Nat → List Nat → Nat → List Nat
  | 0, o, _ => o
  | n + 1, o, k => match o[k]? with
    | none => o
    | some x => bfs sc n (meet (sc x) o) (k + 1)
theorem bfs_stop {sc : Nat → List Nat} {n k : Nat} {o : List Nat} (h : o.length ≤ k) : bfs sc n o k = o := by
  cases n with
  | zero => rfl
  | succ n => unfold bfs; rw [List.getElem?_eq_none h]
theorem bfs_step {sc : Nat → List Nat} {n k : Nat} {o : List Nat} (h : k < o.length) : bfs sc (n + 1) o k = bfs sc n (meet (sc o[k]) o) (k + 1) := by
  rw [bfs, List.getElem?_eq_getElem h]
/-- what a walk ends with -/
structure Clo (sc : Nat → List Nat) (N : Nat) (o R : List Nat) : Prop where
  nd : R.Nodup
  lt : ∀ x ∈ R, x < N
  top : ∀ x ∈ o, x ∈ R
  clo : ∀ x ∈ R, ∀ y ∈ sc x, y ∈ R
theorem bfs_clo {sc : Nat → List Nat} {N : Nat} (hs : ∀ x, x < N → ∀ y ∈ sc x, y < N) : ∀ (n : Nat) (o : List Nat) (k : Nat), o.Nodup → (∀ x ∈ o, x < N) → (∀ j x, j < k → o[j]? = some x → ∀ y ∈ sc x, y ∈ o) → N + 1 ≤ n + k → Clo sc N o (bfs sc n o k)
  | n, o, k, hn, hl, hc, hk => by
    by_cases hlt : k < o.length
    · have := nodup_le N hn hl
      cases n with
      | zero => omega
      | succ n =>
        rw [bfs_step hlt]
        have hx := List.getElem_mem hlt
        have ih := bfs_clo hs n (meet (sc o[k]) o) (k + 1) (meet_nodup hn) (fun x h => by
          rcases meet_mem.mp h with h | h
          · exact hl x h
          · exact hs _ (hl _ hx) x h) (fun j x hj e y hy => by
          obtain ⟨r, er⟩ := meet_pre (xs := sc o[k]) (o := o)
          rw [er, List.getElem?_append_left (by omega)] at e
          by_cases hjk : j < k
          · exact meet_mem.mpr (.inl (hc j x hjk e y hy))
          · have : j = k := by omega
            subst this
            rw [List.getElem?_eq_getElem hlt] at e
            rw [← Option.some.inj e] at hy
            exact meet_mem.mpr (.inr hy)) (by omega)
        exact ⟨ih.nd, ih.lt, fun x h => ih.top x (meet_mem.mpr (.inl h)), ih.clo⟩
    · rw [bfs_stop (by omega)]
      refine ⟨hn, hl, fun x h => h, fun x h y hy => ?_⟩
      obtain ⟨j, hj⟩ := List.getElem?_of_mem h
      obtain ⟨hj', _⟩ := List.getElem?_eq_some_iff.mp hj
      exact hc j x (by omega) hj y hy
/-- the targets of a node -/
def scN (nds : List Nd) (x : Nat) : List Nat := match nds[x]? with
  | some n => tgs n.row
  | none => []
theorem scN_at {nds : List Nd} {x : Nat} {n : Nd} (h : nds[x]? = some n) : scN nds x = tgs n.row := by unfold scN; rw [h]
/-- the objects that entries reach -/
def reachN (nds : List Nd) (es : List Ent) : List Nat := bfs (scN nds) (nds.length + 1) (meet (tgs es) []) 0
theorem scN_lt {nds : List Nd} (h : ∀ n ∈ nds, ∀ e ∈ n.row, e.ok nds.length) : ∀ x, x < nds.length → ∀ y ∈ scN nds x, y < nds.length := fun x hx y hy => by
  rw [scN_at (List.getElem?_eq_getElem hx)] at hy
  exact tgs_lt (h _ (List.getElem_mem hx)) y hy
theorem reachN_clo {nds : List Nd} {es : List Ent} (h : ∀ n ∈ nds, ∀ e ∈ n.row, e.ok nds.length) (he : ∀ e ∈ es, e.ok nds.length) : Clo (scN nds) nds.length (tgs es) (reachN nds es) := by
  have := bfs_clo (scN_lt h) (nds.length + 1) (meet (tgs es) []) 0 (meet_nodup List.Pairwise.nil) (fun x hx => by
    rcases meet_mem.mp hx with hx | hx
    · cases hx
    · exact tgs_lt he x hx) (fun j x hj => by omega) (by omega)
  exact ⟨this.nd, this.lt, fun x hx => this.top x (meet_mem.mpr (.inr hx)), this.clo⟩
/-- the place of x in l; -1 -/
def plc (l : List Nat) (x : Nat) : Int := if x ∈ l then ((l.idxOf x : Nat) : Int) else -1
theorem plc_at {l : List Nat} (h : l.Nodup) {j : Nat} (hj : j < l.length) : plc l l[j] = (j : Nat) := by
  unfold plc
  rw [if_pos (List.getElem_mem hj), h.idxOf_getElem j hj]
end D0
namespace D0
open PySem PySem.Spec PyProof.Rows L2 SX
/-! ### graphs whose nodes are of a set U below N -/
def En.okP (U : Nat → Prop) : En → Prop
  | .ref k => U k
  | .hand k => U k
  | .oth l ds => l ≠ wRef ∧ l ≠ wHandled ∧ l ≠ wPending ∧ deps ds = 0
def Ent.okP (U : Nat → Prop) : Ent → Prop
  | .pl e => e.okP U
  | .pend _ e => e.okP U
theorem En.okP.imp {U W : Nat → Prop} (h : ∀ k, U k → W k) : ∀ {e : En}, e.okP U → e.okP W
  | .ref _, x => h _ x
  | .hand _, x => h _ x
  | .oth _ _, x => x
theorem Ent.okP.imp {U W : Nat → Prop} (h : ∀ k, U k → W k) : ∀ {e : Ent}, e.okP U → e.okP W
  | .pl _, x => En.okP.imp h x
  | .pend _ _, x => En.okP.imp h x
theorem En.okP.ok {U : Nat → Prop} {N : Nat} (h : ∀ k, U k → k < N) : ∀ {e : En}, e.okP U → e.ok N
  | .ref _, x => h _ x
  | .hand _, x => h _ x
  | .oth _ _, x => x
theorem Ent.okP.ok {U : Nat → Prop} {N : Nat} (h : ∀ k, U k → k < N) : ∀ {e : Ent}, e.okP U → e.ok N
  | .pl _, x => En.okP.ok h x
  | .pend _ _, x => En.okP.ok h x
theorem Ent.ok.okP {N : Nat} : ∀ {e : Ent}, e.ok N → e.okP (· < N)
  | .pl (.ref _), x => x
  | .pl (.hand _), x => x
  | .pl (.oth _ _), x => x
  | .pend _ (.ref _), x => x
  | .pend _ (.hand _), x => x
  | .pend _ (.oth _ _), x => x
theorem En.okP.tg {U : Nat → Prop} {k : Nat} : ∀ {e : En}, e.okP U → e.tg = some k → U k
  | .ref j, h, e => by cases e; exact h
  | .hand j, h, e => by cases e; exact h
theorem Ent.okP.tg {U : Nat → Prop} {k : Nat} : ∀ {e : Ent}, e.okP U → e.tg = some k → U k
  | .pl e, h, q => En.okP.tg (e := e) h q
  | .pend _ e, h, q => En.okP.tg (e := e) h q
theorem En.okP.and {U W : Nat → Prop} : ∀ {e : En}, e.okP U → (∀ k, e.tg = some k → W k) → e.okP W
  | .ref _, _, h => h _ rfl
  | .hand _, _, h => h _ rfl
  | .oth _ _, x, _ => x
theorem Ent.okP.and {U W : Nat → Prop} : ∀ {e : Ent}, e.okP U → (∀ k, e.tg = some k → W k) → e.okP W
  | .pl _, x, h => En.okP.and x h
  | .pend _ _, x, h => En.okP.and x h
/-- the targets moved -/
def En.mv (g : Nat → Nat) : En → En
  | .ref k => .ref (g k)
  | .hand k => .hand (g k)
  | .oth l ds => .oth l ds
def Ent.mv (g : Nat → Nat) : Ent → Ent
  | .pl e => .pl (e.mv g)
  | .pend r e => .pend r (e.mv g)
def mvs (g : Nat → Nat) (es : List Ent) : List Ent := es.map (Ent.mv g)
def Nd.mv (g : Nat → Nat) (n : Nd) : Nd := ⟨n.kind, n.tag, mvs g n.row⟩
theorem En.mv_d (g : Nat → Nat) (f : Nat → Int) : ∀ e : En, (e.mv g).d f = e.d fun k => f (g k)
  | .ref _ => rfl
  | .hand _ => rfl
  | .oth _ _ => rfl
theorem Ent.mv_d (g : Nat → Nat) (f : Nat → Int) : ∀ e : Ent, (e.mv g).d f = e.d fun k => f (g k)
  | .pl e => En.mv_d g f e
  | .pend r e => by show D.tup [_, _, (e.mv g).d f] = _; rw [En.mv_d]; rfl
theorem mvs_d (g : Nat → Nat) (f : Nat → Int) (es : List Ent) : rowD f (mvs g es) = rowD (fun k => f (g k)) es := by
  unfold rowD mvs
  rw [List.map_map]
  exact List.map_congr_left fun e _ => Ent.mv_d g f e
theorem En.mv_tg (g : Nat → Nat) : ∀ e : En, (e.mv g).tg = e.tg.map g
  | .ref _ => rfl
  | .hand _ => rfl
  | .oth _ _ => rfl
theorem Ent.mv_tg (g : Nat → Nat) : ∀ e : Ent, (e.mv g).tg = e.tg.map g
  | .pl e => En.mv_tg g e
  | .pend _ e => En.mv_tg g e
theorem mvs_tgs (g : Nat → Nat) : ∀ es : List Ent, tgs (mvs g es) = (tgs es).map g
  | [] => rfl
  | e :: es => by
    have ih := mvs_tgs g es
    unfold tgs mvs at ih ⊢
    rw [List.map_cons, List.filterMap_cons, List.filterMap_cons, Ent.mv_tg]
    cases e.tg with
    | none => exact ih
    | some k => rw [Option.map_some, List.map_cons]; exact congrArg _ ih
theorem En.okP.mv {U W : Nat → Prop} {g : Nat → Nat} (h : ∀ k, U k → W (g k)) : ∀ {e : En}, e.okP U → (e.mv g).okP W
  | .ref _, x => h _ x
  | .hand _, x => h _ x
  | .oth _ _, x => x
theorem Ent.okP.mv {U W : Nat → Prop} {g : Nat → Nat} (h : ∀ k, U k → W (g k)) : ∀ {e : Ent}, e.okP U → (e.mv g).okP W
  | .pl _, x => En.okP.mv h x
  | .pend _ _, x => En.okP.mv h x
theorem En.mv_same {g : Nat → Nat} : ∀ {e : En}, (∀ k, e.tg = some k → g k = k) → e.mv g = e
  | .ref k, h => by show En.ref _ = _; rw [h k rfl]
  | .hand k, h => by show En.hand _ = _; rw [h k rfl]
  | .oth _ _, _ => rfl
theorem Ent.mv_same {g : Nat → Nat} : ∀ {e : Ent}, (∀ k, e.tg = some k → g k = k) → e.mv g = e
  | .pl e, h => congrArg Ent.pl (En.mv_same h)
  | .pend r e, h => congrArg (Ent.pend r) (En.mv_same h)
theorem mvs_same {g : Nat → Nat} {es : List Ent} (h : ∀ e ∈ es, ∀ k, e.tg = some k → g k = k) : mvs g es = es := by
  unfold mvs
  conv => rhs; rw [← List.map_id es]
  exact List.map_congr_left fun e he => Ent.mv_same (h e he)
theorem mem_tgs {es : List Ent} {e : Ent} {k : Nat} (h : e ∈ es) (q : e.tg = some k) : k ∈ tgs es := List.mem_filterMap.mpr ⟨e, h, q⟩
theorem of_tgs {es : List Ent} {k : Nat} (h : k ∈ tgs es) : ∃ e ∈ es, e.tg = some k := List.mem_filterMap.mp h
/-- the walk, without counting its steps -/
inductive Bf (sc : Nat → List Nat) : List Nat → Nat → List Nat → Prop
  | stop {o : List Nat} {k : Nat} : o.length ≤ k → Bf sc o k o
  | step {o R : List Nat} {k : Nat} (h : k < o.length) : Bf sc (meet (sc o[k]) o) (k + 1) R → Bf sc o k R
theorem Bf.unique {sc : Nat → List Nat} {o R R' : List Nat} {k : Nat} (x : Bf sc o k R) : Bf sc o k R' → R = R' := by
  induction x with
  | stop h => intro y; cases y with
    | stop _ => rfl
    | step h' _ => omega
  | step h _ ih => intro y; cases y with
    | stop h' => omega
    | step _ y => exact ih y
structure Cl (U : Nat → Prop) (sc : Nat → List Nat) (o R : List Nat) : Prop where
  nd : R.Nodup
  dom : ∀ x ∈ R, U x
  top : ∀ x ∈ o, x ∈ R
  clo : ∀ x ∈ R, ∀ y ∈ sc x, y ∈ R
theorem meet_dom {U : Nat → Prop} {xs o : List Nat} (h : ∀ x ∈ o, U x) (g : ∀ x ∈ xs, U x) : ∀ x ∈ meet xs o, U x := fun x m => by
  rcases meet_mem.mp m with m | m
  · exact h x m
  · exact g x m
theorem bf_ex {U : Nat → Prop} {sc : Nat → List Nat} {N : Nat} (lt : ∀ x, U x → x < N) (hs : ∀ x, U x → ∀ y ∈ sc x, U y) : ∀ (n : Nat) (o : List Nat) (k : Nat), o.Nodup → (∀ x ∈ o, U x) → N ≤ n + k → Bf sc o k (bfs sc n o k)
  | n, o, k, nd, ho, hk => by
    have l := nodup_le N nd fun x m => lt x (ho x m)
    by_cases c : k < o.length
    · cases n with
      | zero => omega
      | succ n =>
        rw [bfs_step c]
        exact .step c (bf_ex lt hs n _ (k + 1) (meet_nodup nd) (meet_dom ho (hs _ (ho _ (List.getElem_mem c)))) (by omega))
    · rw [bfs_stop (by omega)]
      exact .stop (by omega)
theorem Bf.cl {U : Nat → Prop} {sc : Nat → List Nat} (hs : ∀ x, U x → ∀ y ∈ sc x, U y) {o R : List Nat} {k : Nat} (b : Bf sc o k R) : o.Nodup → (∀ x ∈ o, U x) → (∀ j x, j < k → o[j]? = some x → ∀ y ∈ sc x, y ∈ o) → Cl U sc o R := by
  induction b with
  | @stop o k h =>
    intro nd ho hc
    refine ⟨nd, ho, fun x m => m, fun x m y my => ?_⟩
    obtain ⟨j, hj⟩ := List.getElem?_of_mem m
    obtain ⟨lj, _⟩ := List.getElem?_eq_some_iff.mp hj
    exact hc j x (by omega) hj y my
  | @step o R k h _ ih =>
    intro nd ho hc
    have := ih (meet_nodup nd) (meet_dom ho (hs _ (ho _ (List.getElem_mem h)))) fun j x hj e y hy => by
      obtain ⟨r, er⟩ := meet_pre (xs := sc o[k]) (o := o)
      rw [er, List.getElem?_append_left (by omega)] at e
      by_cases c : j < k
      · exact meet_mem.mpr (.inl (hc j x c e y hy))
      · obtain rfl : j = k := by omega
        rw [List.getElem?_eq_getElem h] at e
        rw [← Option.some.inj e] at hy
        exact meet_mem.mpr (.inr hy)
    exact ⟨this.nd, this.dom, fun x m => this.top x (meet_mem.mpr (.inl m)), this.clo⟩
theorem put1_map {U : Nat → Prop} {g : Nat → Nat} (inj : ∀ i j, U i → U j → g i = g j → i = j) {o : List Nat} {x : Nat} (ho : ∀ y ∈ o, U y) (hx : U x) : put1 (o.map g) (g x) = (put1 o x).map g := by
  unfold put1
  by_cases c : x ∈ o
  · rw [if_pos c, if_pos (List.mem_map_of_mem c)]
  · rw [if_neg c, if_neg, List.map_append]; rfl
    intro m
    obtain ⟨y, my, e⟩ := List.mem_map.mp m
    exact c (by rw [← inj y x (ho y my) hx e]; exact my)
theorem meet_map {U : Nat → Prop} {g : Nat → Nat} (inj : ∀ i j, U i → U j → g i = g j → i = j) : ∀ {xs o : List Nat}, (∀ y ∈ o, U y) → (∀ y ∈ xs, U y) → meet (xs.map g) (o.map g) = (meet xs o).map g
  | [], _, _, _ => rfl
  | x :: xs, o, ho, hx => by
    show meet (xs.map g) (put1 (o.map g) (g x)) = (meet xs (put1 o x)).map g
    rw [put1_map inj ho (hx x (List.mem_cons_self ..))]
    exact meet_map inj (fun y m => (put1_mem.mp m).elim (ho y) fun e => by rw [e]; exact hx x (List.mem_cons_self ..)) fun y m => hx y (List.mem_cons_of_mem _ m)
theorem Bf.map {U : Nat → Prop} {g : Nat → Nat} {sc sc' : Nat → List Nat} (inj : ∀ i j, U i → U j → g i = g j → i = j) (hs : ∀ x, U x → ∀ y ∈ sc x, U y) (e : ∀ x, U x → sc' (g x) = (sc x).map g) {o R : List Nat} {k : Nat} (b : Bf sc o k R) : (∀ x ∈ o, U x) → Bf sc' (o.map g) k (R.map g) := by
  induction b with
  | stop h => intro _; exact .stop (by rw [List.length_map]; exact h)
  | @step o R k h _ ih =>
    intro ho
    have hk := ho _ (List.getElem_mem h)
    have := ih (meet_dom ho (hs _ hk))
    rw [← meet_map inj ho (hs _ hk)] at this
    refine .step (by rw [List.length_map]; exact h) ?_
    rw [List.getElem_map, e _ hk]
    exact this
/-- the targets of a node -/
def scG (G : Nat → Nd) (x : Nat) : List Nat := tgs (G x).row
def Reach (G : Nat → Nd) (es : List Ent) (R : List Nat) : Prop := Bf (scG G) (meet (tgs es) []) 0 R
theorem Reach.cl {U : Nat → Prop} {G : Nat → Nd} {es : List Ent} {R : List Nat} (r : Reach G es R) (h : ∀ x, U x → ∀ e ∈ (G x).row, e.okP U) (he : ∀ e ∈ es, e.okP U) : Cl U (scG G) (tgs es) R := by
  have := Bf.cl (U := U) (fun x hx y hy => by obtain ⟨e, m, q⟩ := of_tgs hy; exact (h x hx e m).tg q) r (meet_nodup List.Pairwise.nil)
    (meet_dom (fun x m => by cases m) fun x m => by obtain ⟨e, m, q⟩ := of_tgs m; exact (he e m).tg q) (fun j x hj => absurd hj (Nat.not_lt_zero j))
  exact ⟨this.nd, this.dom, fun x m => this.top x (meet_mem.mpr (.inr m)), this.clo⟩
theorem reach_ex {U : Nat → Prop} {N : Nat} {G : Nat → Nd} {es : List Ent} (lt : ∀ x, U x → x < N) (h : ∀ x, U x → ∀ e ∈ (G x).row, e.okP U) (he : ∀ e ∈ es, e.okP U) : ∃ R, Reach G es R :=
  ⟨_, bf_ex lt (fun x hx y hy => by obtain ⟨e, m, q⟩ := of_tgs hy; exact (h x hx e m).tg q) N _ 0 (meet_nodup List.Pairwise.nil) (meet_dom (fun x m => by cases m) fun x m => by obtain ⟨e, m, q⟩ := of_tgs m; exact (he e m).tg q) (Nat.le_refl _)⟩
theorem Reach.map {U : Nat → Prop} {g : Nat → Nat} {G G' : Nat → Nd} {es : List Ent} {R : List Nat} (inj : ∀ i j, U i → U j → g i = g j → i = j) (h : ∀ x, U x → ∀ e ∈ (G x).row, e.okP U) (he : ∀ e ∈ es, e.okP U) (e : ∀ x, U x → (G' (g x)).row = mvs g (G x).row) (r : Reach G es R) : Reach G' (mvs g es) (R.map g) := by
  have ht : ∀ x ∈ tgs es, U x := fun x m => by obtain ⟨e, m, q⟩ := of_tgs m; exact (he e m).tg q
  have := Bf.map (U := U) (g := g) (sc' := scG G') inj (fun x hx y hy => by obtain ⟨e, m, q⟩ := of_tgs hy; exact (h x hx e m).tg q) (fun x hx => by unfold scG; rw [e x hx, mvs_tgs]) r (meet_dom (fun x m => by cases m) ht)
  unfold Reach
  rw [mvs_tgs, show ([] : List Nat) = ([] : List Nat).map g from rfl, meet_map (U := U) inj (fun y m => by cases m) ht]
  exact this
end D0
namespace D0
open PySem PySem.Spec PyProof.Rows L2 SX
/-! ### a memory: what a heap with collections holds, by address -/
structure MM where
  yn : Nat
  on : Nat
  G : Nat → Nd
  ag : Nat → Int
  ms : List Nat
def MM.dom (m : MM) (a : Nat) : Prop := (a % 2 = 1 ∧ a < 2 * m.yn) ∨ (a % 2 = 0 ∧ a < 2 * m.on)
def MM.top (m : MM) : Nat := 2 * (m.yn + m.on)
theorem MM.dom_lt {m : MM} {a : Nat} (h : m.dom a) : a < m.top := by unfold MM.top; rcases h with h | h <;> omega
/-- one of the entries leads to a young object -/
def yt (es : List Ent) : List Nat := (tgs es).filter fun a => a % 2 == 1
def anyY (es : List Ent) : Bool := !(yt es).isEmpty
theorem mem_yt {es : List Ent} {a : Nat} : a ∈ yt es ↔ a ∈ tgs es ∧ a % 2 = 1 := by unfold yt; rw [List.mem_filter]; simp
theorem anyY_true {es : List Ent} : anyY es = true ↔ ∃ a ∈ tgs es, a % 2 = 1 := by
  unfold anyY
  constructor
  · intro h
    cases e : yt es with
    | nil => rw [e] at h; cases h
    | cons a r => exact ⟨a, mem_yt.mp (by rw [e]; exact List.mem_cons_self ..)⟩
  · rintro ⟨a, h⟩
    have := mem_yt.mpr h
    cases e : yt es with
    | nil => rw [e] at this; cases this
    | cons _ _ => rfl
structure MM.ok (m : MM) : Prop where
  clo : ∀ a, m.dom a → ∀ e ∈ (m.G a).row, e.okP m.dom
  nd : ∀ a, m.dom a → D0.dep (m.G a).tag ≤ 3 ∧ (m.G a).row.length ≤ 100
  mkd : ∀ a ∈ m.ms, a % 2 = 0 ∧ a < 2 * m.on
  mkn : m.ms.Nodup
  mky : ∀ a, a % 2 = 0 → a < 2 * m.on → anyY (m.G a).row = true → a ∈ m.ms
  le : m.yn + m.on ≤ 2000
theorem MM.ok.mkdom {m : MM} (h : m.ok) {a : Nat} (k : a ∈ m.ms) : m.dom a := .inr (h.mkd a k)
/-- a mark, if the entries ask for one -/
def note (a : Nat) (es : List Ent) (mk : List Nat) : List Nat := if a % 2 = 0 ∧ anyY es = true then put1 mk a else mk
theorem note_mem {a b : Nat} {es : List Ent} {mk : List Nat} : b ∈ note a es mk ↔ b ∈ mk ∨ (b = a ∧ a % 2 = 0 ∧ anyY es = true) := by
  unfold note
  split
  · rename_i h; rw [put1_mem]; simp [h]
  · rename_i h; constructor
    · exact .inl
    · rintro (h' | ⟨_, h'⟩)
      · exact h'
      · exact absurd h' h
theorem note_nodup {a : Nat} {es : List Ent} {mk : List Nat} (h : mk.Nodup) : (note a es mk).Nodup := by
  unfold note
  split
  · exact put1_nodup h
  · exact h
/-- one node replaced -/
def setG (G : Nat → Nd) (a : Nat) (n : Nd) : Nat → Nd := fun b => if b = a then n else G b
theorem setG_at {G : Nat → Nd} {a : Nat} {n : Nd} : setG G a n a = n := if_pos rfl
theorem setG_ne {G : Nat → Nd} {a b : Nat} {n : Nd} (h : b ≠ a) : setG G a n b = G b := if_neg h
def MM.make (m : MM) (n : Nd) : MM := ⟨m.yn + 1, m.on, setG m.G (2 * m.yn + 1) n, fun b => if b = 2 * m.yn + 1 then 0 else m.ag b, m.ms⟩
/-- another tag, another row; what is noted: es -/
def MM.put (m : MM) (a : Nat) (n : Nd) (es : List Ent) : MM := ⟨m.yn, m.on, setG m.G a n, m.ag, note a es m.ms⟩
theorem MM.make_dom {m : MM} {n : Nd} {a : Nat} : (m.make n).dom a ↔ m.dom a ∨ a = 2 * m.yn + 1 := by unfold MM.make MM.dom; simp only; omega
theorem MM.make_new {m : MM} : ¬ m.dom (2 * m.yn + 1) := by unfold MM.dom; omega
theorem MM.ok.make {m : MM} (h : m.ok) {n : Nd} (hn : ∀ e ∈ n.row, e.okP m.dom) (ht : D0.dep n.tag ≤ 3) (hl : n.row.length ≤ 100) (le : m.yn + m.on < 2000) : (m.make n).ok := by
  have old : ∀ a, m.dom a → (m.make n).G a = m.G a := fun a da => setG_ne fun z => MM.make_new (m := m) (by rw [← z]; exact da)
  refine ⟨fun a da => ?_, fun a da => ?_, h.mkd, h.mkn, fun a h1 h2 h3 => ?_, by show m.yn + 1 + m.on ≤ 2000; omega⟩
  · rcases MM.make_dom.mp da with d | rfl
    · rw [old a d]; exact fun e he => (h.clo a d e he).imp fun k dk => MM.make_dom.mpr (.inl dk)
    · rw [show (m.make n).G (2 * m.yn + 1) = n from setG_at]; exact fun e he => (hn e he).imp fun k dk => MM.make_dom.mpr (.inl dk)
  · rcases MM.make_dom.mp da with d | rfl
    · rw [old a d]; exact h.nd a d
    · rw [show (m.make n).G (2 * m.yn + 1) = n from setG_at]; exact ⟨ht, hl⟩
  · rw [old a (.inr ⟨h1, h2⟩)] at h3
    exact h.mky a h1 h2 h3
theorem MM.ok.put {m : MM} (h : m.ok) {a : Nat} {n : Nd} {es : List Ent} (da : m.dom a) (hn : ∀ e ∈ n.row, e.okP m.dom) (ht : D0.dep n.tag ≤ 3) (hl : n.row.length ≤ 100) (hy : anyY n.row = true → anyY es = true ∨ anyY (m.G a).row = true) : (m.put a n es).ok := by
  refine ⟨fun b db => ?_, fun b db => ?_, fun b hb => ?_, note_nodup h.mkn, fun b h1 h2 h3 => ?_, h.le⟩
  · show ∀ e ∈ (setG m.G a n b).row, e.okP m.dom
    by_cases e : b = a
    · subst e; rw [setG_at]; exact hn
    · rw [setG_ne e]; exact h.clo b db
  · show D0.dep (setG m.G a n b).tag ≤ 3 ∧ (setG m.G a n b).row.length ≤ 100
    by_cases e : b = a
    · subst e; rw [setG_at]; exact ⟨ht, hl⟩
    · rw [setG_ne e]; exact h.nd b db
  · rcases note_mem.mp hb with k | ⟨rfl, k, _⟩
    · exact h.mkd b k
    · rcases da with d | d
      · omega
      · exact d
  · have h3' : anyY (setG m.G a n b).row = true := h3
    by_cases e : b = a
    · subst e
      rw [setG_at] at h3'
      rcases hy h3' with y | y
      · exact note_mem.mpr (.inr ⟨rfl, h1, y⟩)
      · exact note_mem.mpr (.inl (h.mky b h1 h2 y))
    · rw [setG_ne e] at h3'
      exact note_mem.mpr (.inl (h.mky b h1 h2 h3'))
/-! ### on the heap -/
def moreM (m : MM) (md : Addr) : List (Str × V) := [(fYM, .int (m.yn : Nat)), (fOM, .int (m.on : Nat)), (fMk, .ref md)]
/-- x is the thing at a -/
structure TA (m : MM) (x : Th) (a : Nat) : Prop where
  key : x.key = (a : Int)
  kind : x.kind = (m.G a).kind
  tag : x.tag = (m.G a).tag
  row : x.row = rowD ixD (m.G a).row
  age : x.age = m.ag a
def markK (mk : List Nat) : List (Key × V) := mk.map fun (a : Nat) => (.inl (a : Int), .bl true)
structure MemL (K : PySem.W.Frag) (C CT : Addr) (H : Hp) (B td md : Addr) (L : List Th) (m : MM) : Prop where
  bk : BkA K C CT H B td (moreM m md) L
  hM : H md = some (.dK (markK m.ms))
  ne : md ≠ td
  to : ∀ x ∈ L, ∃ a, m.dom a ∧ TA m x a
  from_ : ∀ a, m.dom a → ∃ x ∈ L, TA m x a
def Mem (K : PySem.W.Frag) (C CT : Addr) (H : Hp) (B : Addr) (F : List Addr) (m : MM) : Prop := ∃ td md L, MemL K C CT H B td md L m ∧ (∀ b ∈ FB B td L, b ∈ F) ∧ md ∈ F ∧ ∀ b ∈ F, H b ≠ none
section
variable {K : PySem.W.Frag} {C CT : Addr} {H H' : Hp} {B td md : Addr} {L : List Th} {m : MM} {F : List Addr}
theorem MemL.frame (X : MemL K C CT H B td md L m) {E : List Addr} (c : Chg E H H') (d : ∀ a ∈ FB B td L, a ∉ E) (dm : md ∉ E) : MemL K C CT H' B td md L m :=
  ⟨X.bk.frame c d, c.keep _ _ dm X.hM, X.ne, X.to, X.from_⟩
theorem MemL.same (X : MemL K C CT H B td md L m) (s : Same H H') : MemL K C CT H' B td md L m := X.frame (E := []) (.same s) (fun _ _ h => by cases h) (fun h => by cases h)
theorem Mem.frame (X : Mem K C CT H B F m) {E : List Addr} (c : Chg E H H') (d : ∀ a ∈ F, a ∉ E) : Mem K C CT H' B F m := by
  obtain ⟨td, md, L, Y, f, hf, lv⟩ := X
  exact ⟨td, md, L, Y.frame c (fun a ha => d a (f a ha)) (d _ hf), f, hf, fun b hb z => lv b hb (c.live b z)⟩
theorem Mem.same (X : Mem K C CT H B F m) (s : Same H H') : Mem K C CT H' B F m := X.frame (E := []) (.same s) (fun _ _ h => by cases h)
theorem Mem.fresh (X : Mem K C CT H B F m) {p : Addr} (h : H p = none) : p ∉ F := fun z => let ⟨_, _, _, _, _, _, lv⟩ := X; lv p z h
theorem TA.inj {x : Th} {a b : Nat} (h : TA m x a) (g : TA m x b) : a = b := by have := h.key.symm.trans g.key; omega
/-- what stands at a kept address -/
theorem MemL.look (X : MemL K C CT H B td md L m) {a : Nat} (h : m.dom a) : ∃ x ∈ L, TA m x a ∧ ∃ dx dx2 tv vs, H B = some (.ins C dx ((fThings, .ref td) :: moreM m md)) ∧ DGet H td (.int (a : Int)) (some (.ref x.t)) ∧
    H x.t = some (.ins CT dx2 (thF x tv)) ∧ Rep H tv (m.G a).tag ∧ H x.s = some (.lst vs) ∧ Reps H vs (rowD ixD (m.G a).row) := by
  obtain ⟨x, hx, t⟩ := X.from_ a h
  obtain ⟨dx, dx2, tv, vs, h1, h2, h3, h4, h5, h6⟩ := X.bk.look hx
  rw [t.key] at h2
  rw [t.tag] at h4
  rw [t.row] at h6
  exact ⟨x, hx, t, dx, dx2, tv, vs, h1, h2, h3, h4, h5, h6⟩
theorem MemL.keyed (X : MemL K C CT H B td md L m) {a : Nat} : (a : Int) ∈ L.map Th.key ↔ m.dom a := by
  constructor
  · intro h
    obtain ⟨x, hx, e⟩ := List.mem_map.mp h
    obtain ⟨b, db, t⟩ := X.to x hx
    have : b = a := by have := t.key.symm.trans e; omega
    rw [← this]; exact db
  · intro h
    obtain ⟨x, hx, t⟩ := X.from_ a h
    rw [← t.key]; exact List.mem_map_of_mem hx
theorem markK_get : ∀ (mk : List Nat) (a : Nat), (valV (markK mk) (.inl (a : Int))).isSome = decide (a ∈ mk)
  | [], a => rfl
  | b :: r, a => by
    have ih := markK_get r a
    by_cases e : b = a
    · subst e
      show (valV ((Sum.inl (b : Int), V.bl true) :: markK r) _).isSome = _
      rw [valV_pos rfl, decide_eq_true (List.mem_cons_self ..)]; rfl
    · show (valV ((Sum.inl (b : Int), V.bl true) :: markK r) _).isSome = _
      rw [valV_neg (fun z => e (by have := Sum.inl.inj z; omega)), ih]
      rw [decide_eq_decide, List.mem_cons]
      exact ⟨.inr, fun h => h.elim (fun z => absurd z.symm e) id⟩
theorem markK_put (mk : List Nat) (a : Nat) : putK (markK mk) (.inl (a : Int)) (.bl true) = markK (put1 mk a) := by
  unfold putK put1
  rw [valV_any, markK_get]
  by_cases c : a ∈ mk
  · rw [if_pos (decide_eq_true c), if_pos c]
    conv => rhs; rw [← List.map_id (markK mk)]
    refine List.map_congr_left fun kv h => ?_
    obtain ⟨b, _, rfl⟩ := List.mem_map.mp h
    show (if (Sum.inl (b : Int) : Key) = .inl (a : Int) then _ else _) = _
    split <;> rfl
  · rw [if_neg (by rw [decide_eq_false c]; exact Bool.false_ne_true), if_neg c]
    unfold markK; rw [List.map_append]; rfl
theorem markK_len (mk : List Nat) : (markK mk).length = mk.length := by unfold markK; rw [List.length_map]
theorem markK_keys (mk : List Nat) : (markK mk).map (·.1) = mk.map fun (a : Nat) => (.inl (a : Int) : Key) := by unfold markK; rw [List.map_map]; rfl
end
end D0
namespace D0
open PySem PySem.Spec PyProof.Rows L2 SX
def C5 (c n s t k : Int) : List V := [.int c, .int n, .int s, .int t, .int k]
/-- a box: a list of five ints -/
def Bag (H : Hp) (b : Addr) : Prop := ∃ c n s t k : Int, H b = some (.lst (C5 c n s t k))
/-- all but the box stays -/
structure Stp (b : Addr) (H H' : Hp) : Prop where
  b0 : Bag H b
  b1 : Bag H' b
  keep : ∀ a o, a ≠ b → H a = some o → H' a = some o
theorem Stp.trans {b : Addr} {H H1 H2 : Hp} (x : Stp b H H1) (y : Stp b H1 H2) : Stp b H H2 := ⟨x.b0, y.b1, fun a o n e => y.keep a o n (x.keep a o n e)⟩
theorem Stp.refl {b : Addr} {H : Hp} (x : Bag H b) : Stp b H H := ⟨x, x, fun _ _ _ e => e⟩
theorem Bag.same {b : Addr} {H H' : Hp} (x : Bag H b) (s : Same H H') : Bag H' b := by obtain ⟨c, t, n, u, v, e⟩ := x; exact ⟨c, t, n, u, v, s _ _ e⟩
theorem Stp.same {b : Addr} {H H' : Hp} (x : Bag H b) (s : Same H H') : Stp b H H' := ⟨x, x.same s, fun a o _ e => s a o e⟩
theorem Bag.ne {b a : Addr} {H : Hp} (x : Bag H b) (h : H a = none) : a ≠ b := by obtain ⟨c, t, n, _, _, e⟩ := x; exact (ne_of_none e h).symm
theorem Bag.ne_tup {b a : Addr} {H : Hp} {vs : List V} (x : Bag H b) (h : H a = some (.tup vs)) : a ≠ b := by
  obtain ⟨c, t, n, _, _, e⟩ := x
  intro z; rw [z, e] at h; cases h
theorem Stp.tups {b : Addr} {H H' : Hp} (x : Stp b H H') : Tups H H' := fun a vs h => x.keep a _ (x.b0.ne_tup h) h
theorem Stp.chg {b : Addr} {H H' : Hp} (x : Stp b H H') : Chg [b] H H' := ⟨fun a o n h => x.keep a o (fun z => n (by rw [z]; exact List.mem_singleton_self _)) h, x.tups, fun a h => by
  cases e : H a with
  | none => rfl
  | some o =>
    have n := x.b1
    obtain ⟨c1, c2, c3, c4, c5, g⟩ := n
    by_cases z : a = b
    · rw [z, g] at h; cases h
    · rw [x.keep a o z e] at h; cases h⟩
theorem Stp.new {b : Addr} {H H1 : Hp} (x : Stp b H H1) {p : Addr} {o : HO} (h : H1 p = none) : Stp b H (upd H1 p o) := x.trans (.same x.b1 (same_new h o))
/-- a list that H did not have grows -/
theorem Stp.grow {b : Addr} {H H1 : Hp} (x : Stp b H H1) {p : Addr} {o : HO} (h : H p = none) (n : p ≠ b) : Stp b H (upd H1 p o) := by
  refine ⟨x.b0, ?_, fun a u k e => ?_⟩
  · obtain ⟨c, t, m, u, v, e⟩ := x.b1; exact ⟨c, t, m, u, v, by rw [upd_ne (Ne.symm n)]; exact e⟩
  · rw [upd_ne (ne_of_none e h)]; exact x.keep a u k e
theorem ints_map : ∀ {xs : List V}, (∀ x ∈ xs, ∃ i : Int, x = V.int i) → ∃ ms : List Int, xs = ms.map V.int
  | [], _ => ⟨[], rfl⟩
  | x :: xs, h => by
    obtain ⟨i, rfl⟩ := h _ (List.mem_cons_self ..)
    obtain ⟨ms, rfl⟩ := ints_map (xs := xs) fun y hy => h y (List.mem_cons_of_mem _ hy)
    exact ⟨i :: ms, rfl⟩
def spCell (K : PySem.W.Frag) : Sp := fun vs H Q _ => ∃ (a : Addr) (ns : List Int) (k : Nat), vs = [.ref a, .int k] ∧ SqL K H a (ns.map V.int) ∧ k ≤ 60 ∧ ∀ i H', Same H H' → Q (.int i) H'
def spBox (K : PySem.W.Frag) : Sp := fun vs H Q _ => ∃ (a : Addr) (ns : List Int) (k : Nat), vs = [.ref a, .int k] ∧ SqL K H a (ns.map V.int) ∧ k ≤ 60 ∧ ∀ p H', Same H H' → H p = none → Bag H' p → Q (.ref p) H'
def spTake : Sp := fun vs H Q _ => ∃ (b : Addr) (n : Int), vs = [.ref b, .int n] ∧ Bag H b ∧ 0 < n ∧ n < 1000000000 ∧ ∀ r H', 0 ≤ r → r < n → Stp b H H' → Q (.int r) H'
section
variable {P : Program} {w : World} {K : PySem.W.Frag} {mg : Str → Option Value} {base : Heap}
theorem ok__law_cell (T : Txt K w mg) : OkD P w K mg base CX0 1 "_law_cell" p__law_cell (spCell K) := by
  refine T.g__law_cell.ok sc__law_cell (fun vs H Q E h => ?_) (fun f cdv A outer s H vs Q E hr h => ?_)
  · obtain ⟨a, ns, k, rfl, _⟩ := h; rfl
  obtain ⟨a, ns, k, rfl, hS, hk, q⟩ := h
  refine ⟨_, (pss_cons (ps_if (pt_cmpR op_lt (pv 1) (pe_callB call_len_seq (by rfl) T.z_len PySem.boot_len (pa_cons (pv 0) pa_nil)) (nomark _)) (pss_one (ps_ret (pe_callTy call_int1 (by rfl) T.z_int PyProof.Rows.boot_int (pa_cons (pe_ix ix_list (pv 0) (pv 1) (fun _ _ => rfl)) pa_nil)))) pss_nil)
      (pss_one (ps_ret (pe_op op_add (pe_op op_add (pe_op op_mul (pe_op op_add (pv 1) pe_int) (pe_op op_mod (pe_callTy call_int1 (by rfl) T.z_int PyProof.Rows.boot_int (pa_cons (pe_callB (cr_sum rfl) (by rfl) T.z_sum (by decide +kernel) (pa_cons (pe_slice sl_list (pv 0) po_none (po_some pe_int)) pa_nil)) pa_nil)) pe_int)) (pe_op op_mul pe_int (pv 1))) pe_int)))), ?_⟩
  refine ⟨_, rfl, _, rfl, a, _, rfl, .inl hS, _, _, rfl, rfl, _, rfl, ite2 (fun c => ?_) (fun c => ?_)⟩
  · have c := of_decide_eq_true c
    have c : (k : Int) < ((ns.map V.int).length : Int) := c
    rw [List.length_map] at c
    have hkl : k < ns.length := by omega
    refine ⟨_, rfl, _, rfl, a, _, _, .int ns[k], rfl, rfl, hS, atI_nat (by rw [List.getElem?_map, List.getElem?_eq_getElem hkl]; rfl), ?_⟩
    exact .inl ⟨_, rfl, q _ _ (.refl _)⟩
  · refine ⟨_, rfl, _, _, rfl, rfl, _, rfl, 1, rfl, a, _, rfl, hS, fun p hp => ?_⟩
    have mem : ∀ x ∈ cutV (ns.map V.int) none (some 1), ∃ i : Int, x = V.int i := fun x hx => by
      have : x ∈ ns.map V.int := List.mem_of_mem_drop (List.mem_of_mem_take hx)
      obtain ⟨i, _, e⟩ := List.mem_map.mp this
      exact ⟨i, e.symm⟩
    obtain ⟨ms, em⟩ := ints_map mem
    refine ⟨p, ms, rfl, SqL.of (by rw [upd_same, em]), .inl ⟨_, rfl, _, _, rfl, rfl, (by show (0 : Int) < _; decide), _, _, rfl, rfl, .inl ⟨by omega, by omega⟩, ?_⟩⟩
    refine ⟨_, rfl, _, _, rfl, rfl, .inl ⟨by decide, by decide⟩, _, _, rfl, rfl, _, _, rfl, rfl, ?_⟩
    exact q _ _ (same_new hp _)
theorem ok__law_box (T : Txt K w mg) (O : OkD P w K mg base CX0 1 "_law_cell" p__law_cell (spCell K)) : OkD P w K mg base CX0 2 "_law_box" p__law_box (spBox K) := by
  refine T.g__law_box.ok sc__law_box (fun vs H Q E h => ?_) (fun f cdv A outer s H vs Q E hr h => ?_)
  · obtain ⟨a, ns, k, rfl, _⟩ := h; rfl
  obtain ⟨a, ns, k, rfl, hS, hk, q⟩ := h
  refine ⟨_, (pss_cons (ps_set (i := 2) sc__law_box.nd rfl (.inl rfl) (pcall O hr (pa_cons (pv 0) (pa_cons (pv 1) pa_nil))))
      (pss_cons (ps_if (pt_cmpR op_ge (pv 2) (pe_op op_pow pe_int pe_int) (nomark _)) (pss_one (ps_ret (pe_lst (pa_cons (pv 2) (pa_cons pe_int (pa_cons (pv 2) (pa_cons pe_int (pa_cons (pv 1) pa_nil)))))))) pss_nil)
      (pss_one (ps_ret (pe_lst (pa_cons pe_int (pa_cons pe_int (pa_cons (pv 2) (pa_cons pe_int (pa_cons (pv 1) pa_nil)))))))))), ?_⟩
  refine ⟨_, rfl, _, rfl, a, ns, k, rfl, hS, hk, fun i H1 s1 => ?_⟩
  refine ⟨_, rfl, _, _, rfl, rfl, ⟨by decide, by decide, by decide⟩, _, _, rfl, rfl, _, rfl, ite2 (fun c => ?_) (fun c => ?_)⟩
  · refine ⟨_, rfl, _, rfl, _, rfl, by show 5 ≤ sizeLine; decide, fun z hz => ?_⟩
    exact q z _ (s1.trans (same_new hz _)) (s1.free hz) ⟨_, _, _, _, _, upd_same⟩
  · refine ⟨_, rfl, _, rfl, by show 5 ≤ sizeLine; decide, fun z hz => ?_⟩
    exact q z _ (s1.trans (same_new hz _)) (s1.free hz) ⟨_, _, _, _, _, upd_same⟩
theorem ok__law_take (T : Txt K w mg) : OkD P w K mg base CX0 1 "_law_take" p__law_take spTake := by
  refine T.g__law_take.ok sc__law_take (fun vs H Q E h => ?_) (fun f cdv A outer s H vs Q E hr h => ?_)
  · obtain ⟨b, n, rfl, _⟩ := h; rfl
  obtain ⟨b, n, rfl, ⟨c, m, sd, t, kk, hb⟩, hn0, hn1, q⟩ := h
  refine split_at 1 (fun t => t { nx := fun _ H' => Q .non H', rt := Q } [some (.ref b), some (.int n), none, none, none] H) ?_ (fun t ht hg => ?_)
  rotate_left
  · refine ⟨_, pss_cons (ps_if (PW.pt (pw_and (pt_cmpR op_gt (pe_ix ix_list (pv 0) pe_int (fun _ _ => rfl)) pe_int (nomark _)) (pw_and1 (pt_cmpR op_gt (pe_ix ix_list (pv 0) pe_int (fun _ _ => rfl)) pe_int (nomark _))))) (pss_cons (ps_set (i := 2) sc__law_take.nd rfl (.inl rfl) (pe_op op_mod (pe_callTy call_int1 (by rfl) T.z_int PyProof.Rows.boot_int (pa_cons (pe_ix ix_list (pv 0) pe_int (fun _ _ => rfl)) pa_nil)) (pv 1)))
      (pss_cons (ps_asg (pe_op op_fdiv (pe_ix ix_list (pv 0) pe_int (fun _ _ => rfl)) (pv 1)) (pg_sub (pv 0) pe_int set_list))
      (pss_cons (ps_asg (pe_op op_sub (pe_ix ix_list (pv 0) pe_int (fun _ _ => rfl)) pe_int) (pg_sub (pv 0) pe_int set_list))
      (pss_one (ps_ret (pv 2)))))) pss_nil) ht, ?_⟩
    refine ⟨_, rfl, b, _, 0, _, rfl, rfl, SqL.of hb, rfl, _, _, rfl, rfl, _, rfl, ite2 (fun _ => ?_) (fun _ => hg)⟩
    refine ⟨_, rfl, b, _, 1, _, rfl, rfl, SqL.of hb, rfl, _, _, rfl, rfl, _, rfl, ite2 (fun _ => ?_) (fun _ => hg)⟩
    refine ⟨_, rfl, b, _, 0, _, rfl, rfl, SqL.of hb, rfl, .inl ⟨_, rfl, _, rfl, _, _, rfl, rfl, hn0, ?_⟩⟩
    refine ⟨_, rfl, b, _, 0, _, rfl, rfl, SqL.of hb, rfl, _, rfl, _, _, rfl, rfl, ?_, ?_⟩
    · exact ⟨hn0, by omega⟩
    refine ⟨_, rfl, b, _, 0, 0, rfl, rfl, hb, rfl, ?_⟩
    refine ⟨_, rfl, b, _, 1, _, rfl, rfl, SqL.of upd_same, rfl, _, _, rfl, rfl, ?_⟩
    refine ⟨_, rfl, b, _, 1, 1, rfl, rfl, upd_same, rfl, ?_⟩
    refine ⟨_, rfl, ?_⟩
    rw [upd_upd]
    exact q _ _ (Int.emod_nonneg _ (by omega)) (Int.emod_lt_of_pos _ hn0) ⟨⟨_, _, _, _, _, hb⟩, ⟨_, _, _, _, _, upd_same⟩, fun a o n e => by rw [upd_ne n]; exact e⟩
  · refine ⟨_, (pss_cons (ps_asg (pe_op op_add (pe_ix ix_list (pv 0) pe_int (fun _ _ => rfl)) pe_int) (pg_sub (pv 0) pe_int set_list))
      (pss_cons (ps_set (i := 3) sc__law_take.nd rfl (.inl rfl) (pe_op op_mod (pe_callTy call_int1 (by rfl) T.z_int PyProof.Rows.boot_int (pa_cons (pe_op op_add (pe_op op_add (pe_op op_mul (pe_ix ix_list (pv 0) pe_int (fun _ _ => rfl)) pe_int) (pe_op op_mul (pe_ix ix_list (pv 0) pe_int (fun _ _ => rfl)) pe_int)) (pe_op op_mul (pe_ix ix_list (pv 0) pe_int (fun _ _ => rfl)) pe_int)) pa_nil)) pe_int))
      (pss_cons (ps_set (i := 4) sc__law_take.nd rfl (.inl rfl) (pe_op op_mod (pe_callTy call_int1 (by rfl) T.z_int PyProof.Rows.boot_int (pa_cons (pe_op op_add (pe_op op_add (pe_op op_mul (pv 3) (pv 3)) (pe_op op_mul (pe_ix ix_list (pv 0) pe_int (fun _ _ => rfl)) pe_int)) pe_int) pa_nil)) pe_int))
      (pss_one (ps_ret (pe_op op_mod (pe_callTy call_int1 (by rfl) T.z_int PyProof.Rows.boot_int (pa_cons (pe_op op_fdiv (pv 4) pe_int) pa_nil)) (pv 1))))))), ?_⟩
    refine ⟨_, rfl, b, _, 3, _, rfl, rfl, SqL.of hb, rfl, _, _, rfl, rfl, ?_⟩
    refine ⟨_, rfl, b, _, 3, 3, rfl, rfl, hb, rfl, ?_⟩
    refine ⟨_, rfl, b, _, 2, _, rfl, rfl, SqL.of upd_same, rfl, _, _, rfl, rfl, .inr ⟨by decide, by decide⟩, ?_⟩
    refine ⟨_, rfl, b, _, 3, _, rfl, rfl, SqL.of upd_same, rfl, _, _, rfl, rfl, .inr ⟨by decide, by decide⟩, _, _, rfl, rfl, ?_⟩
    refine ⟨_, rfl, b, _, 4, _, rfl, rfl, SqL.of upd_same, rfl, _, _, rfl, rfl, .inr ⟨by decide, by decide⟩, _, _, rfl, rfl, .inl ⟨_, rfl, _, _, rfl, rfl, (by show (0 : Int) < _; decide), ?_⟩⟩
    obtain ⟨f1, hf1⟩ : ∃ f1 : Int, f1 = (sd * 48271 + (t + 1) * 1103515245 + kk * 69621) % 2147483647 := ⟨_, rfl⟩
    have hf0 : 0 ≤ f1 := by rw [hf1]; exact Int.emod_nonneg _ (by decide)
    have hf2 : f1 < 2147483647 := by rw [hf1]; exact Int.emod_lt_of_pos _ (by decide)
    refine ⟨_, rfl, _, rfl, _, _, rfl, rfl, .inl ?_, ?_⟩
    · show (-(2 ^ 64) : Int) < (sd * 48271 + (t + 1) * 1103515245 + kk * 69621) % 2147483647 ∧ (sd * 48271 + (t + 1) * 1103515245 + kk * 69621) % 2147483647 < 2 ^ 64
      rw [← hf1]; omega
    refine ⟨_, rfl, b, _, 3, _, rfl, rfl, SqL.of upd_same, rfl, _, _, rfl, rfl, .inr ⟨by decide, by decide⟩, _, _, rfl, rfl, _, _, rfl, rfl, .inl ⟨_, rfl, _, _, rfl, rfl, (by show (0 : Int) < _; decide), ?_⟩⟩
    refine ⟨_, rfl, _, _, rfl, rfl, ⟨by decide, by decide⟩, .inl ⟨_, rfl, _, rfl, _, _, rfl, rfl, hn0, ?_⟩⟩
    exact q _ _ (Int.emod_nonneg _ (by omega)) (Int.emod_lt_of_pos _ hn0) ⟨⟨_, _, _, _, _, hb⟩, ⟨_, _, _, _, _, upd_same⟩, fun a o n e => by rw [upd_ne n]; exact e⟩
end
end D0
namespace D0
open PySem PySem.Spec PyProof.Rows L2 SX
/-- C.m(..), m a def of the class C -/
theorem pe_ccall {X : Cx} {CX : CXT} {k : Nat} {C f : Addr} {fd : FuncData} {ps : List Str} {mc : Value} {sp : Sp} {E : XK} {o e : Expr} {es : List Expr} {m : Str} {pos apos : Pos} {ta : TE} {t : L2.TA} {pl : Sem Bool} (ho : PE X o ta) (r : ClX.CRead X.K C mc)
    (c : PySem.W.findCls X.K (.ref C) mc m = some (.val (.ref f))) (kp : PySem.W.keepIn X.K (.ref f) = true) (F : FnOk X.prog X.w X.K X.mg X.base CX k f fd ps sp) (hr : Room k X.A) (hb : L2.Binds X.K fd ps []) (hx : Passes CX X E) (ha : PA X (e :: es) t)
    (he : starEach (e :: es) X.env = (false, eval e X.env) :: starEach es X.env := by rfl) (hpl : (backTo pos (starEach es X.env)).any (·.1) = false := by rfl)
    (hm : eval (.Call (.Attribute o m apos) (e :: es) [] pos) X.env = (do
      let ov ← eval o X.env
      standAt apos.atName
      let (f, first) ← holding [ov] (getMethod ov m pl)
      callWith pos f first (backTo pos (starEach (e :: es) X.env)) (backToKw pos (keywordEach [] X.env))) := by rfl) :
    PE X (.Call (.Attribute o m apos) (e :: es) [] pos) (fun σ H Q => ta σ H fun x H1 => x = .ref C ∧ t σ H1 fun vs H2 => sp (vs ++ []) H2 Q E) := by
  refine ⟨fun pins s σ H Q I h => ?_⟩
  refine PySem.W.methodCall_KW (thn (ho.run pins s σ H _ I h) fun u s1 z => ?_) hm
  obtain ⟨x, H1, I1, rx, rfl, q⟩ := z
  cases (show u = Value.ref C from rx)
  refine PySem.W.method_cls I1.kIn r.ga (ClX.getcval_ok I1 r (⟨c, rfl⟩ : ClX.CVal _ C mc m (.ref f) (.ref f)) fun s2 I2 => ?_)
  refine PySem.W.callWith_K I2.kIn kp (thn (ha.run pos pins s2 σ H1 _ I2 q) fun us s3 z => ?_) he hpl
  obtain ⟨vs, H2, I3, rv, q3⟩ := z
  exact ⟨I3.kIn, run_fn F hr hb .nil hx I3 rv q3⟩
theorem fnR_of' {P : Program} {w : World} {K : PySem.W.Frag} {mg : Str → Option Value} {base : Heap} {CX : CXT} {k : Nat} {f : Addr} {fd : FuncData} {ps : List Str} {sp : Sp} (F : FnOk P w K mg base CX k f fd ps sp) (hb : L2.Binds K fd ps []) : FnR P w K mg base CX k f sp := fun A outer s H us vs Q E hr e vl z => by
  have kin : K.In s.heap := PySem.W.Frag.In.keeps e.mod.kin (fun b o h => (e.bs b o h).1)
  have ln := F.len vs H Q E z
  have l2 : us.length = vs.length := vl.length.symm
  have b := hb s us kin (by rw [List.append_nil, l2, ln])
  rw [List.append_nil] at b
  exact F.run A outer s H _ us vs Q E hr e b vl z
/-- len(o), o an instance with its own __len__ -/
theorem call_lenOwn {X : Cx} {CX : CXT} {C g : Addr} {n : Nat} {sp : Sp} {E : XK} {fd : FuncData} {ps : List Str} (hs : PySem.W.findIn X.K (.ref C) "__len__" = some (some (.ref g))) (hf : PySem.W.isFn X.K (.ref g) = true)
    (F : FnOk X.prog X.w X.K X.mg X.base CX n g fd ps sp) (hb : L2.Binds X.K fd ps []) (hr : Room (n + 1) X.A) (hx : Passes CX X E) :
    CallR X (.builtin "len") (fun xs H Q => ∃ (a dx : Addr) (fs : List (Str × V)), xs = [.ref a] ∧ H a = some (.ins C dx fs) ∧ sp [.ref a] H (fun v H' => ∃ i : Int, v = .int i ∧ 0 ≤ i ∧ i < 2 ^ 63 ∧ Q (.int i) H') E) := by
  intro pins s σ H xs us Q I r h
  obtain ⟨a, dx, fs, rfl, ha, q⟩ := h
  obtain ⟨u, rfl, ru⟩ := Vals.one r
  cases (show u = Value.ref a from ru)
  obtain ⟨m, hfr⟩ := I.fr
  have ho := I.hok a _ ha
  unfold ObjOk at ho
  obtain ⟨h1, h2, h3, h4, mA, h5, _⟩ := ho
  obtain ⟨od, es, ep, hd, _⟩ := h5
  have J : PySem.W.InstAt s.heap a (PySem.W.instObj C dx) C (some od) := ⟨h4, rfl, rfl, hd⟩
  refine PySem.W.len_K hfr I.mod.kin J hs hf ?_
  refine wpAny_mono (wpAny_call (SlX.run_at (fnR_of' F hb) hr.in1 I.env0.in1 hx I (show Vals [V.ref a] [Value.ref a] from .cons rfl .nil) q)) (fun v s' z => ?_) (fun _ _ z => z)
  obtain ⟨x, H', I', rx, i, rfl, i0, i1, qi⟩ := z
  obtain ⟨t, rfl⟩ := rx
  exact ⟨⟨i0, i1⟩, .int i, H', I'.tok _, ⟨_, rfl⟩, qi⟩
end D0
namespace D0
open PySem PySem.Spec PyProof.Rows L2 SX NumText
theorem join_one (l : List Nat) : Txt.join (S []) (l.map fun c => S [c]) = S l := by
  have e : (l.map fun c => S [c]) = (l.map fun c => [c]).map S := by rw [List.map_map]; rfl
  rw [e, join_S]
  congr 1
  induction l with
  | nil => rfl
  | cons a t ih =>
    cases t with
    | nil => rfl
    | cons b r =>
      have ih := ih (by rw [List.map_map]; rfl)
      show [a] ++ ([] ++ TL.joinL [] ([b] :: r.map fun c => [c])) = a :: b :: r
      show a :: (TL.joinL [] ([b] :: r.map fun c => [c])) = a :: b :: r
      have ih' : TL.joinL [] ([b] :: r.map fun c => [c]) = b :: r := ih
      rw [ih']
/-- the signs of a text -/
def cs (z : Str) : List Nat := z.cps.toList
theorem S_cs (z : Str) : z = S (cs z) := by cases z; rfl
theorem Rep.sv {H : Hp} (z : Str) : Rep H (.str z) (.str (cs z)) := by
  have := Rep.str (H := H) (cs z)
  rwa [← S_cs] at this
def spWord : Sp := fun vs H Q _ => ∃ (b : Addr), vs = [.ref b] ∧ Bag H b ∧ ∀ l H', Stp b H H' → l.length ≤ 10 → Q (.str (S l)) H'
structure OthOk (l : List Nat) (ds : List D) : Prop where
  n1 : l ≠ wRef
  n2 : l ≠ wHandled
  n3 : l ≠ wPending
  dp : deps ds = 0
def spPlain : Sp := fun vs H Q _ => ∃ (b : Addr), vs = [.ref b] ∧ Bag H b ∧ ∀ v l ds H', Stp b H H' → OthOk l ds → Rep H' v (.tup (.str l :: ds)) → Q v H'
section
variable {P : Program} {w : World} {K : PySem.W.Frag} {mg : Str → Option Value} {base : Heap}
theorem at_str {z : Str} {i : Int} (h0 : 0 ≤ i) (h1 : i < z.length) : ∃ c, atI z.cps.toList i = some c := by
  have h2 : i < (z.cps.size : Nat) := h1
  obtain ⟨k, rfl⟩ : ∃ k : Nat, i = (k : Int) := ⟨i.toNat, by omega⟩
  exact ⟨_, atI_nat (List.getElem?_eq_getElem (by rw [Array.length_toList]; omega))⟩
theorem sum_ones : ∀ l : List Nat, ((l.map fun c => S [c]).map fun x => x.length).sum = l.length
  | [] => rfl
  | c :: l => by rw [List.map_cons, List.map_cons, List.sum_cons, sum_ones l, List.length_cons]; show 1 + _ = _; omega
theorem join_lim {l : List Nat} (h : l.length ≤ 100) : ((l.map fun c => S [c]).map fun x => x.length).sum + (l.map fun c => S [c]).length * (Str.ofString "").length ≤ 16777216 := by
  rw [sum_ones]
  have : (Str.ofString "").length = 0 := by decide
  rw [this]; omega
theorem ok__law_word (T : Txt K w mg) (O : OkD P w K mg base CX0 1 "_law_take" p__law_take spTake) : OkD P w K mg base CX0 2 "_law_word" p__law_word spWord := by
  refine T.g__law_word.ok sc__law_word (fun vs H Q E h => ?_) (fun f cdv A outer s H vs Q E hr h => ?_)
  · obtain ⟨b, rfl, _⟩ := h; rfl
  obtain ⟨b, rfl, hb, q⟩ := h
  refine ⟨_, (pss_cons (ps_if (pt_cmpR op_eq (pcall O hr (pa_cons (pv 0) (pa_cons pe_int pa_nil))) pe_int (nomark _)) (pss_cons (ps_set (i := 1) sc__law_word.nd rfl (.inl rfl) (pe_tup (pa_cons pe_str (pa_cons pe_str (pa_cons pe_str (pa_cons pe_str (pa_cons pe_str (pa_cons pe_str pa_nil))))))))
      (pss_one (ps_ret (pe_ix ix_tup (pv 1) (pcall O hr (pa_cons (pv 0) (pa_cons pe_int pa_nil))) (fun _ _ => rfl))))) pss_nil)
      (pss_cons (ps_set (i := 2) sc__law_word.nd rfl (.inr rfl) pe_str)
      (pss_cons (ps_set (i := 2) sc__law_word.nd rfl (.inr rfl) (pe_op op_add_str (pv 2) pe_str))
      (pss_one (ps_ret (pe_join pe_str (pe_lc (own := [("k", 3)]) (g := gName 3) (tt := tYes) rfl sc__law_word.nd (pi_range1 rfl T.z_range (pa_cons (pcall O hr (pa_cons (pv 0) (pa_cons pe_int pa_nil))) pa_nil)) (blkOk_by (own := [("k", 3)]) (N := n__law_word) (sc := defScope s__law_word) (by decide +kernel))
        (fun _ _ _ _ _ => (pg_name (i := 3) sc__law_word.nd rfl (Or.inl rfl))) (fun _ _ _ _ _ => pts_nil) (fun _ _ _ _ _ => (pe_ix ix_str (pv 2) (pcall O hr (pa_cons (pv 0) (pa_cons (pe_callB call_len_str (by rfl) T.z_len PySem.boot_len (pa_cons (pv 2) pa_nil)) pa_nil))) (fun _ _ => rfl)))))))))), ?_⟩
  refine ⟨_, rfl, b, 3, rfl, hb, by decide, by decide, fun r H1 r0 r1 x1 => ⟨rfl, _, rfl, ite2 (fun _ => ?_) (fun _ => ?_)⟩⟩
  · refine ⟨by show 6 ≤ sizeLine; decide, fun p hp => ?_⟩
    refine ⟨_, rfl, _, rfl, b, 6, rfl, x1.b1.same (same_new hp _), by decide, by decide, fun r2 H2 r20 r21 x2 => ?_⟩
    have ht := x2.tups p _ (upd_same (H := H1) (a := p))
    have fin := (x1.new hp).trans x2
    have big : ∀ z : Str, (cs z).length ≤ 10 → Q (.str z) H2 := fun z hz => by rw [S_cs z]; exact q _ _ fin hz
    rcases (by omega : r2 = 0 ∨ r2 = 1 ∨ r2 = 2 ∨ r2 = 3 ∨ r2 = 4 ∨ r2 = 5) with rfl | rfl | rfl | rfl | rfl | rfl
    all_goals exact ⟨p, _, _, _, rfl, rfl, SqT.of ht, rfl, big _ (by decide +kernel)⟩
  · refine ⟨_, rfl, _, _, rfl, rfl, by decide +kernel, ?_⟩
    generalize hz : (Str.ofString " !\"#$&'()*+,-./0123456789:;<=>?@ABCDEFGHIJKLMNOPQRSTUVWXYZ[\\]^_`") ++ (Str.ofString "abcdefghijklmnopqrstuvwxyz{|}~\n") = z
    have hz1 : z.length ≤ 1000 ∧ 0 < z.length := by rw [← hz]; decide +kernel
    have lim : (1000 : Nat) ≤ sizeLine := by decide
    refine ⟨⟨_, rfl⟩, _, rfl, b, 6, rfl, x1.b1, by decide, by decide, fun n H2 n0 n1 x2 => ?_⟩
    refine ⟨n, rfl, by omega, by omega, fun D1 hD1 => ?_⟩
    have nD : D1 ≠ b := x2.b1.ne hD1
    refine lc_it walk_range (fun i H' => Stp b H2 H' ∧ ∃ l : List Nat, l.length = i ∧ H' D1 = some (.lst (l.map fun c => .str (S [c])))) ⟨(Stp.refl x2.b1).new hD1, [], rfl, upd_same⟩ (fun _ _ _ _ => trivial) ?_ ?_
    · rintro i x H3 H4 hi ⟨x3, l, hl, hl1⟩ ⟨rfl, rfl⟩
      refine ⟨rfl, iteT (B := True) (iteT ?_)⟩
      refine ⟨_, rfl, _, rfl, _, rfl, z, rfl, by omega, b, _, rfl, x3.b1, by omega, by omega, fun r5 H5 r50 r51 x5 => ?_⟩
      obtain ⟨e, he⟩ := at_str (z := z) r50 r51
      refine ⟨z, r5, e, rfl, rfl, by omega, he, _, x5.keep _ _ nD hl1, by rw [List.length_map]; omega, (x3.trans x5).grow hD1 nD, l ++ [e], by simp [hl], ?_⟩
      rw [upd_same, List.map_append]; rfl
    · rintro H3 ⟨x3, l, hl, hl1⟩
      refine ⟨_, D1, l.map fun c => S [c], rfl, rfl, .inl (SqL.of (by rw [hl1, List.map_map]; rfl)), join_lim (by omega), ?_⟩
      · have e : Txt.join (Str.ofString "") (l.map fun c => S [c]) = S l := join_one l
        rw [e]; exact q _ _ (x1.trans (x2.trans x3)) (by omega)
theorem ok__law_name (T : Txt K w mg) (O : OkD P w K mg base CX0 1 "_law_take" p__law_take spTake) : OkD P w K mg base CX0 2 "_law_name" p__law_name spWord := by
  refine T.g__law_name.ok sc__law_name (fun vs H Q E h => ?_) (fun f cdv A outer s H vs Q E hr h => ?_)
  · obtain ⟨b, rfl, _⟩ := h; rfl
  obtain ⟨b, rfl, hb, q⟩ := h
  refine ⟨_, (pss_cons (ps_set (i := 1) sc__law_name.nd rfl (.inr rfl) pe_str)
      (pss_one (ps_ret (pe_join pe_str (pe_lc (own := [("k", 2)]) (g := gName 2) (tt := tYes) rfl sc__law_name.nd (pi_range1 rfl T.z_range (pa_cons (pe_op op_add pe_int (pcall O hr (pa_cons (pv 0) (pa_cons pe_int pa_nil)))) pa_nil)) (blkOk_by (own := [("k", 2)]) (N := n__law_name) (sc := defScope s__law_name) (by decide +kernel))
        (fun _ _ _ _ _ => (pg_name (i := 2) sc__law_name.nd rfl (Or.inl rfl))) (fun _ _ _ _ _ => pts_nil) (fun _ _ _ _ _ => (pe_ix ix_str (pv 1) (pcall O hr (pa_cons (pv 0) (pa_cons pe_int pa_nil))) (fun _ _ => rfl)))))))), ?_⟩
  generalize hz : (Str.ofString "abcdefghijklmnopqrstuvwxyz_") = z
  have hz1 : z.length = 27 := by rw [← hz]; decide +kernel
  have lim : (1000 : Nat) ≤ sizeLine := by decide
  refine ⟨⟨_, rfl⟩, _, rfl, b, 3, rfl, hb, by decide, by decide, fun n H2 n0 n1 x2 => ⟨_, _, rfl, rfl, ?_⟩⟩
  refine ⟨1 + n, rfl, by omega, by omega, fun D1 hD1 => ?_⟩
  have nD : D1 ≠ b := x2.b1.ne hD1
  refine lc_it walk_range (fun i H' => Stp b H2 H' ∧ ∃ l : List Nat, l.length = i ∧ H' D1 = some (.lst (l.map fun c => .str (S [c])))) ⟨(Stp.refl x2.b1).new hD1, [], rfl, upd_same⟩ (fun _ _ _ _ => trivial) ?_ ?_
  · rintro i x H3 H4 hi ⟨x3, l, hl, hl1⟩ ⟨rfl, rfl⟩
    refine ⟨rfl, iteT (B := True) (iteT ?_)⟩
    refine ⟨_, rfl, _, rfl, b, 27, rfl, x3.b1, by omega, by omega, fun r5 H5 r50 r51 x5 => ?_⟩
    obtain ⟨e, he⟩ := at_str (z := z) r50 (by omega)
    refine ⟨z, r5, e, rfl, rfl, by omega, he, _, x5.keep _ _ nD hl1, by rw [List.length_map]; omega, (x3.trans x5).grow hD1 nD, l ++ [e], by simp [hl], ?_⟩
    rw [upd_same, List.map_append]; rfl
  · rintro H3 ⟨x3, l, hl, hl1⟩
    refine ⟨_, D1, l.map fun c => S [c], rfl, rfl, .inl (SqL.of (by rw [hl1, List.map_map]; rfl)), join_lim (by omega), ?_⟩
    have e : Txt.join (Str.ofString "") (l.map fun c => S [c]) = S l := join_one l
    rw [e]; exact q _ _ (x2.trans x3) (by omega)
end
end D0
namespace D0
open PySem PySem.Spec PyProof.Rows L2 SX NumText
theorem wRef_e : wRef = cs (Str.ofString "ref") := by decide +kernel
theorem wHandled_e : wHandled = cs (Str.ofString "handled") := by decide +kernel
theorem wPending_e : wPending = cs (Str.ofString "pending") := by decide +kernel
theorem Rep.two {H : Hp} {a : Addr} {x y : V} {d e : D} (h : H a = some (.tup [x, y])) (r : Rep H x d) (s : Rep H y e) : Rep H (.ref a) (.tup [d, e]) := .tup h (by show 2 ≤ 2000; decide) (.cons r (.cons s .nil))
theorem Rep.one {H : Hp} {a : Addr} {x : V} {d : D} (h : H a = some (.tup [x])) (r : Rep H x d) : Rep H (.ref a) (.tup [d]) := .tup h (by show 1 ≤ 2000; decide) (.cons r .nil)
theorem Rep.three {H : Hp} {a : Addr} {x y z : V} {d e f : D} (h : H a = some (.tup [x, y, z])) (r : Rep H x d) (s : Rep H y e) (t : Rep H z f) : Rep H (.ref a) (.tup [d, e, f]) := .tup h (by show 3 ≤ 2000; decide) (.cons r (.cons s (.cons t .nil)))
theorem deps1 (d : D) : deps [d] = dep d := by unfold deps; unfold deps; omega
section
variable {P : Program} {w : World} {K : PySem.W.Frag} {mg : Str → Option Value} {base : Heap}
theorem ok__law_plain (T : Txt K w mg) (O : OkD P w K mg base CX0 1 "_law_take" p__law_take spTake) (Ow : OkD P w K mg base CX0 2 "_law_word" p__law_word spWord) : OkD P w K mg base CX0 3 "_law_plain" p__law_plain spPlain := by
  refine T.g__law_plain.ok sc__law_plain (fun vs H Q E h => ?_) (fun f cdv A outer s H vs Q E hr h => ?_)
  · obtain ⟨b, rfl, _⟩ := h; rfl
  obtain ⟨b, rfl, hb, q⟩ := h
  refine ⟨_, (pss_cons (ps_set (i := 1) sc__law_plain.nd rfl (.inl rfl) (pcall O hr (pa_cons (pv 0) (pa_cons pe_int pa_nil))))
      (pss_cons (ps_if (pt_cmpR op_lt (pv 1) pe_int (nomark _)) (pss_cons (ps_set (i := 2) sc__law_plain.nd rfl (.inl rfl) (pe_tup (pa_cons (pe_tup (pa_cons pe_str pa_nil)) (pa_cons (pe_tup (pa_cons pe_str (pa_cons pe_bl pa_nil))) (pa_cons (pe_tup (pa_cons pe_str (pa_cons pe_bl pa_nil))) pa_nil)))))
      (pss_one (ps_ret (pe_ix ix_tup (pv 2) (pv 1) (fun _ _ => rfl))))) pss_nil)
      (pss_cons (ps_if (pt_cmpR op_lt (pv 1) pe_int (nomark _)) (pss_one (ps_ret (pe_tup (pa_cons pe_str (pa_cons (pcall O hr (pa_cons (pv 0) (pa_cons pe_int pa_nil))) pa_nil))))) pss_nil)
      (pss_cons (ps_if (pt_cmpR op_eq (pv 1) pe_int (nomark _)) (pss_one (ps_ret (pe_tup (pa_cons pe_str (pa_cons (pe_op op_sub (pcall O hr (pa_cons (pv 0) (pa_cons pe_int pa_nil))) pe_int) pa_nil))))) pss_nil)
      (pss_cons (ps_if (pt_cmpR op_eq (pv 1) pe_int (nomark _)) (pss_one (ps_ret (pe_tup (pa_cons pe_str (pa_cons (pe_op op_mul (pe_op op_sub (pe_op op_sub (pe_op op_pow pe_int pe_int) pe_int) (pcall O hr (pa_cons (pv 0) (pa_cons pe_int pa_nil)))) (pe_op op_sub pe_int (pe_op op_mul pe_int (pcall O hr (pa_cons (pv 0) (pa_cons pe_int pa_nil)))))) pa_nil))))) pss_nil)
      (pss_cons (ps_if (pt_cmpR op_eq (pv 1) pe_int (nomark _)) (pss_cons (ps_set (i := 3) sc__law_plain.nd rfl (.inl rfl) (pe_tup (pa_cons pe_str (pa_cons pe_str (pa_cons pe_str pa_nil)))))
      (pss_one (ps_ret (pe_tup (pa_cons pe_str (pa_cons (pe_ix ix_tup (pv 3) (pcall O hr (pa_cons (pv 0) (pa_cons pe_int pa_nil))) (fun _ _ => rfl)) pa_nil)))))) pss_nil)
      (pss_cons (ps_if (pt_cmpR op_eq (pv 1) pe_int (nomark _)) (pss_cons (ps_set (i := 3) sc__law_plain.nd rfl (.inl rfl) (pe_tup (pa_cons pe_str (pa_cons pe_str (pa_cons pe_str pa_nil)))))
      (pss_one (ps_ret (pe_tup (pa_cons pe_str (pa_cons (pe_ix ix_tup (pv 3) (pcall O hr (pa_cons (pv 0) (pa_cons pe_int pa_nil))) (fun _ _ => rfl)) pa_nil)))))) pss_nil)
      (pss_one (ps_ret (pe_tup (pa_cons pe_str (pa_cons (pcall Ow hr (pa_cons (pv 0) pa_nil)) pa_nil)))))))))))), ?_⟩
  have two : 2 ≤ sizeLine := by decide
  have one : 1 ≤ sizeLine := by decide
  have three : 3 ≤ sizeLine := by decide
  refine ⟨_, rfl, b, 10, rfl, hb, by decide, by decide, fun way H1 r0 r1 x1 => ?_⟩
  -- a pair is told
  have pair : ∀ (H2 : Hp) (z : Str) (v : V) (d : D), Stp b H H2 → OthOk (cs z) [d] → Rep H2 v d → [V.str z, v].length ≤ sizeLine ∧ ∀ p, H2 p = none → Q (.ref p) (upd H2 p (.tup [.str z, v])) := fun H2 z v d x2 oo rv =>
    ⟨two, fun p hp => q _ _ _ _ (x2.new hp) oo (Rep.two upd_same (Rep.sv z) (rv.mono (.new hp)))⟩
  have oth : ∀ (z : String) (d : D), z = "number" ∨ z = "truth" ∨ z = "builtin" ∨ z = "errorclass" ∨ z = "text" → dep d = 0 → OthOk (cs (Str.ofString z)) [d] := fun z d hz hd =>
    ⟨by rw [wRef_e]; rcases hz with rfl | rfl | rfl | rfl | rfl <;> decide +kernel, by rw [wHandled_e]; rcases hz with rfl | rfl | rfl | rfl | rfl <;> decide +kernel, by rw [wPending_e]; rcases hz with rfl | rfl | rfl | rfl | rfl <;> decide +kernel, by rw [deps1]; exact hd⟩
  have dI : ∀ i, dep (.int i) = 0 := fun i => by unfold dep; rfl
  have dS : ∀ i, dep (.str i) = 0 := fun i => by unfold dep; rfl
  have dB : ∀ i, dep (.bl i) = 0 := fun i => by unfold dep; rfl
  refine ⟨_, rfl, _, _, rfl, rfl, _, rfl, ite2 (fun c => ?_) (fun _ => ?_)⟩
  · have c : way < 3 := of_decide_eq_true c
    refine ⟨one, fun p1 hp1 => ⟨two, fun p2 hp2 => ⟨two, fun p3 hp3 => ⟨three, fun p hp => ?_⟩⟩⟩⟩
    have n12 := Tups.new (o := HO.tup [V.str (Str.ofString "truth"), V.bl true]) hp2
    have n23 := Tups.new (o := HO.tup [V.str (Str.ofString "truth"), V.bl false]) hp3
    have n3 := Tups.new (o := HO.tup [V.ref p1, V.ref p2, V.ref p3]) hp
    have t1 := (n12.trans (n23.trans n3)) p1 _ upd_same
    have t2 := (n23.trans n3) p2 _ upd_same
    have t3 := n3 p3 _ upd_same
    have xs := (((x1.new hp1).new hp2).new hp3).new (o := HO.tup [V.ref p1, V.ref p2, V.ref p3]) hp
    refine ⟨_, rfl, _, rfl, ?_⟩
    rcases (by omega : way = 0 ∨ way = 1 ∨ way = 2) with rfl | rfl | rfl
    · refine ⟨p, _, _, _, rfl, rfl, SqT.of upd_same, rfl, q _ _ [] _ xs ⟨?_, ?_, ?_, by unfold deps; rfl⟩ (Rep.one t1 (Rep.sv _))⟩
      · rw [wRef_e]; decide +kernel
      · rw [wHandled_e]; decide +kernel
      · rw [wPending_e]; decide +kernel
    · exact ⟨p, _, _, _, rfl, rfl, SqT.of upd_same, rfl, q _ _ _ _ xs (oth "truth" _ (.inr (.inl rfl)) (dB _)) (Rep.two t2 (Rep.sv _) (.bl _))⟩
    · exact ⟨p, _, _, _, rfl, rfl, SqT.of upd_same, rfl, q _ _ _ _ xs (oth "truth" _ (.inr (.inl rfl)) (dB _)) (Rep.two t3 (Rep.sv _) (.bl _))⟩
  refine ⟨_, rfl, _, _, rfl, rfl, _, rfl, ite2 (fun c => ?_) (fun _ => ?_)⟩
  · refine ⟨_, rfl, b, 4, rfl, x1.b1, by decide, by decide, fun r H2 _ _ x2 => ?_⟩
    exact pair _ _ _ _ (x1.trans x2) (oth "number" _ (.inl rfl) (dI r)) (.int r)
  refine ⟨_, rfl, rfl, _, rfl, ite2 (fun c => ?_) (fun _ => ?_)⟩
  · refine ⟨_, rfl, b, 2001, rfl, x1.b1, by decide, by decide, fun r H2 _ _ x2 => ⟨_, _, rfl, rfl, ?_⟩⟩
    exact pair _ _ _ _ (x1.trans x2) (oth "number" _ (.inl rfl) (dI _)) (.int _)
  refine ⟨_, rfl, rfl, _, rfl, ite2 (fun c => ?_) (fun _ => ?_)⟩
  · refine ⟨_, _, rfl, rfl, ⟨by decide, by decide, by decide⟩, _, _, rfl, rfl, _, rfl, b, 3, rfl, x1.b1, by decide, by decide, fun r H2 _ _ x2 => ⟨_, _, rfl, rfl, ?_⟩⟩
    refine ⟨_, rfl, b, 2, rfl, x2.b1, by decide, by decide, fun r3 H3 r30 r31 x3 => ⟨_, _, rfl, rfl, .inl ⟨by decide, by decide⟩, _, _, rfl, rfl, _, _, rfl, rfl, .inr ⟨by omega, by omega⟩, ?_⟩⟩
    exact pair _ _ _ _ (x1.trans (x2.trans x3)) (oth "number" _ (.inl rfl) (dI _)) (.int _)
  refine ⟨_, rfl, rfl, _, rfl, ite2 (fun c => ?_) (fun _ => ?_)⟩
  · refine ⟨three, fun p hp => ⟨_, rfl, _, rfl, b, 3, rfl, (x1.new hp).b1, by decide, by decide, fun r H2 r0 r1 x2 => ?_⟩⟩
    have ht := x2.tups p _ upd_same
    have fin := (x1.new hp).trans x2
    rcases (by omega : r = 0 ∨ r = 1 ∨ r = 2) with rfl | rfl | rfl
    all_goals exact ⟨p, _, _, _, rfl, rfl, SqT.of ht, rfl, pair _ _ _ _ fin (oth "builtin" _ (.inr (.inr (.inl rfl))) (dS _)) (Rep.sv _)⟩
  refine ⟨_, rfl, rfl, _, rfl, ite2 (fun c => ?_) (fun _ => ?_)⟩
  · refine ⟨three, fun p hp => ⟨_, rfl, _, rfl, b, 3, rfl, (x1.new hp).b1, by decide, by decide, fun r H2 r0 r1 x2 => ?_⟩⟩
    have ht := x2.tups p _ upd_same
    have fin := (x1.new hp).trans x2
    rcases (by omega : r = 0 ∨ r = 1 ∨ r = 2) with rfl | rfl | rfl
    all_goals exact ⟨p, _, _, _, rfl, rfl, SqT.of ht, rfl, pair _ _ _ _ fin (oth "errorclass" _ (.inr (.inr (.inr (.inl rfl)))) (dS _)) (Rep.sv _)⟩
  · refine ⟨_, rfl, b, rfl, x1.b1, fun l H2 x2 _ => ?_⟩
    exact pair _ _ _ _ (x1.trans x2) (oth "text" _ (.inr (.inr (.inr (.inr rfl)))) (dS l)) (.str l)
end
end D0
namespace D0
open PySem PySem.Spec PyProof.Rows L2 SX NumText
def sRef : Str := "ref"
def sHandled : Str := "handled"
def sPending : Str := "pending"
theorem rep_ref {H : Hp} {f : Nat → Int} {a : Addr} {k : Nat} {i : Int} (h : H a = some (.tup [.str sRef, .int i])) (e : i = f k) : Rep H (.ref a) ((En.ref k).d f) := by
  subst e
  show Rep H (.ref a) (.tup [.str wRef, .int (f k)])
  rw [wRef_e]; exact Rep.two h (Rep.sv _) (.int _)
theorem rep_hand {H : Hp} {f : Nat → Int} {a : Addr} {k : Nat} {i : Int} (h : H a = some (.tup [.str sHandled, .int i])) (e : i = f k) : Rep H (.ref a) ((En.hand k).d f) := by
  subst e
  show Rep H (.ref a) (.tup [.str wHandled, .int (f k)])
  rw [wHandled_e]; exact Rep.two h (Rep.sv _) (.int _)
theorem rep_pend {H : Hp} {f : Nat → Int} {a : Addr} {i : Int} {v : V} {e : En} (h : H a = some (.tup [.str sPending, .int i, v])) (r : Rep H v (e.d f)) : Rep H (.ref a) ((Ent.pend i e).d f) := by
  show Rep H (.ref a) (.tup [.str wPending, .int i, e.d f])
  rw [wPending_e]; exact Rep.three h (Rep.sv _) (.int _) r
/-- the kinds -/
def KS : List Str := ["list", "tuple", "dict", "cell", "function", "method", "class", "instance", "iterator", "generator"]
def KX : List Str := ["generator", "generator", "instance", "instance"]
theorem kx_in : ∀ z ∈ KS ++ KX, z ∈ KS := by decide +kernel
def spKinds : Sp := fun vs H Q _ => vs = [] ∧ ∀ p H', Same H H' → H' p = some (.tup (KS.map V.str)) → Q (.ref p) H'
def spKind : Sp := fun vs H Q _ => ∃ (b : Addr), vs = [.ref b] ∧ Bag H b ∧ ∀ z H', Stp b H H' → z ∈ KS → Q (.str z) H'
def spMarks : Sp := fun vs H Q _ => ∃ (z : Str), vs = [.str z] ∧ ∀ i, Q (.int i) H
/-- a list of places below m -/
def Pool (H : Hp) (b pl : Addr) (m : Nat → Prop) : Prop := pl ≠ b ∧ ∃ ks : List Nat, H pl = some (.lst (ks.map fun k => .int (k : Nat))) ∧ (∀ k ∈ ks, m k) ∧ ks.length ≤ 1000
theorem Pool.stp {H H' : Hp} {b pl : Addr} {m : Nat → Prop} (x : Pool H b pl m) (s : Stp b H H') : Pool H' b pl m := by
  obtain ⟨n, ks, h, u⟩ := x
  exact ⟨n, ks, s.keep _ _ n h, u⟩
def spPending : Sp := fun vs H Q _ => ∃ (b pl er : Addr) (m : Nat → Prop), vs = [.ref b, .ref pl, .ref er] ∧ Bag H b ∧ Pool H b pl m ∧ Pool H b er m ∧ ∀ v (e : Ent) H', Stp b H H' → e.okP m → Rep H' v (e.d ixD) → Q v H'
def spMarked : Sp := fun vs H Q _ => ∃ (b pl er : Addr) (m : Nat → Prop) (i : Int), vs = [.ref b, .ref pl, .ref er, .int i] ∧ Bag H b ∧ Pool H b pl m ∧ Pool H b er m ∧ ∀ v (e : Ent) H', Stp b H H' → e.okP m → Rep H' v (e.d ixD) → Q v H'
theorem via2 {B G : Prop} (h : B → G) (b : B) : G := h b
section
variable {P : Program} {w : World} {K : PySem.W.Frag} {mg : Str → Option Value} {base : Heap}
theorem ok__law_kinds (T : Txt K w mg) : OkD P w K mg base CX0 1 "_law_kinds" p__law_kinds spKinds := by
  refine T.g__law_kinds.ok sc__law_kinds (fun vs H Q E h => ?_) (fun f cdv A outer s H vs Q E hr h => ?_)
  · obtain ⟨rfl, _⟩ := h; rfl
  obtain ⟨rfl, q⟩ := h
  refine ⟨_, (pss_cons (ps_set (i := 0) sc__law_kinds.nd rfl (.inl rfl) (pe_tup (pa_cons pe_str (pa_cons pe_str (pa_cons pe_str (pa_cons pe_str (pa_cons pe_str pa_nil)))))))
      (pss_one (ps_ret (pe_op op_catT (pv 0) (pe_tup (pa_cons pe_str (pa_cons pe_str (pa_cons pe_str (pa_cons pe_str (pa_cons pe_str pa_nil)))))))))), ?_⟩
  refine ⟨by show 5 ≤ sizeLine; decide, fun p hp => ⟨_, rfl, by show 5 ≤ sizeLine; decide, fun p2 hp2 => ?_⟩⟩
  refine ⟨p, p2, _, _, rfl, rfl, SqT.of (same_new hp2 _ _ _ upd_same), SqT.of upd_same, (by intro z; cases z), (by show 10 ≤ sizeLine; decide), (fun z => by cases z), fun _ p3 hp3 => ?_⟩
  exact q p3 _ ((same_new hp _).trans ((same_new hp2 _).trans (same_new hp3 _))) upd_same
theorem ok__law_kind (T : Txt K w mg) (O : OkD P w K mg base CX0 1 "_law_take" p__law_take spTake) (Ok : OkD P w K mg base CX0 1 "_law_kinds" p__law_kinds spKinds) : OkD P w K mg base CX0 2 "_law_kind" p__law_kind spKind := by
  refine T.g__law_kind.ok sc__law_kind (fun vs H Q E h => ?_) (fun f cdv A outer s H vs Q E hr h => ?_)
  · obtain ⟨b, rfl, _⟩ := h; rfl
  obtain ⟨b, rfl, hb, q⟩ := h
  refine ⟨_, (pss_cons (ps_set (i := 1) sc__law_kind.nd rfl (.inl rfl) (pe_op op_catT (pcall0 Ok hr) (pe_tup (pa_cons pe_str (pa_cons pe_str (pa_cons pe_str (pa_cons pe_str pa_nil)))))))
      (pss_one (ps_ret (pe_ix ix_tup (pv 1) (pcall O hr (pa_cons (pv 0) (pa_cons pe_int pa_nil))) (fun _ _ => rfl))))), ?_⟩
  refine ⟨rfl, fun p H1 s1 h1 => ⟨by show 4 ≤ sizeLine; decide, fun p2 hp2 => ?_⟩⟩
  refine ⟨p, p2, _, _, rfl, rfl, SqT.of (same_new hp2 _ _ _ h1), SqT.of upd_same, (by intro z; cases z), (by show 14 ≤ sizeLine; decide), (fun z => by cases z), fun _ p3 hp3 => ?_⟩
  have st : Stp b H _ := (Stp.same hb s1).trans (.same (hb.same s1) ((same_new hp2 (.tup (KX.map V.str))).trans (same_new hp3 (.tup ((KS ++ KX).map V.str)))))
  refine ⟨_, rfl, _, rfl, b, 14, rfl, st.b1, by decide, by decide, fun r H2 r0 r1 x2 => ?_⟩
  obtain ⟨k, rfl⟩ : ∃ k : Nat, r = (k : Int) := ⟨r.toNat, by omega⟩
  have hk : k < (KS ++ KX).length := by show k < 14; omega
  refine ⟨p3, _, _, .str (KS ++ KX)[k], rfl, rfl, SqT.of (x2.tups p3 ((KS ++ KX).map V.str) upd_same), atI_nat (by rw [List.getElem?_map, List.getElem?_eq_getElem hk]; rfl), ?_⟩
  exact q _ _ (st.trans x2) (kx_in _ (List.getElem_mem hk))
theorem ok__law_marks (T : Txt K w mg) : OkD P w K mg base CX0 1 "_law_marks" p__law_marks spMarks := by
  refine T.g__law_marks.ok sc__law_marks (fun vs H Q E h => ?_) (fun f cdv A outer s H vs Q E hr h => ?_)
  · obtain ⟨z, rfl, _⟩ := h; rfl
  obtain ⟨z, rfl, q⟩ := h
  refine ⟨_, (pss_one (ps_ret (pe_op op_add (pe_op op_mul pe_int (pe_callTy call_int1 (by rfl) T.z_int PyProof.Rows.boot_int (pa_cons (pe_cmpR op_eq (pv 0) pe_str (nomark _)) pa_nil))) (pe_callTy call_int1 (by rfl) T.z_int PyProof.Rows.boot_int (pa_cons (pe_cmpR op_eq (pv 0) pe_str (nomark _)) pa_nil))))), ?_⟩
  refine ⟨_, rfl, rfl, .inr ⟨_, rfl, _, _, rfl, rfl, .inl ⟨by decide, by decide⟩, _, rfl, rfl, .inr ⟨_, rfl, _, _, rfl, rfl, q _⟩⟩⟩
theorem ok__law_pending (T : Txt K w mg) (O : OkD P w K mg base CX0 1 "_law_take" p__law_take spTake) (Op : OkD P w K mg base CX0 3 "_law_plain" p__law_plain spPlain) : OkD P w K mg base CX0 4 "_law_pending" p__law_pending spPending := by
  refine T.g__law_pending.ok sc__law_pending (fun vs H Q E h => ?_) (fun f cdv A outer s H vs Q E hr h => ?_)
  · obtain ⟨b, pl, er, m, rfl, _⟩ := h; rfl
  obtain ⟨b, pl, er, m, rfl, hb, hp, he, q⟩ := h
  refine ⟨_, (pss_cons (ps_set (i := 3) sc__law_pending.nd rfl (.inl rfl) (pcall O hr (pa_cons (pv 0) (pa_cons pe_int pa_nil))))
      (pss_cons (ps_if (PW.pt (pw_and (pt_cmpR op_lt (pv 3) pe_int (nomark _)) (pw_and1 (pt_truth (pv 2) (by intro _; rfl))))) (pss_one (ps_ret (pe_tup (pa_cons pe_str (pa_cons pe_int (pa_cons (pe_tup (pa_cons pe_str (pa_cons (pe_ix ix_list (pv 2) (pcall O hr (pa_cons (pv 0) (pa_cons (pe_callB call_len_seq (by rfl) T.z_len PySem.boot_len (pa_cons (pv 2) pa_nil)) pa_nil))) (fun _ _ => rfl)) pa_nil))) pa_nil)))))) pss_nil)
      (pss_cons (ps_if (PW.pt (pw_and (pt_cmpR op_lt (pv 3) pe_int (nomark _)) (pw_and1 (pt_truth (pv 1) (by intro _; rfl))))) (pss_one (ps_ret (pe_tup (pa_cons pe_str (pa_cons pe_int (pa_cons (pe_tup (pa_cons pe_str (pa_cons (pe_ix ix_list (pv 1) (pcall O hr (pa_cons (pv 0) (pa_cons (pe_callB call_len_seq (by rfl) T.z_len PySem.boot_len (pa_cons (pv 1) pa_nil)) pa_nil))) (fun _ _ => rfl)) pa_nil))) pa_nil)))))) pss_nil)
      (pss_cons (ps_if (pt_cmpR op_eq (pv 3) pe_int (nomark _)) (pss_one (ps_ret (pe_tup (pa_cons pe_str (pa_cons pe_int (pa_cons (pcall Op hr (pa_cons (pv 0) pa_nil)) pa_nil)))))) pss_nil)
      (pss_cons (ps_set (i := 4) sc__law_pending.nd rfl (.inl rfl) (pe_tup (pa_cons pe_int (pa_cons pe_int (pa_cons pe_int (pa_cons pe_int (pa_cons pe_int (pa_cons pe_int (pa_cons pe_int (pa_cons pe_int pa_nil))))))))))
      (pss_one (ps_ret (pe_tup (pa_cons pe_str (pa_cons (pe_ix ix_tup (pv 4) (pv 3) (fun _ _ => rfl)) (pa_cons (pe_tup (pa_cons pe_str pa_nil)) pa_nil))))))))))), ?_⟩
  have two : 2 ≤ sizeLine := by decide
  have one : 1 ≤ sizeLine := by decide
  have three : 3 ≤ sizeLine := by decide
  refine ⟨_, rfl, b, 8, rfl, hb, by decide, by decide, fun way H1 r0 r1 x1 => ?_⟩
  have pend : ∀ (H2 : Hp) (i : Int) (v : V) (e : En), Stp b H H2 → e.okP m → Rep H2 v (e.d ixD) → [V.str sPending, .int i, v].length ≤ sizeLine ∧ ∀ p, H2 p = none → Q (.ref p) (upd H2 p (.tup [.str sPending, .int i, v])) := fun H2 i v e x2 oo rv =>
    ⟨three, fun p hp => q _ (.pend i e) _ (x2.new hp) oo (rep_pend upd_same (rv.mono (.new hp)))⟩
  obtain ⟨np, ps, hp1, hpm, hpl⟩ := hp.stp x1
  obtain ⟨ne, es, he1, hem, hel⟩ := he.stp x1
  have lim : (1000 : Nat) ≤ sizeLine := by decide
  have bl : ∀ (l : List Nat), l.length ≤ 1000 → ((l.map fun k => V.int (k : Nat)).length : Int) < 1000000000 := fun l h => by rw [List.length_map]; omega
  refine via2 (fun hB => ⟨_, rfl, _, _, rfl, rfl, _, rfl, ite2 (fun c => ⟨_, rfl, _, .inl ⟨_, SqL.of he1, rfl⟩, ite2 (fun k => ?_) (fun _ => hB)⟩) (fun _ => hB)⟩) ?_
  · have k0 : 0 < es.length := by cases es with | nil => exact absurd k (by decide) | cons => simp
    refine ⟨_, rfl, _, rfl, _, rfl, er, _, rfl, .inl (SqL.of he1), b, _, rfl, x1.b1, (by rw [List.length_map]; omega), bl es hel, fun r H2 r20 r21 x2 => ?_⟩
    rw [List.length_map] at r21
    obtain ⟨j, rfl⟩ : ∃ j : Nat, r = (j : Int) := ⟨r.toNat, by omega⟩
    have hj : j < es.length := by omega
    refine ⟨er, _, _, .int (es[j] : Nat), rfl, rfl, SqL.of (x2.keep _ _ ne he1), atI_nat (by rw [List.getElem?_map, List.getElem?_eq_getElem hj]; rfl), two, fun p hp => ?_⟩
    exact pend _ 4 _ (.hand es[j]) ((x1.trans x2).new hp) (hem _ (List.getElem_mem hj)) (rep_hand upd_same rfl)
  refine via2 (fun hB => ⟨_, rfl, _, _, rfl, rfl, _, rfl, ite2 (fun c => ⟨_, rfl, _, .inl ⟨_, SqL.of hp1, rfl⟩, ite2 (fun k => ?_) (fun _ => hB)⟩) (fun _ => hB)⟩) ?_
  · have k0 : 0 < ps.length := by cases ps with | nil => exact absurd k (by decide) | cons => simp
    refine ⟨_, rfl, _, rfl, _, rfl, pl, _, rfl, .inl (SqL.of hp1), b, _, rfl, x1.b1, (by rw [List.length_map]; omega), bl ps hpl, fun r H2 r20 r21 x2 => ?_⟩
    rw [List.length_map] at r21
    obtain ⟨j, rfl⟩ : ∃ j : Nat, r = (j : Int) := ⟨r.toNat, by omega⟩
    have hj : j < ps.length := by omega
    refine ⟨pl, _, _, .int (ps[j] : Nat), rfl, rfl, SqL.of (x2.keep _ _ np hp1), atI_nat (by rw [List.getElem?_map, List.getElem?_eq_getElem hj]; rfl), two, fun p hp => ?_⟩
    exact pend _ 1 _ (.ref ps[j]) ((x1.trans x2).new hp) (hpm _ (List.getElem_mem hj)) (rep_ref upd_same rfl)
  refine ⟨_, rfl, rfl, _, rfl, ite2 (fun c => ?_) (fun _ => ?_)⟩
  · refine ⟨_, rfl, b, rfl, x1.b1, fun v l ds H2 x2 oo rv => ?_⟩
    exact pend _ 1 _ (.oth l ds) (x1.trans x2) ⟨oo.n1, oo.n2, oo.n3, oo.dp⟩ rv
  · refine ⟨by show 8 ≤ sizeLine; decide, fun p hp => ?_⟩
    have fin : ∀ (i : Int), [V.str (Str.ofString "none")].length ≤ sizeLine ∧ ∀ p2, upd H1 p (.tup [V.int 0, .int 2, .int 3, .int 0, .int 2, .int 3, .int 0, .int 2]) p2 = none → _ := fun i => ⟨one, fun p2 hp2 => pend _ i _ (.oth (cs (Str.ofString "none")) []) ((x1.new hp).new hp2) ⟨by rw [wRef_e]; decide +kernel, by rw [wHandled_e]; decide +kernel, by rw [wPending_e]; decide +kernel, by unfold deps; rfl⟩ (Rep.one upd_same (Rep.sv _))⟩
    refine ⟨_, rfl, _, rfl, ?_⟩
    rcases (by omega : way = 0 ∨ way = 1 ∨ way = 2 ∨ way = 3 ∨ way = 4 ∨ way = 5 ∨ way = 6 ∨ way = 7) with rfl | rfl | rfl | rfl | rfl | rfl | rfl | rfl
    all_goals exact ⟨p, _, _, _, rfl, rfl, SqT.of upd_same, rfl, fin _⟩
theorem ok__law_marked (T : Txt K w mg) (O : OkD P w K mg base CX0 1 "_law_take" p__law_take spTake) (Op : OkD P w K mg base CX0 3 "_law_plain" p__law_plain spPlain) (On : OkD P w K mg base CX0 4 "_law_pending" p__law_pending spPending) : OkD P w K mg base CX0 5 "_law_marked" p__law_marked spMarked := by
  refine T.g__law_marked.ok sc__law_marked (fun vs H Q E h => ?_) (fun f cdv A outer s H vs Q E hr h => ?_)
  · obtain ⟨b, pl, er, m, i, rfl, _⟩ := h; rfl
  obtain ⟨b, pl, er, m, way, rfl, hb, hp, he, q⟩ := h
  refine ⟨_, (pss_cons (ps_if (PW.pt (pw_and (pt_truth (pv 2) (by intro _; rfl)) (pw_and1 (pt_cmpR op_lt (pv 3) pe_int (nomark _))))) (pss_one (ps_ret (pe_tup (pa_cons pe_str (pa_cons (pe_ix ix_list (pv 2) (pcall O hr (pa_cons (pv 0) (pa_cons (pe_callB call_len_seq (by rfl) T.z_len PySem.boot_len (pa_cons (pv 2) pa_nil)) pa_nil))) (fun _ _ => rfl)) pa_nil))))) pss_nil)
      (pss_cons (ps_if (pt_cmpR op_lt (pv 3) pe_int (nomark _)) (pss_one (ps_ret (pcall On hr (pa_cons (pv 0) (pa_cons (pv 1) (pa_cons (pv 2) pa_nil)))))) pss_nil)
      (pss_cons (ps_if (pt_cmpR op_eq (pv 3) pe_int (nomark _)) (pss_one (ps_ret (pe_tup (pa_cons pe_str pa_nil)))) pss_nil)
      (pss_cons (ps_if (PW.pt (pw_and (pt_truth (pv 1) (by intro _; rfl)) (pw_and1 (pt_cmpR op_lt (pv 3) pe_int (nomark _))))) (pss_one (ps_ret (pe_tup (pa_cons pe_str (pa_cons (pe_ix ix_list (pv 1) (pcall O hr (pa_cons (pv 0) (pa_cons (pe_callB call_len_seq (by rfl) T.z_len PySem.boot_len (pa_cons (pv 1) pa_nil)) pa_nil))) (fun _ _ => rfl)) pa_nil))))) pss_nil)
      (pss_one (ps_ret (pcall Op hr (pa_cons (pv 0) pa_nil)))))))), ?_⟩
  have two : 2 ≤ sizeLine := by decide
  have one : 1 ≤ sizeLine := by decide
  obtain ⟨np, ps, hp1, hpm, hpl⟩ := id hp
  obtain ⟨ne, es, he1, hem, hel⟩ := id he
  have bl : ∀ (l : List Nat), l.length ≤ 1000 → ((l.map fun k => V.int (k : Nat)).length : Int) < 1000000000 := fun l h => by rw [List.length_map]; omega
  refine via2 (fun hB => ⟨_, rfl, _, .inl ⟨_, SqL.of he1, rfl⟩, ite2 (fun k => ⟨_, rfl, _, _, rfl, rfl, _, rfl, ite2 (fun c => ?_) (fun _ => hB)⟩) (fun _ => hB)⟩) ?_
  · have k0 : 0 < es.length := by cases es with | nil => exact absurd k (by decide) | cons => simp
    refine ⟨_, rfl, _, rfl, _, rfl, er, _, rfl, .inl (SqL.of he1), b, _, rfl, hb, (by rw [List.length_map]; omega), bl es hel, fun r H2 r20 r21 x2 => ?_⟩
    rw [List.length_map] at r21
    obtain ⟨j, rfl⟩ : ∃ j : Nat, r = (j : Int) := ⟨r.toNat, by omega⟩
    have hj : j < es.length := by omega
    refine ⟨er, _, _, .int (es[j] : Nat), rfl, rfl, SqL.of (x2.keep _ _ ne he1), atI_nat (by rw [List.getElem?_map, List.getElem?_eq_getElem hj]; rfl), two, fun p hp => ?_⟩
    exact q _ (.pl (.hand es[j])) _ (x2.new hp) (hem _ (List.getElem_mem hj)) (rep_hand upd_same rfl)
  refine ⟨_, rfl, _, _, rfl, rfl, _, rfl, ite2 (fun c => ?_) (fun _ => ?_)⟩
  · exact ⟨_, rfl, _, rfl, _, rfl, b, pl, er, m, rfl, hb, hp, he, q⟩
  refine ⟨_, rfl, rfl, _, rfl, ite2 (fun c => ?_) (fun _ => ?_)⟩
  · refine ⟨one, fun p hp => ?_⟩
    exact q _ (.pl (.oth (cs (Str.ofString "unset")) [])) _ ((Stp.refl hb).new hp) ⟨by rw [wRef_e]; decide +kernel, by rw [wHandled_e]; decide +kernel, by rw [wPending_e]; decide +kernel, by unfold deps; rfl⟩ (Rep.one upd_same (Rep.sv _))
  refine via2 (fun hB => ⟨_, rfl, _, .inl ⟨_, SqL.of hp1, rfl⟩, ite2 (fun k => ⟨_, rfl, _, _, rfl, rfl, _, rfl, ite2 (fun c => ?_) (fun _ => hB)⟩) (fun _ => hB)⟩) ?_
  · have k0 : 0 < ps.length := by cases ps with | nil => exact absurd k (by decide) | cons => simp
    refine ⟨_, rfl, _, rfl, _, rfl, pl, _, rfl, .inl (SqL.of hp1), b, _, rfl, hb, (by rw [List.length_map]; omega), bl ps hpl, fun r H2 r20 r21 x2 => ?_⟩
    rw [List.length_map] at r21
    obtain ⟨j, rfl⟩ : ∃ j : Nat, r = (j : Int) := ⟨r.toNat, by omega⟩
    have hj : j < ps.length := by omega
    refine ⟨pl, _, _, .int (ps[j] : Nat), rfl, rfl, SqL.of (x2.keep _ _ np hp1), atI_nat (by rw [List.getElem?_map, List.getElem?_eq_getElem hj]; rfl), two, fun p hp => ?_⟩
    exact q _ (.pl (.ref ps[j])) _ (x2.new hp) (hpm _ (List.getElem_mem hj)) (rep_ref upd_same rfl)
  · refine ⟨_, rfl, b, rfl, hb, fun v l ds H2 x2 oo rv => ?_⟩
    exact q _ (.pl (.oth l ds)) _ x2 ⟨oo.n1, oo.n2, oo.n3, oo.dp⟩ rv
theorem ok__law_entry (T : Txt K w mg) (O : OkD P w K mg base CX0 1 "_law_take" p__law_take spTake) (Op : OkD P w K mg base CX0 3 "_law_plain" p__law_plain spPlain) (On : OkD P w K mg base CX0 5 "_law_marked" p__law_marked spMarked) : OkD P w K mg base CX0 6 "_law_entry" p__law_entry spMarked := by
  refine T.g__law_entry.ok sc__law_entry (fun vs H Q E h => ?_) (fun f cdv A outer s H vs Q E hr h => ?_)
  · obtain ⟨b, pl, er, m, i, rfl, _⟩ := h; rfl
  obtain ⟨b, pl, er, m, mk, rfl, hb, hp, he, q⟩ := h
  refine ⟨_, (pss_cons (ps_set (i := 4) sc__law_entry.nd rfl (.inl rfl) (pcall O hr (pa_cons (pv 0) (pa_cons pe_int pa_nil))))
      (pss_cons (ps_if (pt_cmpR op_gt (pv 3) pe_int (nomark _)) (pss_one (ps_ret (pcall On hr (pa_cons (pv 0) (pa_cons (pv 1) (pa_cons (pv 2) (pa_cons (pv 4) pa_nil))))))) pss_nil)
      (pss_cons (ps_if (PW.pt (pw_and (pt_truth (pv 1) (by intro _; rfl)) (pw_and1 (pt_cmpR op_lt (pv 4) pe_int (nomark _))))) (pss_one (ps_ret (pe_tup (pa_cons pe_str (pa_cons (pe_ix ix_list (pv 1) (pcall O hr (pa_cons (pv 0) (pa_cons (pe_callB call_len_seq (by rfl) T.z_len PySem.boot_len (pa_cons (pv 1) pa_nil)) pa_nil))) (fun _ _ => rfl)) pa_nil))))) pss_nil)
      (pss_cons (ps_if (PW.pt (pw_and (pt_cmpR op_gt (pv 3) pe_int (nomark _)) (pw_and1 (pt_cmpR op_eq (pv 4) pe_int (nomark _))))) (pss_one (ps_ret (pe_tup (pa_cons pe_str pa_nil)))) pss_nil)
      (pss_one (ps_ret (pcall Op hr (pa_cons (pv 0) pa_nil)))))))), ?_⟩
  have two : 2 ≤ sizeLine := by decide
  have one : 1 ≤ sizeLine := by decide
  refine ⟨_, rfl, b, 10, rfl, hb, by decide, by decide, fun way H1 r0 r1 x1 => ?_⟩
  have hp' := hp.stp x1
  have he' := he.stp x1
  obtain ⟨np, ps, hp1, hpm, hpl⟩ := id hp'
  have bl : ∀ (l : List Nat), l.length ≤ 1000 → ((l.map fun k => V.int (k : Nat)).length : Int) < 1000000000 := fun l h => by rw [List.length_map]; omega
  refine ⟨_, rfl, _, _, rfl, rfl, _, rfl, ite2 (fun c => ?_) (fun _ => ?_)⟩
  · exact ⟨_, rfl, _, rfl, _, rfl, _, rfl, b, pl, er, m, way, rfl, x1.b1, hp', he', fun v e H2 x2 => q v e H2 (x1.trans x2)⟩
  refine via2 (fun hB => ⟨_, rfl, _, .inl ⟨_, SqL.of hp1, rfl⟩, ite2 (fun k => ⟨_, rfl, _, _, rfl, rfl, _, rfl, ite2 (fun c => ?_) (fun _ => hB)⟩) (fun _ => hB)⟩) ?_
  · have k0 : 0 < ps.length := by cases ps with | nil => exact absurd k (by decide) | cons => simp
    refine ⟨_, rfl, _, rfl, _, rfl, pl, _, rfl, .inl (SqL.of hp1), b, _, rfl, x1.b1, (by rw [List.length_map]; omega), bl ps hpl, fun r H2 r20 r21 x2 => ?_⟩
    rw [List.length_map] at r21
    obtain ⟨j, rfl⟩ : ∃ j : Nat, r = (j : Int) := ⟨r.toNat, by omega⟩
    have hj : j < ps.length := by omega
    refine ⟨pl, _, _, .int (ps[j] : Nat), rfl, rfl, SqL.of (x2.keep _ _ np hp1), atI_nat (by rw [List.getElem?_map, List.getElem?_eq_getElem hj]; rfl), two, fun p hp => ?_⟩
    exact q _ (.pl (.ref ps[j])) _ ((x1.trans x2).new hp) (hpm _ (List.getElem_mem hj)) (rep_ref upd_same rfl)
  refine via2 (fun hB => ⟨_, rfl, _, _, rfl, rfl, _, rfl, ite2 (fun k => ⟨_, rfl, rfl, _, rfl, ite2 (fun c => ?_) (fun _ => hB)⟩) (fun _ => hB)⟩) ?_
  · refine ⟨one, fun p hp => ?_⟩
    exact q _ (.pl (.oth (cs (Str.ofString "unset")) [])) _ (x1.new hp) ⟨by rw [wRef_e]; decide +kernel, by rw [wHandled_e]; decide +kernel, by rw [wPending_e]; decide +kernel, by unfold deps; rfl⟩ (Rep.one upd_same (Rep.sv _))
  · refine ⟨_, rfl, b, rfl, x1.b1, fun v l ds H2 x2 oo rv => ?_⟩
    exact q _ (.pl (.oth l ds)) _ (x1.trans x2) ⟨oo.n1, oo.n2, oo.n3, oo.dp⟩ rv
end
end D0
namespace D0
open PySem PySem.Spec PyProof.Rows L2 SX NumText
theorem str_small : ∀ k : Nat, k ≤ 100 → (Str.ofString (toString ((k : Nat) : Int))).length ≤ 5 := by
  have h : ∀ k : Fin 101, (Str.ofString (toString ((k.1 : Nat) : Int))).length ≤ 5 := by decide +kernel
  exact fun k hk => h ⟨k, by omega⟩
def spTag : Sp := fun vs H Q _ => ∃ (b : Addr) (z : Str) (n : Nat), vs = [.ref b, .str z, .int n] ∧ Bag H b ∧ n ≤ 100 ∧ ∀ v d H', Stp b H H' → Rep H' v d → dep d ≤ 3 → Q v H'
theorem reps_strs {H : Hp} : ∀ zs : List Str, Reps H (zs.map V.str) (zs.map fun z => .str (cs z))
  | [] => .nil
  | z :: zs => .cons (Rep.sv z) (reps_strs zs)
theorem deps_strs (zs : List Str) : deps (zs.map fun z => .str (cs z)) ≤ 0 := deps_of fun d hd => by
  obtain ⟨z, _, rfl⟩ := List.mem_map.mp hd
  unfold dep; exact Nat.le_refl _
section
variable {P : Program} {w : World} {K : PySem.W.Frag} {mg : Str → Option Value} {base : Heap}
theorem ok__law_tag (T : Txt K w mg) (O : OkD P w K mg base CX0 1 "_law_take" p__law_take spTake) (On : OkD P w K mg base CX0 2 "_law_name" p__law_name spWord) : OkD P w K mg base CX0 3 "_law_tag" p__law_tag spTag := by
  refine T.g__law_tag.ok sc__law_tag (fun vs H Q E h => ?_) (fun f cdv A outer s H vs Q E hr h => ?_)
  · obtain ⟨b, z, n, rfl, _⟩ := h; rfl
  obtain ⟨b, z, n, rfl, hb, hn, q⟩ := h
  refine ⟨_, (pss_cons (ps_if (pt_cmpR op_in_seq (pv 1) (pe_tup (pa_cons pe_str (pa_cons pe_str (pa_cons pe_str (pa_cons pe_str pa_nil))))) (by rfl)) (pss_one (ps_ret pe_non)) pss_nil)
      (pss_cons (ps_set (i := 3) sc__law_tag.nd rfl (.inr rfl) (pcall On hr (pa_cons (pv 0) pa_nil)))
      (pss_cons (ps_if (pt_cmpR op_eq (pv 1) pe_str (nomark _)) (pss_one (ps_ret (pe_tup (pa_cons (pcall O hr (pa_cons (pv 0) (pa_cons pe_int pa_nil))) (pa_cons (pv 3) pa_nil))))) pss_nil)
      (pss_cons (ps_if (pt_cmpR op_eq (pv 1) pe_str (nomark _)) (pss_one (ps_ret (pv 3))) pss_nil)
      (pss_cons (ps_if (pt_cmpR op_eq (pv 1) pe_str (nomark _)) (pss_one (ps_ret (pe_tup (pa_cons (pe_op op_sub (pcall O hr (pa_cons (pv 0) (pa_cons pe_int pa_nil))) pe_int) (pa_cons (pcall O hr (pa_cons (pv 0) (pa_cons pe_int pa_nil))) pa_nil))))) pss_nil)
      (pss_cons (ps_set (i := 4) sc__law_tag.nd rfl (.inl rfl) (pe_callTy call_tuple_of (by rfl) T.z_tuple PyProof.Rows.boot_tuple (pa_cons (pe_lc (own := [("k", 5)]) (g := gName 5) (tt := tYes) rfl sc__law_tag.nd (pi_range1 rfl T.z_range (pa_cons (pv 2) pa_nil)) (blkOk_by (own := [("k", 5)]) (N := n__law_tag) (sc := defScope s__law_tag) (by decide +kernel))
        (fun _ _ _ _ _ => (pg_name (i := 5) sc__law_tag.nd rfl (Or.inl rfl))) (fun _ _ _ _ _ => pts_nil) (fun _ _ _ _ _ => (pe_op op_add_str (pv 3) (pe_callTy call_str_int (by rfl) T.z_str PyProof.Rows.boot_str (pa_cons (pv 5) pa_nil))))) pa_nil)))
      (pss_cons (ps_if (pt_cmpR op_eq (pv 1) pe_str (nomark _)) (pss_one (ps_ret (pe_tup (pa_cons (pv 3) (pa_cons (pv 4) pa_nil))))) pss_nil)
      (pss_cons (ps_if (pt_cmpR op_eq (pv 1) pe_str (nomark _)) (pss_one (ps_ret (pe_tup (pa_cons (pv 4) (pa_cons (pe_callTy call_tuple_of (by rfl) T.z_tuple PyProof.Rows.boot_tuple (pa_cons (pe_lc (own := [("k", 5)]) (g := gName 5) (tt := tYes) rfl sc__law_tag.nd (pi_range1 rfl T.z_range (pa_cons (pcall O hr (pa_cons (pv 0) (pa_cons pe_int pa_nil))) pa_nil)) (blkOk_by (own := [("k", 5)]) (N := n__law_tag) (sc := defScope s__law_tag) (by decide +kernel))
        (fun _ _ _ _ _ => (pg_name (i := 5) sc__law_tag.nd rfl (Or.inl rfl))) (fun _ _ _ _ _ => pts_nil) (fun _ _ _ _ _ => (pe_tup (pa_cons (pcall On hr (pa_cons (pv 0) pa_nil)) (pa_cons (pcall O hr (pa_cons (pv 0) (pa_cons pe_int pa_nil))) pa_nil))))) pa_nil)) pa_nil))))) pss_nil)
      (pss_one (ps_ret (pe_tup (pa_cons pe_str (pa_cons (pv 3) (pa_cons (pcall O hr (pa_cons (pv 0) (pa_cons pe_int pa_nil))) (pa_cons (pe_tup pa_nil) (pa_cons (pe_tup (pa_cons (pcall O hr (pa_cons (pv 0) (pa_cons pe_int pa_nil))) (pa_cons (pcall O hr (pa_cons (pv 0) (pa_cons pe_int pa_nil))) pa_nil))) pa_nil)))))))))))))))), ?_⟩
  have lim : (1000 : Nat) ≤ sizeLine := by decide
  have dI : ∀ i, dep (.int i) = 0 := fun i => by unfold dep; rfl
  have dS : ∀ i, dep (.str i) = 0 := fun i => by unfold dep; rfl
  have d2 : ∀ a b : D, dep (.tup [a, b]) = 1 + max (dep a) (dep b) := fun a b => by rw [dep_tup]; unfold deps; rw [deps1]
  have two : 2 ≤ sizeLine := by omega
  have pair : ∀ (H2 : Hp) (u v : V) (d e : D), Stp b H H2 → dep d ≤ 2 → dep e ≤ 2 → Rep H2 u d → Rep H2 v e → [u, v].length ≤ sizeLine ∧ ∀ p, H2 p = none → Q (.ref p) (upd H2 p (.tup [u, v])) := fun H2 u v d e x2 h1 h2 r1 r2 =>
    ⟨two, fun p hp => q _ _ _ (x2.new hp) (Rep.two upd_same (r1.mono (.new hp)) (r2.mono (.new hp))) (by rw [d2]; omega)⟩
  refine ⟨_, rfl, by show 4 ≤ sizeLine; omega, fun p0 hp0 => ⟨p0, _, rfl, .inr (SqT.of upd_same), rfl, rfl, _, rfl, ?_⟩⟩
  have x0 := (Stp.refl hb).new (o := HO.tup [V.str (Str.ofString "list"), V.str (Str.ofString "tuple"), V.str (Str.ofString "dict"), V.str (Str.ofString "cell")]) hp0
  refine ite2 (fun _ => q _ .non _ x0 .non (by unfold dep; omega)) (fun _ => ?_)
  refine ⟨_, rfl, b, rfl, x0.b1, fun l H1 x1 hl => ?_⟩
  have x1 := x0.trans x1
  have rl : ∀ H2, Rep H2 (.str (S l)) (.str l) := fun _ => .str l
  refine ⟨_, rfl, rfl, _, rfl, ite2 (fun _ => ?_) (fun _ => ?_)⟩
  · refine ⟨_, rfl, b, 40, rfl, x1.b1, by decide, by decide, fun r H2 _ _ x2 => ⟨_, rfl, ?_⟩⟩
    exact pair _ _ _ (.int r) (.str l) (x1.trans x2) (by rw [dI]; omega) (by rw [dS]; omega) (.int r) (rl _)
  refine ⟨_, rfl, rfl, _, rfl, ite2 (fun _ => ⟨_, rfl, q _ _ _ x1 (rl _) (by rw [dS]; omega)⟩) (fun _ => ?_)⟩
  refine ⟨_, rfl, rfl, _, rfl, ite2 (fun _ => ?_) (fun _ => ?_)⟩
  · refine ⟨_, rfl, b, 9, rfl, x1.b1, by decide, by decide, fun r H2 _ _ x2 => ⟨_, _, rfl, rfl, _, rfl, b, 9, rfl, x2.b1, by decide, by decide, fun r2 H3 _ _ x3 => ?_⟩⟩
    exact pair _ _ _ (.int (r - 1)) (.int r2) (x1.trans (x2.trans x3)) (by rw [dI]; omega) (by rw [dI]; omega) (.int _) (.int _)
  refine ⟨_, rfl, n, rfl, by omega, by omega, fun D1 hD1 => ?_⟩
  have nD : D1 ≠ b := x1.b1.ne hD1
  refine lc_it walk_range (fun i H' => Stp b H1 H' ∧ ∃ zs : List Str, zs.length = i ∧ H' D1 = some (.lst (zs.map V.str))) ⟨(Stp.refl x1.b1).new hD1, [], rfl, upd_same⟩ (fun _ _ _ _ => trivial) ?_ ?_
  · rintro i x H3 H4 hi ⟨x3, zs, hl, hl1⟩ ⟨rfl, rfl⟩
    refine ⟨rfl, iteT (B := True) (iteT ?_)⟩
    have hi' : i < n := by simpa using hi
    refine ⟨_, rfl, _, rfl, _, rfl, ?_, _, _, rfl, rfl, ?_, _, hl1, by rw [List.length_map]; omega, x3.grow hD1 nD, zs ++ [_], by simp [hl], by rw [upd_same, List.map_append]; rfl⟩
    · have := Nat.log2_le_self (0 + (i : Int)).natAbs; omega
    · have := str_small i (by omega)
      have e : (0 + (i : Int)) = ((i : Nat) : Int) := by omega
      rw [e, S_len]; omega
  rintro H2 ⟨x2, zs, hzl, hl1⟩
  refine ⟨D1, _, rfl, .inl ⟨SqL.of hl1, fun pw hpw => ?_⟩⟩
  have x2 := x1.trans (x2.new (o := .tup (zs.map V.str)) hpw)
  have hzl1 : zs.length = n := by simpa using hzl
  have hzl2 : (zs.map V.str).length ≤ 2000 := by rw [List.length_map]; omega
  have hw : ∀ H', Tups (upd H2 pw (.tup (zs.map V.str))) H' → Rep H' (.ref pw) (.tup (zs.map fun z => .str (cs z))) := fun H' t => .tup (t _ _ upd_same) hzl2 (reps_strs zs)
  have dw : dep (.tup (zs.map fun z => .str (cs z))) ≤ 1 := by rw [dep_tup]; have := deps_strs zs; omega
  refine ⟨_, rfl, rfl, _, rfl, ite2 (fun _ => ?_) (fun _ => ?_)⟩
  · refine ⟨_, rfl, _, rfl, ?_⟩
    exact pair _ _ _ (.str l) _ x2 (by rw [dS]; omega) (by omega) (rl _) (hw _ .refl)
  refine ⟨_, rfl, rfl, _, rfl, ite2 (fun _ => ?_) (fun _ => ?_)⟩
  · refine ⟨_, rfl, _, rfl, b, 3, rfl, x2.b1, by decide, by decide, fun m H3 m0 m1 x3 => ⟨m, rfl, by omega, by omega, fun D2 hD2 => ?_⟩⟩
    have nD2 : D2 ≠ b := x3.b1.ne hD2
    refine lc_it walk_range (fun i H' => Stp b H3 H' ∧ ∃ vs ds, H' D2 = some (.lst vs) ∧ Reps H' vs ds ∧ deps ds ≤ 1 ∧ vs.length = i) ⟨(Stp.refl x3.b1).new hD2, [], [], upd_same, .nil, (by unfold deps; omega), rfl⟩ (fun _ _ _ _ => trivial) ?_ ?_
    · rintro i x H4 H5 hi ⟨x4, vs, ds, hl1, hrs, hds, hvl⟩ ⟨rfl, rfl⟩
      refine ⟨rfl, iteT (B := True) (iteT ?_)⟩
      refine ⟨_, rfl, b, rfl, x4.b1, fun l2 H6 x6 _ => ⟨_, rfl, b, 90, rfl, x6.b1, by decide, by decide, fun r H7 _ _ x7 => ⟨two, fun p hp => ?_⟩⟩⟩
      have x8 := (x6.trans x7).new (o := .tup [.str (S l2), .int r]) hp
      have hl2 := x8.keep _ _ nD2 hl1
      refine ⟨_, hl2, by omega, (x4.trans x8).grow hD2 nD2, vs ++ [.ref p], ds ++ [.tup [.str l2, .int r]], upd_same, ?_, ?_, by simp [hvl]⟩
      · exact (hrs.mono (x8.tups.trans (.at hl2 (fun _ z => by cases z)))).app (.one (Rep.mono (.at hl2 (fun _ z => by cases z)) (Rep.two upd_same (.str l2) (.int r))))
      · refine deps_of fun d hd => ?_
        rcases List.mem_append.mp hd with h | h
        · exact deps_mem hds d h
        · rw [List.mem_singleton.mp h, d2, dS, dI]; omega
    · rintro H4 ⟨x4, vs, ds, hl1, hrs, hds, hvl⟩
      refine ⟨D2, _, rfl, .inl ⟨SqL.of hl1, fun p2 hp2 => ?_⟩⟩
      have x5 := (x3.trans x4).new (o := .tup vs) hp2
      refine ⟨two, fun p hp => q _ (.tup [_, .tup ds]) _ ((x2.trans x5).new hp) (Rep.two upd_same (hw _ (x5.tups.trans (.new hp))) (.tup (Tups.new hp _ _ upd_same) (by omega) (hrs.mono ((Tups.new hp2).trans (.new hp))))) ?_⟩
      rw [d2, dep_tup ds]; omega
  · refine ⟨_, rfl, _, rfl, b, 90, rfl, x2.b1, by decide, by decide, fun r H3 _ _ x3 => ⟨Nat.zero_le _, fun p1 hp1 => ?_⟩⟩
    have x3 := (x2.trans x3).new (o := .tup []) hp1
    refine ⟨_, rfl, b, 9, rfl, x3.b1, by decide, by decide, fun r4 H4 _ _ x4 => ⟨_, rfl, b, 90, rfl, x4.b1, by decide, by decide, fun r5 H5 _ _ x5 => ⟨two, fun p2 hp2 => ⟨by show 5 ≤ sizeLine; omega, fun p hp => ?_⟩⟩⟩⟩
    have t1 : Tups (upd H3 p1 (.tup [])) _ := (x4.trans x5).tups
    have n2 := Tups.new (o := HO.tup [V.int r4, V.int r5]) hp2
    refine q _ (.tup [.str (cs (Str.ofString "waiting")), .str l, .int r, .tup [], .tup [.int r4, .int r5]]) _ (((x3.trans (x4.trans x5)).new hp2).new hp) (.tup upd_same (by show 5 ≤ 2000; decide) (.cons (Rep.sv _) (.cons (rl _) (.cons (.int r) (.cons (.tup ?_ (Nat.zero_le _) .nil) (.cons (Rep.two ?_ (.int _) (.int _)) .nil)))))) ?_
    · exact (t1.trans (n2.trans (.new hp))) _ _ upd_same
    · exact Tups.new hp _ _ upd_same
    · simp [dep, deps]
end
end D0
namespace D0
open PySem PySem.Spec PyProof.Rows L2 SX NumText
def spForm : Sp := fun vs H Q _ => ∃ (b pl er : Addr) (z : Str) (m : Nat → Prop), vs = [.ref b, .str z, .ref pl, .ref er] ∧ Bag H b ∧ Pool H b pl m ∧ Pool H b er m ∧
  ∀ p tv r tag es vs H', Stp b H H' → H' p = some (.tup [tv, .ref r]) → Rep H' tv tag → dep tag ≤ 3 → H r = none → H' r = some (.lst vs) → Reps H' vs (rowD ixD es) → (∀ e ∈ es, e.okP m) → es.length ≤ 100 → Q (.ref p) H'
theorem Pool.same {H H' : Hp} {b pl : Addr} {m : Nat → Prop} (x : Pool H b pl m) (s : Same H H') : Pool H' b pl m := by
  obtain ⟨n, ks, h, u⟩ := x
  exact ⟨n, ks, s _ _ h, u⟩
theorem rowD_app (f : Nat → Int) (a c : List Ent) : rowD f (a ++ c) = rowD f a ++ rowD f c := List.map_append
theorem rep_oth {H : Hp} {f : Nat → Int} {v : V} {l : List Nat} {ds : List D} (h : Rep H v (.tup (.str l :: ds))) : Rep H v ((Ent.pl (.oth l ds)).d f) := h
theorem oth_ok {m : Nat → Prop} {z : Str} {ds : List D} (h : z = "none" ∨ z = "errorclass" ∨ z = "number" ∨ z = "text") (hd : deps ds = 0) : (Ent.pl (.oth (cs z) ds)).okP m := by
  refine ⟨?_, ?_, ?_, hd⟩
  · rw [wRef_e]; rcases h with rfl | rfl | rfl | rfl <;> decide +kernel
  · rw [wHandled_e]; rcases h with rfl | rfl | rfl | rfl <;> decide +kernel
  · rw [wPending_e]; rcases h with rfl | rfl | rfl | rfl <;> decide +kernel
/-- an entry is a tuple that begins with a text -/
theorem ent_head {H : Hp} {f : Nat → Int} {v : V} : ∀ {e : Ent}, Rep H v (e.d f) → ∃ a z vs, v = .ref a ∧ H a = some (.tup (.str z :: vs))
  | .pl (.ref k), r => by cases r with | tup h hl rs => cases rs with | cons r1 r2 => cases r1; exact ⟨_, _, _, rfl, h⟩
  | .pl (.hand k), r => by cases r with | tup h hl rs => cases rs with | cons r1 r2 => cases r1; exact ⟨_, _, _, rfl, h⟩
  | .pl (.oth l ds), r => by cases r with | tup h hl rs => cases rs with | cons r1 r2 => cases r1; exact ⟨_, _, _, rfl, h⟩
  | .pend i e, r => by cases r with | tup h hl rs => cases rs with | cons r1 r2 => cases r1; exact ⟨_, _, _, rfl, h⟩
theorem Stp.free {b a : Addr} {H H' : Hp} (x : Stp b H H') (h : H' a = none) : H a = none := by
  cases e : H a with
  | none => rfl
  | some o =>
    have n := x.b1.ne h
    rw [x.keep a o n e] at h; cases h
theorem Tups.lst {H : Hp} {p : Addr} {vs : List V} {o : HO} (h : H p = some (.lst vs)) : Tups H (upd H p o) := .at h (fun _ z => by cases z)
section
variable {P : Program} {w : World} {K : PySem.W.Frag} {mg : Str → Option Value} {base : Heap}
theorem ok__law_form (T : Txt K w mg) (O : OkD P w K mg base CX0 1 "_law_take" p__law_take spTake) (Ow : OkD P w K mg base CX0 2 "_law_word" p__law_word spWord)
    (Om : OkD P w K mg base CX0 1 "_law_marks" p__law_marks spMarks) (Oe : OkD P w K mg base CX0 6 "_law_entry" p__law_entry spMarked) (Ot : OkD P w K mg base CX0 3 "_law_tag" p__law_tag spTag) : OkD P w K mg base CX0 7 "_law_form" p__law_form spForm := by
  refine T.g__law_form.ok sc__law_form (fun vs H Q E h => ?_) (fun f cdv A outer s H vs Q E hr h => ?_)
  · obtain ⟨b, pl, er, z, m, rfl, _⟩ := h; rfl
  obtain ⟨b, pl, er, z, m, rfl, hb, hp, he, q⟩ := h
  have lim : (1000 : Nat) ≤ sizeLine := by decide
  have two : 2 ≤ sizeLine := by omega
  have one : 1 ≤ sizeLine := by omega
  refine split_at 6 (fun t => ∀ (n : Nat) (y : Option V) (r : Addr) (vs : List V) (es : List Ent) (H1 : Hp) (o : Option V), n ≤ 40 → Stp b H H1 → H r = none → H1 r = some (.lst vs) → Reps H1 vs (rowD ixD es) → (∀ e ∈ es, e.okP m) → es.length = n →
    t { nx := fun _ H' => Q .non H', rt := Q } [some (.ref b), some (.str z), some (.ref pl), some (.ref er), some (.int (n : Nat)), y, some (.ref r), none, none, none, o] H1) ?_ (fun t6 ht6 hg6 => ?_)
  · refine ⟨_, (pss_cons (ps_set (i := 7) sc__law_form.nd rfl (.inl rfl) (pcall Ot hr (pa_cons (pv 0) (pa_cons (pv 1) (pa_cons (pv 4) pa_nil)))))
      (pss_cons (ps_if (pt_cmpR op_eq (pv 1) pe_str (nomark _)) (pss_one (ps_ret (pe_tup (pa_cons (pv 7) (pa_cons (pe_op op_cat (pe_lst (pa_cons (pe_tup (pa_cons pe_str pa_nil)) pa_nil)) (pv 6)) pa_nil))))) pss_nil)
      (pss_cons (ps_if (pt_cmpR op_eq (pv 1) pe_str (nomark _)) (pss_one (ps_ret (pe_tup (pa_cons (pv 7) (pa_cons (pe_op op_cat (pe_lst (pa_cons (pe_tup (pa_cons pe_str (pa_cons pe_str pa_nil))) pa_nil)) (pv 6)) pa_nil))))) pss_nil)
      (pss_cons (ps_if (pt_cmpR op_ne (pv 1) pe_str (nomark _)) (pss_one (ps_ret (pe_tup (pa_cons (pv 7) (pa_cons (pv 6) pa_nil))))) pss_nil)
      (pss_cons (ps_set (i := 8) sc__law_form.nd rfl (.inl rfl) (pcall O hr (pa_cons (pv 0) (pa_cons pe_int pa_nil))))
      (pss_cons (ps_set (i := 9) sc__law_form.nd rfl (.inl rfl) (pe_lst pa_nil))
      (pss_cons (ps_for PassesOwn.never rfl (pi_range1 rfl T.z_range (pa_cons (pv 4) pa_nil)) (pg_name (i := 5) sc__law_form.nd rfl (Or.inl rfl)) (pss_cons (ps_expr (pe_bm PySem.F.plainAttrs_list PySem.F.slot_list_append PySem.F.type_list_append mt_append (pv 9) (pa_cons (pe_tup (pa_cons pe_str (pa_cons (pe_op op_add (pv 8) (pv 5)) pa_nil))) pa_nil)))
      (pss_one (ps_expr (pe_bm PySem.F.plainAttrs_list PySem.F.slot_list_append PySem.F.type_list_append mt_append (pv 9) (pa_cons (pe_ix ix_list (pv 6) (pv 5) (fun _ _ => rfl)) pa_nil))))))
      (pss_one (ps_ret (pe_tup (pa_cons (pv 7) (pa_cons (pv 9) pa_nil)))))))))))), ?_⟩
    intro n y r vs es H1 o hn x1 hr0 hr1 hrs hok hel
    have hvl : vs.length = n := by rw [hrs.len]; unfold rowD; rw [List.length_map]; exact hel
    have nr : r ≠ b := fun z => by obtain ⟨c1, c2, c3, c4, c5, e⟩ := hb; rw [z, e] at hr0; cases hr0
    refine ⟨_, rfl, _, rfl, _, rfl, b, z, n, rfl, x1.b1, by omega, fun tv tag H2 x2 rt hd => ?_⟩
    have h2 := x2.keep _ _ nr hr1
    have hrs := hrs.mono x2.tups
    have X := x1.trans x2
    have fin : ∀ (l : Addr) (ws : List V) (fs : List Ent) (H3 : Hp), Stp b H H3 → Tups H2 H3 → H l = none → H3 l = some (.lst ws) → Reps H3 ws (rowD ixD fs) → (∀ e ∈ fs, e.okP m) → fs.length ≤ 100 → [tv, .ref l].length ≤ sizeLine ∧ ∀ p, H3 p = none → Q (.ref p) (upd H3 p (.tup [tv, .ref l])) := fun l ws fs H3 x3 t3 f3 h3 r3 o3 l3 =>
      ⟨two, fun p hp => q p tv l tag fs ws _ (x3.new hp) upd_same (rt.mono (t3.trans (.new hp))) hd f3 (by rw [upd_ne (ne_of_none h3 hp)]; exact h3) (r3.mono (.new hp)) o3 l3⟩
    have cat : ∀ (us : List V) (e : Ent) (p0 : Addr), H2 p0 = none → Rep (upd H2 p0 (.tup us)) (.ref p0) (e.d ixD) → e.okP m → ∀ l0, upd H2 p0 (.tup us) l0 = none →
        ∃ xs zs, upd (upd H2 p0 (.tup us)) l0 (.lst [.ref p0]) l0 = some (.lst xs) ∧ upd (upd H2 p0 (.tup us)) l0 (.lst [.ref p0]) r = some (.lst zs) ∧ xs.length + zs.length ≤ sizeLine ∧ ∀ l1, upd (upd H2 p0 (.tup us)) l0 (.lst [.ref p0]) l1 = none →
          [tv, .ref l1].length ≤ sizeLine ∧ ∀ p, upd (upd (upd H2 p0 (.tup us)) l0 (.lst [.ref p0])) l1 (.lst (xs ++ zs)) p = none → Q (.ref p) (upd (upd (upd (upd H2 p0 (.tup us)) l0 (.lst [.ref p0])) l1 (.lst (xs ++ zs))) p (.tup [tv, .ref l1])) := fun us e p0 hp0 re oe l0 hl0 => by
      have a1 := X.new (o := HO.tup us) hp0
      have a2 := a1.new (o := HO.lst [.ref p0]) hl0
      have k1 : upd H2 p0 (.tup us) r = some (.lst vs) := by rw [upd_ne (ne_of_none h2 hp0)]; exact h2
      refine ⟨_, _, upd_same, by rw [upd_ne (ne_of_none k1 hl0)]; exact k1, by show 1 + vs.length ≤ _; omega, fun l1 hl1 => ?_⟩
      have t1 := Tups.new (o := HO.tup us) hp0
      have t2 := Tups.new (o := HO.lst [V.ref p0]) hl0
      have t3 := Tups.new (o := HO.lst ([V.ref p0] ++ vs)) hl1
      refine fin l1 ([.ref p0] ++ vs) (e :: es) _ (a2.new hl1) (t1.trans (t2.trans t3)) (a2.free hl1) upd_same (.cons (re.mono (t2.trans t3)) (hrs.mono (t1.trans (t2.trans t3)))) (fun x hx => ?_) (by simp [hel]; omega)
      rcases List.mem_cons.mp hx with rfl | hx
      · exact oe
      · exact hok x hx
    refine ⟨_, rfl, rfl, _, rfl, ite2 (fun _ => ?_) (fun _ => ?_)⟩
    · refine ⟨_, rfl, one, fun p0 hp0 => ⟨one, fun l0 hl0 => ⟨_, rfl, ?_⟩⟩⟩
      obtain ⟨xs, zs, a1, a2, a3, a4⟩ := cat [.str (Str.ofString "none")] (.pl (.oth (cs (Str.ofString "none")) [])) p0 hp0 (rep_oth (Rep.one upd_same (Rep.sv _))) (oth_ok (.inl rfl) (by unfold deps; rfl)) l0 hl0
      exact ⟨l0, r, xs, zs, rfl, rfl, a1, a2, a3, a4⟩
    refine ⟨_, rfl, rfl, _, rfl, ite2 (fun _ => ?_) (fun _ => ?_)⟩
    · refine ⟨_, rfl, two, fun p0 hp0 => ⟨one, fun l0 hl0 => ⟨_, rfl, ?_⟩⟩⟩
      obtain ⟨xs, zs, a1, a2, a3, a4⟩ := cat [.str (Str.ofString "errorclass"), .str (Str.ofString "ValueError")] (.pl (.oth (cs (Str.ofString "errorclass")) [.str (cs (Str.ofString "ValueError"))])) p0 hp0 (rep_oth (Rep.two upd_same (Rep.sv _) (Rep.sv _))) (oth_ok (.inr (.inl rfl)) (by rw [deps1]; unfold dep; rfl)) l0 hl0
      exact ⟨l0, r, xs, zs, rfl, rfl, a1, a2, a3, a4⟩
    refine ⟨_, rfl, rfl, _, rfl, ite2 (fun _ => ?_) (fun _ => ?_)⟩
    · exact ⟨_, rfl, _, rfl, fin r vs es H2 X .refl hr0 h2 hrs hok (by omega)⟩
    refine ⟨_, rfl, b, 9, rfl, x2.b1, by decide, by decide, fun f0 H3 _ _ x3 => ⟨Nat.zero_le _, fun D1 hD1 => ?_⟩⟩
    have nD : D1 ≠ b := x3.b1.ne hD1
    have X3 := X.trans x3
    have h3 := x3.keep _ _ nr h2
    have nDr : r ≠ D1 := ne_of_none h3 hD1
    refine ⟨_, rfl, n, rfl, by omega, by omega, ?_⟩
    refine for_range (lo := 0) (n := n) (fun i σ H' => ∃ y, σ = [some (.ref b), some (.str z), some (.ref pl), some (.ref er), some (.int (n : Nat)), y, some (.ref r), some tv, some (.int f0), some (.ref D1), o] ∧ Stp b H3 H' ∧ ∃ ws fs, H' D1 = some (.lst ws) ∧ Reps H' ws (rowD ixD fs) ∧ (∀ e ∈ fs, e.okP m) ∧ fs.length = 2 * i) ⟨y, rfl, (Stp.refl x3.b1).new hD1, [], [], upd_same, .nil, (fun _ h => by cases h), rfl⟩ ?_ ?_
    · rintro i σ H4 hi ⟨y, rfl, x4, ws, fs, h4, r4, o4, l4⟩
      have wl : ws.length = 2 * i := by rw [r4.len]; unfold rowD; rw [List.length_map]; exact l4
      refine ⟨_, rfl, .inl ⟨rfl, _, SqL.of h4⟩, _, rfl, _, rfl, _, _, rfl, rfl, two, fun p5 hp5 => ?_⟩
      have h5 : upd H4 p5 (.tup [.str (Str.ofString "number"), .int (f0 + (0 + (i : Int)))]) D1 = some (.lst ws) := by rw [upd_ne (ne_of_none h4 hp5)]; exact h4
      refine ⟨D1, ws, _, rfl, rfl, h5, by omega, ?_⟩
      have x6 := (x4.new (o := HO.tup [.str (Str.ofString "number"), .int (f0 + (0 + (i : Int)))]) hp5).grow (o := HO.lst (ws ++ [.ref p5])) hD1 nD
      have r6 : Reps (upd (upd H4 p5 (.tup [.str (Str.ofString "number"), .int (f0 + (0 + (i : Int)))])) D1 (.lst (ws ++ [.ref p5]))) (ws ++ [.ref p5]) (rowD ixD (fs ++ [.pl (.oth (cs (Str.ofString "number")) [.int (f0 + (0 + (i : Int)))])])) := by
        rw [rowD_app]
        exact (r4.mono ((Tups.new hp5).trans (.lst h5))).app (.one (Rep.mono (.lst h5) (rep_oth (Rep.two upd_same (Rep.sv _) (.int _)))))
      obtain ⟨v, hv, rv⟩ := hrs.at (i := i) (d := es[i].d ixD) (by unfold rowD; rw [List.getElem?_map, List.getElem?_eq_getElem (by omega)]; rfl)
      have h6 := x6.keep _ _ nr h3
      refine ⟨_, rfl, .inl ⟨rfl, _, SqL.of upd_same⟩, _, rfl, _, rfl, r, _, _, v, rfl, rfl, SqL.of h6, by rw [Int.zero_add]; exact atI_nat hv, ?_⟩
      refine ⟨D1, _, _, rfl, rfl, upd_same, by rw [List.length_append, wl]; show 2 * i + 1 < _; omega, ?_⟩
      rw [upd_upd]
      refine ⟨_, rfl, (x4.new (o := HO.tup [.str (Str.ofString "number"), .int (f0 + (0 + (i : Int)))]) hp5).grow hD1 nD, _, (fs ++ [.pl (.oth (cs (Str.ofString "number")) [.int (f0 + (0 + (i : Int)))])]) ++ [es[i]], upd_same, ?_, ?_, by simp [l4]; omega⟩
      · have t7 : Tups (upd (upd H4 p5 (.tup [.str (Str.ofString "number"), .int (f0 + (0 + (i : Int)))])) D1 (.lst (ws ++ [.ref p5]))) (upd (upd H4 p5 (.tup [.str (Str.ofString "number"), .int (f0 + (0 + (i : Int)))])) D1 (.lst (ws ++ [.ref p5] ++ [v]))) := fun a us e => by
          have na : a ≠ D1 := fun z => by rw [z, upd_same] at e; cases e
          rw [upd_ne na] at e ⊢; exact e
        rw [rowD_app]
        exact (r6.mono t7).app (.one (rv.mono (x3.tups.trans ((x6.tups).trans t7))))
      · intro e he
        rcases List.mem_append.mp he with h | h
        · rcases List.mem_append.mp h with h | h
          · exact o4 e h
          · rw [List.mem_singleton.mp h]; exact oth_ok (.inr (.inr (.inl rfl))) (by rw [deps1]; unfold dep; rfl)
        · rw [List.mem_singleton.mp h]; exact hok _ (List.getElem_mem _)
    · rintro σ H4 ⟨y, rfl, x4, ws, fs, h4, r4, o4, l4⟩
      exact ⟨_, rfl, _, rfl, fin D1 ws fs H4 (X3.trans x4) ((x3.trans x4).tups) (X3.free hD1) h4 r4 o4 (by omega)⟩
  · refine split_at 4 (fun t => ∀ (n : Nat) (H1 : Hp), n ≤ 40 → Stp b H H1 → t { nx := fun _ H' => Q .non H', rt := Q } [some (.ref b), some (.str z), some (.ref pl), some (.ref er), some (.int (n : Nat)), none, none, none, none, none, none] H1) ?_ (fun t4 ht4 hg4 => ?_)
    · refine ⟨_, pss_cons (ps_setLc (i := 6) (own := [("k", 5)]) (g := gName 5) (tt := tYes) rfl sc__law_form.nd rfl rfl rfl (pi_range1 rfl T.z_range (pa_cons (pv 4) pa_nil)) (blkOk_by (own := [("k", 5)]) (N := n__law_form) (sc := defScope s__law_form) (by decide +kernel)) (fun _ _ _ _ _ => (pg_name (i := 5) sc__law_form.nd rfl (Or.inl rfl))) (fun _ _ _ _ _ => pts_nil) (fun _ _ _ _ _ => (pcall Oe hr (pa_cons (pv 0) (pa_cons (pv 2) (pa_cons (pv 3) (pa_cons (pcall Om hr (pa_cons (pv 1) pa_nil)) pa_nil)))))))
        (pss_cons (ps_if (pt_cmpR op_in_seq (pv 1) (pe_tup (pa_cons pe_str (pa_cons pe_str pa_nil))) (by rfl)) (pss_one (ps_setLc (i := 6) (own := [("entry", 10)]) (g := gName 10) (tt := tYes) rfl sc__law_form.nd rfl rfl rfl (pi_list (pv 6)) (blkOk_by (own := [("entry", 10)]) (N := n__law_form) (sc := defScope s__law_form) (by decide +kernel)) (fun _ _ _ _ _ => (pg_name (i := 10) sc__law_form.nd rfl (Or.inl rfl))) (fun _ _ _ _ _ => pts_nil) (fun _ _ _ _ _ => (pe_ifExp (pt_cmpR op_eq (pe_ix (show IxR _ (rIxT K) from ix_tup) (pv 10) pe_int (fun _ _ => rfl)) pe_str (nomark _)) (pv 10) (pe_tup (pa_cons pe_str (pa_cons (pcall Ow hr (pa_cons (pv 0) pa_nil)) pa_nil))))))) pss_nil) ht6), ?_⟩
      intro n H1 hn x1
      refine ⟨_, rfl, n, rfl, by omega, by omega, fun D1 hD1 => ?_⟩
      have nD : D1 ≠ b := x1.b1.ne hD1
      refine lc_it walk_range (fun i H' => Stp b H1 H' ∧ ∃ vs es, H' D1 = some (.lst vs) ∧ Reps H' vs (rowD ixD es) ∧ (∀ e ∈ es, e.okP m) ∧ es.length = i) ⟨(Stp.refl x1.b1).new hD1, [], [], upd_same, .nil, (fun _ h => by cases h), rfl⟩ (fun _ _ _ _ => trivial) ?_ ?_
      · rintro i x H3 H4 hi ⟨x3, vs, es, h3, r3, o3, l3⟩ ⟨rfl, rfl⟩
        refine ⟨rfl, iteT (B := True) (iteT ?_)⟩
        have hi' : i < n := by simpa using hi
        refine ⟨_, rfl, _, rfl, _, rfl, _, rfl, z, rfl, fun mk => ⟨b, pl, er, m, mk, rfl, x3.b1, hp.stp (x1.trans x3), he.stp (x1.trans x3), fun v e H5 x5 oe re => ?_⟩⟩
        have h5 := x5.keep _ _ nD h3
        have vl : vs.length = i := by rw [r3.len]; unfold rowD; rw [List.length_map]; exact l3
        refine ⟨_, h5, by omega, (x3.trans x5).grow hD1 nD, vs ++ [v], es ++ [e], upd_same, ?_, ?_, by simp [l3]⟩
        · rw [rowD_app]; exact (r3.mono (x5.tups.trans (.lst h5))).app (.one (re.mono (.lst h5)))
        · intro e' he'
          rcases List.mem_append.mp he' with h | h
          · exact o3 e' h
          · rw [List.mem_singleton.mp h]; exact oe
      rintro H2 ⟨x2, vs, es, h2, r2, o2, l2⟩
      have l2 : es.length = n := by simpa using l2
      have X := x1.trans x2
      have vl : vs.length = n := by rw [r2.len]; unfold rowD; rw [List.length_map]; exact l2
      refine ⟨_, rfl, two, fun p0 hp0 => ⟨p0, _, rfl, .inr (SqT.of upd_same), rfl, rfl, _, rfl, ?_⟩⟩
      have X0 := X.new (o := HO.tup [V.str (Str.ofString "method"), V.str (Str.ofString "iterator")]) hp0
      have t0 := Tups.new (o := HO.tup [V.str (Str.ofString "method"), V.str (Str.ofString "iterator")]) hp0
      have h0 : upd H2 p0 (.tup [V.str (Str.ofString "method"), V.str (Str.ofString "iterator")]) D1 = some (.lst vs) := by rw [upd_ne (ne_of_none h2 hp0)]; exact h2
      generalize upd H2 p0 (.tup [V.str (Str.ofString "method"), V.str (Str.ofString "iterator")]) = H0 at X0 t0 h0
      refine ite2 (fun _ => ?_) (fun _ => hg6 n _ D1 vs es H0 _ hn X0 (x1.free hD1) h0 (r2.mono t0) o2 l2)
      refine ⟨_, rfl, D1, rfl, ⟨vs, SqL.of h0⟩, fun D2 hD2 => ?_⟩
      have nD2 : D2 ≠ b := X0.b1.ne hD2
      have n12 : D1 ≠ D2 := ne_of_none h0 hD2
      refine lc_it (walk_list (xs := vs)) (fun i H' => Stp b H0 H' ∧ ∃ ws fs, H' D2 = some (.lst ws) ∧ Reps H' ws (rowD ixD fs) ∧ (∀ e ∈ fs, e.okP m) ∧ fs.length = i) ⟨(Stp.refl X0.b1).new hD2, [], [], upd_same, .nil, (fun _ h => by cases h), rfl⟩ (fun i H' _ h => SqL.of (h.1.keep _ _ nD h0)) ?_ ?_
      · rintro i x H3 H4 hi ⟨x3, ws, fs, h3, r3, o3, l3⟩ ⟨rfl, hx⟩
        refine ⟨rfl, iteT (B := True) (iteT ?_)⟩
        have wl : ws.length = i := by rw [r3.len]; unfold rowD; rw [List.length_map]; exact l3
        obtain ⟨d, hd, rd⟩ := (r2.mono (t0.trans x3.tups)).get hx
        have hd' : (es.map (Ent.d ixD))[i]? = some d := hd
        rw [List.getElem?_map] at hd'
        obtain ⟨e, hie, rfl⟩ : ∃ e, es[i]? = some e ∧ e.d ixD = d := by
          cases h : es[i]? with
          | none => rw [h] at hd'; cases hd'
          | some e => rw [h] at hd'; exact ⟨e, rfl, Option.some.inj hd'⟩
        have oe := o2 e (List.mem_of_getElem? hie)
        obtain ⟨a, z1, us, rfl, ha⟩ := ent_head rd
        have snoc : ∀ (H5 : Hp) (v : V) (e' : Ent), Stp b H4 H5 → e'.okP m → Rep H5 v (e'.d ixD) → ∃ acc, H5 D2 = some (.lst acc) ∧ acc.length < sizeLine ∧ (Stp b H0 (upd H5 D2 (.lst (acc ++ [v]))) ∧ ∃ ws fs, upd H5 D2 (.lst (acc ++ [v])) D2 = some (.lst ws) ∧ Reps (upd H5 D2 (.lst (acc ++ [v]))) ws (rowD ixD fs) ∧ (∀ e ∈ fs, e.okP m) ∧ fs.length = i + 1) := fun H5 v e' x5 oe' re' => by
          have h5 := x5.keep _ _ nD2 h3
          refine ⟨_, h5, by omega, (x3.trans x5).grow hD2 nD2, ws ++ [v], fs ++ [e'], upd_same, ?_, ?_, by simp [l3]⟩
          · rw [rowD_app]; exact (r3.mono (x5.tups.trans (.lst h5))).app (.one (re'.mono (.lst h5)))
          · intro e1 he1
            rcases List.mem_append.mp he1 with h | h
            · exact o3 e1 h
            · rw [List.mem_singleton.mp h]; exact oe'
        refine ⟨_, rfl, a, _, 0, .str z1, rfl, rfl, SqT.of ha, (show atI (V.str z1 :: us) ((0 : Nat) : Int) = _ from atI_nat rfl), rfl, _, rfl, ite2 (fun _ => ⟨_, rfl, snoc _ _ e (.refl x3.b1) oe rd⟩) (fun _ => ?_)⟩
        refine ⟨_, rfl, b, rfl, x3.b1, fun l H5 x5 _ => ⟨two, fun p hp => ?_⟩⟩
        exact snoc _ _ (.pl (.oth (cs (Str.ofString "text")) [.str l])) (x5.new hp) (oth_ok (.inr (.inr (.inr rfl))) (by rw [deps1]; unfold dep; rfl)) (rep_oth (Rep.two upd_same (Rep.sv _) (.str l)))
      · rintro H3 ⟨x3, ws, fs, h3, r3, o3, l3⟩
        exact hg6 n _ D2 ws fs H3 _ hn (X0.trans x3) (X0.free hD2) h3 r3 o3 (by rw [l3]; exact vl)
    · -- behind the third if
      have g4 : ∀ (r : Int) (H2 : Hp), 0 ≤ r → r ≤ 40 → Stp b H H2 → t4 { nx := fun _ H' => Q .non H', rt := Q } [some (.ref b), some (.str z), some (.ref pl), some (.ref er), some (.int r), none, none, none, none, none, none] H2 := fun r H2 h0 h1 x2 => by
        obtain ⟨k, rfl⟩ : ∃ k : Nat, r = (k : Int) := ⟨r.toNat, by omega⟩
        exact hg4 k H2 (by omega) x2
      refine split_at 3 (fun t => ∀ (r : Int) (H1 : Hp), 0 ≤ r → r ≤ 40 → Stp b H H1 → t { nx := fun _ H' => Q .non H', rt := Q } [some (.ref b), some (.str z), some (.ref pl), some (.ref er), some (.int r), none, none, none, none, none, none] H1)
        ⟨_, pss_cons (ps_if (pt_cmpR op_eq (pv 1) pe_str (nomark _)) (pss_one (ps_set (i := 4) sc__law_form.nd rfl (.inl rfl) (pe_op op_add pe_int (pe_op op_mod (pe_callTy call_int1 (by rfl) T.z_int PyProof.Rows.boot_int (pa_cons (pv 4) pa_nil)) pe_int)))) pss_nil) ht4, fun r H2 h0 h1 x2 => ?_⟩ (fun t3 ht3 hg3 => ?_)
      · refine ⟨_, rfl, rfl, _, rfl, ite2 (fun _ => ?_) (fun _ => g4 r H2 h0 h1 x2)⟩
        refine ⟨_, rfl, .inl ⟨_, rfl, _, _, rfl, rfl, (by show (0 : Int) < _; decide), _, _, rfl, rfl, ?_⟩⟩
        have e0 := Int.emod_nonneg r (show (2 : Int) ≠ 0 by decide)
        have e1 := Int.emod_lt_of_pos r (show (0 : Int) < 2 by decide)
        exact g4 _ H2 (by omega) (by omega) x2
      refine split_at 2 (fun t => ∀ (r : Int) (H1 : Hp), 0 ≤ r → r ≤ 40 → Stp b H H1 → t { nx := fun _ H' => Q .non H', rt := Q } [some (.ref b), some (.str z), some (.ref pl), some (.ref er), some (.int r), none, none, none, none, none, none] H1)
        ⟨_, pss_cons (ps_if (PW.pt (pw_or (pt_cmpR op_eq (pv 1) pe_str (nomark _)) (pw_or1 (pt_cmpR op_eq (pv 1) pe_str (nomark _))))) (pss_one (ps_set (i := 4) sc__law_form.nd rfl (.inl rfl) pe_int)) pss_nil) ht3, fun r H2 h0 h1 x2 => ?_⟩ (fun t2 ht2 hg2 => ?_)
      · refine ⟨_, rfl, rfl, _, rfl, ite2 (fun _ => iteT (hg3 1 H2 (by omega) (by omega) x2)) (fun _ => ?_)⟩
        exact ⟨_, rfl, rfl, _, rfl, ite2 (fun _ => hg3 1 H2 (by omega) (by omega) x2) (fun _ => hg3 r H2 h0 h1 x2)⟩
      refine ⟨_, pss_cons (ps_set (i := 4) sc__law_form.nd rfl (.inl rfl) (pcall O hr (pa_cons (pv 0) (pa_cons pe_int pa_nil))))
        (pss_cons (ps_if (pt_cmpR op_eq (pcall O hr (pa_cons (pv 0) (pa_cons pe_int pa_nil))) pe_int (nomark _)) (pss_one (ps_set (i := 4) sc__law_form.nd rfl (.inl rfl) (pe_op op_add pe_int (pcall O hr (pa_cons (pv 0) (pa_cons pe_int pa_nil)))))) pss_nil) ht2), ?_⟩
      refine ⟨_, rfl, b, 5, rfl, hb, by decide, by decide, fun r1 H1 r10 r11 x1 => ?_⟩
      refine ⟨_, rfl, b, 12, rfl, x1.b1, by decide, by decide, fun r2 H2 _ _ x2 => ⟨rfl, _, rfl, ite2 (fun _ => ?_) (fun _ => hg2 r1 H2 r10 (by omega) (x1.trans x2))⟩⟩
      refine ⟨_, rfl, b, 30, rfl, x2.b1, by decide, by decide, fun r3 H3 r30 r31 x3 => ⟨_, _, rfl, rfl, ?_⟩⟩
      exact hg2 (9 + r3) H3 (by omega) (by omega) (x1.trans (x2.trans x3))
end
end D0
namespace D0
open PySem PySem.Spec PyProof.Rows L2 SX NumText
def nats (ks : List Nat) : List V := ks.map fun k => V.int (k : Nat)
theorem nats_app (a c : List Nat) : nats (a ++ c) = nats a ++ nats c := List.map_append
theorem rg2 {L : Nat} (h : L ≤ 200) : RgC 1 (L : Int) 2 (L / 2) := by
  have z : ∀ k : Fin 201, RgC 1 (k.1 : Int) 2 (k.1 / 2) := by unfold RgC; decide +kernel
  exact z ⟨L, by omega⟩
def tbF (f : Nat → Int) (m : Nat) : List V := (List.range m).map fun k => V.int (f k)
theorem tbF_at {f : Nat → Int} {m k : Nat} (h : k < m) : (tbF f m)[k]? = some (.int (f k)) := by unfold tbF; rw [List.getElem?_map, List.getElem?_range h]; rfl
theorem tbF_len (f : Nat → Int) (m : Nat) : (tbF f m).length = m := by unfold tbF; rw [List.length_map, List.length_range]
theorem eR : Str.ofString "ref" = S wRef := by rw [wRef_e]; exact S_cs _
theorem eH : Str.ofString "handled" = S wHandled := by rw [wHandled_e]; exact S_cs _
theorem eP : Str.ofString "pending" = S wPending := by rw [wPending_e]; exact S_cs _
theorem n_rh : wRef ≠ wHandled ∧ wRef ≠ wPending ∧ wHandled ≠ wPending ∧ wHandled ≠ wRef ∧ wPending ≠ wRef ∧ wPending ≠ wHandled := by decide
def MI : List V := [V.str (Str.ofString "method"), V.str (Str.ofString "iterator")]
def CI : List V := [V.str (Str.ofString "class"), V.str (Str.ofString "instance")]
def i0 (z : Str) : Nat := if inV (.str z) CI = true then 1 else 0
/-- the free places of a node -/
def frees (z : Str) (n : Nat) : List Nat := if inV (.str z) MI = true then [] else if decide (V.str z = V.str (Str.ofString "dict")) = true then (List.range (n / 2)).map (fun i => 1 + i * 2) else (List.range (n - i0 z)).map (fun i => i0 z + i)
theorem i0_le (z : Str) : i0 z ≤ 1 := by unfold i0; split <;> omega
theorem frees_lt {z : Str} {n k : Nat} (h : k ∈ frees z n) : k < n := by
  unfold frees at h
  split at h
  · cases h
  · split at h
    · obtain ⟨i, hi, rfl⟩ := List.mem_map.mp h
      have := List.mem_range.mp hi; omega
    · obtain ⟨i, hi, rfl⟩ := List.mem_map.mp h
      have := List.mem_range.mp hi; omega
theorem frees_len (z : Str) (n : Nat) : (frees z n).length ≤ n := by
  unfold frees
  split
  · exact Nat.zero_le _
  · split
    · rw [List.length_map, List.length_range]; omega
    · rw [List.length_map, List.length_range]; omega
def spFree : Sp := fun vs H Q _ => ∃ (a : Addr) (z : Str) (tv : V) (r : Addr) (ws : List V), vs = [.ref a] ∧ H a = some (.lst [.str z, tv, .ref r]) ∧ H r = some (.lst ws) ∧ ws.length ≤ 200 ∧
  ∀ p H', Same H H' → H p = none → H' p = some (.lst (nats (frees z ws.length))) → Q (.ref p) H'
def spMoved0 : Sp := fun vs H Q _ => ∃ (v : V) (t : Addr) (e : En) (f : Nat → Int) (m : Nat), vs = [v, .ref t] ∧ Rep H v (e.d ixD) ∧ e.ok m ∧ H t = some (.lst (tbF f m)) ∧ ∀ v' H', Same H H' → Rep H' v' (e.d f) → Q v' H'
def spMoved : Sp := fun vs H Q _ => ∃ (v : V) (t : Addr) (e : Ent) (f : Nat → Int) (m : Nat), vs = [v, .ref t] ∧ Rep H v (e.d ixD) ∧ e.ok m ∧ H t = some (.lst (tbF f m)) ∧ ∀ v' H', Same H H' → Rep H' v' (e.d f) → Q v' H'
def spSent : Sp := fun vs H Q _ => ∃ (a t : Addr) (ws : List V) (es : List Ent) (f : Nat → Int) (m : Nat), vs = [.ref a, .ref t] ∧ H a = some (.lst ws) ∧ Reps H ws (rowD ixD es) ∧ (∀ e ∈ es, e.ok m) ∧ es.length ≤ 100 ∧ H t = some (.lst (tbF f m)) ∧
  ∀ p us H', Same H H' → H p = none → H' p = some (.lst us) → Reps H' us (rowD f es) → Q (.ref p) H'
theorem same_grow {H H1 : Hp} (s : Same H H1) {p : Addr} {o : HO} (h : H p = none) : Same H (upd H1 p o) := fun a u e => by rw [upd_ne (ne_of_none e h)]; exact s a u e
theorem rep_two_inv {H : Hp} {v : V} {l : List Nat} {i : Int} (r : Rep H v (.tup [.str l, .int i])) : ∃ a, v = .ref a ∧ H a = some (.tup [.str (S l), .int i]) := by
  cases r with | tup h hl rs => cases rs with | cons r1 r2 => cases r2 with | cons r2 r3 => cases r1; cases r2; cases r3; exact ⟨_, rfl, h⟩
theorem rep_cons_inv {H : Hp} {v : V} {l : List Nat} {ds : List D} (r : Rep H v (.tup (.str l :: ds))) : ∃ a us, v = .ref a ∧ H a = some (.tup (.str (S l) :: us)) ∧ Reps H us ds := by
  cases r with | tup h hl rs => cases rs with | cons r1 r2 => cases r1; exact ⟨_, _, rfl, h, r2⟩
theorem rep_pend_inv {H : Hp} {v : V} {l : List Nat} {i : Int} {d : D} (r : Rep H v (.tup [.str l, .int i, d])) : ∃ a u, v = .ref a ∧ H a = some (.tup [.str (S l), .int i, u]) ∧ Rep H u d := by
  cases r with | tup h hl rs => cases rs with | cons r1 r2 => cases r2 with | cons r2 r3 => cases r3 with | cons r3 r4 => cases r1; cases r2; cases r4; exact ⟨_, _, rfl, h, r3⟩
section
variable {P : Program} {w : World} {K : PySem.W.Frag} {mg : Str → Option Value} {base : Heap}
theorem Gv.none {CX : CXT} {k : Nat} {x : Str} {st : Stmt} {ps : List Str} {sp : Sp} (G : Gv K mg x st ps) (h : ∀ vs H Q E, ¬ sp vs H Q E) : OkD P w K mg base CX k x ps sp := by
  obtain ⟨f, fd, F, hm, hb⟩ := G
  exact ⟨f, fd, hm, F.kp, hb, F.lk, ⟨fun vs H Q E z => absurd z (h vs H Q E), fun A outer s H args us vs Q E _ _ _ _ z => absurd z (h vs H Q E)⟩⟩
theorem ok__law_free (T : Txt K w mg) : OkD P w K mg base CX0 1 "_law_free" p__law_free spFree := by
  refine T.g__law_free.ok sc__law_free (fun vs H Q E h => ?_) (fun f cdv A outer s H vs Q E hr h => ?_)
  · obtain ⟨a, z, tv, r, ws, rfl, _⟩ := h; rfl
  obtain ⟨a, z, tv, r, ws, rfl, ha, hw, hl, q⟩ := h
  refine ⟨_, (pss_cons (ps_if (pt_cmpR op_in_seq (pe_ix ix_list (pv 0) pe_int (fun _ _ => rfl)) (pe_tup (pa_cons pe_str (pa_cons pe_str pa_nil))) (by rfl)) (pss_one (ps_ret (pe_lst pa_nil))) pss_nil)
      (pss_cons (ps_if (pt_cmpR op_eq (pe_ix ix_list (pv 0) pe_int (fun _ _ => rfl)) pe_str (nomark _)) (pss_one (ps_ret (pe_lc (own := [("k", 1)]) (g := gName 1) (tt := tYes) rfl sc__law_free.nd (pi_range3 rfl T.z_range (pa_cons pe_int (pa_cons (pe_callB call_len_seq (by rfl) T.z_len PySem.boot_len (pa_cons (pe_ix ix_list (pv 0) pe_int (fun _ _ => rfl)) pa_nil)) (pa_cons pe_int pa_nil)))) (blkOk_by (own := [("k", 1)]) (N := n__law_free) (sc := defScope s__law_free) (by decide +kernel)) (fun _ _ _ _ _ => (pg_name (i := 1) sc__law_free.nd rfl (Or.inl rfl))) (fun _ _ _ _ _ => pts_nil) (fun _ _ _ _ _ => (pv 1))))) pss_nil)
      (pss_one (ps_ret (pe_lc (own := [("k", 1)]) (g := gName 1) (tt := tYes) rfl sc__law_free.nd (pi_range2 rfl T.z_range (pa_cons (pe_callTy call_int1 (by rfl) T.z_int PyProof.Rows.boot_int (pa_cons (pe_cmpR op_in_seq (pe_ix ix_list (pv 0) pe_int (fun _ _ => rfl)) (pe_tup (pa_cons pe_str (pa_cons pe_str pa_nil))) (by rfl)) pa_nil)) (pa_cons (pe_callB call_len_seq (by rfl) T.z_len PySem.boot_len (pa_cons (pe_ix ix_list (pv 0) pe_int (fun _ _ => rfl)) pa_nil)) pa_nil))) (blkOk_by (own := [("k", 1)]) (N := n__law_free) (sc := defScope s__law_free) (by decide +kernel)) (fun _ _ _ _ _ => (pg_name (i := 1) sc__law_free.nd rfl (Or.inl rfl))) (fun _ _ _ _ _ => pts_nil) (fun _ _ _ _ _ => (pv 1))))))), ?_⟩
  have lim : (1000 : Nat) ≤ sizeLine := by decide
  have two : 2 ≤ sizeLine := by omega
  refine ⟨_, rfl, a, _, 0, _, rfl, rfl, SqL.of ha, rfl, two, fun p0 hp0 => ⟨p0, _, rfl, .inr (SqT.of upd_same), rfl, rfl, _, rfl, ?_⟩⟩
  have s0 := same_new hp0 (.tup [.str (Str.ofString "method"), .str (Str.ofString "iterator")])
  refine ite2 (fun c => ⟨Nat.zero_le _, fun p hp => q p _ (s0.trans (same_new hp _)) (s0.free hp) (by rw [upd_same]; unfold frees; rw [if_pos (show inV (.str z) MI = true from c)]; rfl)⟩) (fun c0 => ?_)
  have c0 : ¬ inV (.str z) MI = true := c0
  refine ⟨_, rfl, a, _, 0, _, rfl, rfl, SqL.of (s0 _ _ ha), rfl, rfl, _, rfl, ite2 (fun c1 => ?_) (fun c1 => ?_)⟩
  · refine ⟨_, rfl, a, _, 2, _, rfl, rfl, SqL.of (s0 _ _ ha), rfl, r, _, rfl, .inl (SqL.of (s0 _ _ hw)), _, _, _, ws.length / 2, rfl, rg2 hl, fun D1 hD1 => ?_⟩
    refine lc_it walk_rangeC (fun i H' => Same H H' ∧ H' D1 = some (.lst (nats ((List.range i).map fun i => 1 + i * 2)))) ⟨s0.trans (same_new hD1 _), upd_same⟩ (fun _ _ _ _ => trivial) ?_ ?_
    · rintro i x H3 H4 hi ⟨s3, h3⟩ ⟨rfl, rfl⟩
      refine ⟨rfl, iteT (B := True) (iteT ?_)⟩
      refine ⟨_, rfl, _, h3, by unfold nats; rw [List.length_map, List.length_map, List.length_range]; omega, same_grow s3 (s0.free hD1), ?_⟩
      rw [upd_same, List.range_succ, List.map_append, nats_app]; rfl
    · rintro H3 ⟨s3, h3⟩
      exact q D1 H3 s3 (s0.free hD1) (by rw [h3]; unfold frees; rw [if_neg c0, if_pos c1])
  · refine ⟨_, rfl, a, _, 0, _, rfl, rfl, SqL.of (s0 _ _ ha), rfl, two, fun p1 hp1 => ⟨p1, _, rfl, .inr (SqT.of upd_same), rfl, rfl, .inr ⟨_, rfl, ?_⟩⟩⟩
    have s1 := s0.trans (same_new hp1 (.tup [.str (Str.ofString "class"), .str (Str.ofString "instance")]))
    refine ⟨_, rfl, a, _, 2, _, rfl, rfl, SqL.of (s1 _ _ ha), rfl, r, _, rfl, .inl (SqL.of (s1 _ _ hw)), ?_⟩
    have e0 : (if (if false = true then !inV (V.str z) [V.str (Str.ofString "class"), V.str (Str.ofString "instance")] else inV (V.str z) [V.str (Str.ofString "class"), V.str (Str.ofString "instance")]) = true then (1 : Int) else 0) = ((i0 z : Nat) : Int) := by
      unfold i0
      show (if inV (V.str z) CI = true then (1 : Int) else 0) = _
      split <;> rfl
    have hi0 := i0_le z
    refine ⟨(i0 z : Int), (ws.length : Int), by rw [← e0], ⟨by omega, by omega, by omega, by omega⟩, fun D1 hD1 => ?_⟩
    refine lc_it walk_range (fun i H' => Same H H' ∧ H' D1 = some (.lst (nats ((List.range i).map fun i => i0 z + i)))) ⟨s1.trans (same_new hD1 _), upd_same⟩ (fun _ _ _ _ => trivial) ?_ ?_
    · rintro i x H3 H4 hi ⟨s3, h3⟩ ⟨rfl, rfl⟩
      refine ⟨rfl, iteT (B := True) (iteT ?_)⟩
      refine ⟨_, rfl, _, h3, by unfold nats; rw [List.length_map, List.length_map, List.length_range]; omega, same_grow s3 (s1.free hD1), ?_⟩
      rw [upd_same, List.range_succ, List.map_append, nats_app]; show some (HO.lst (nats ((List.range i).map fun i => i0 z + i) ++ [V.int ((i0 z : Int) + (i : Int))])) = some (HO.lst (nats ((List.range i).map fun i => i0 z + i) ++ [V.int ((i0 z + i : Nat) : Int)])); rw [show ((i0 z : Int) + (i : Int)) = ((i0 z + i : Nat) : Int) by omega]
    · rintro H3 ⟨s3, h3⟩
      have e : ((ws.length : Int) - (i0 z : Int)).toNat = ws.length - i0 z := by omega
      rw [e] at h3
      exact q D1 H3 s3 (s1.free hD1) (by rw [h3]; unfold frees; rw [if_neg c0, if_neg c1])
theorem okm0__law_moved (T : Txt K w mg) : OkD P w K mg base CX0 1 "_law_moved" p__law_moved spMoved0 := by
  have O : OkD P w K mg base CX0 0 "_law_moved" p__law_moved (fun _ _ _ _ => False) := T.g__law_moved.none fun _ _ _ _ h => h
  refine T.g__law_moved.ok sc__law_moved (fun vs H Q E h => ?_) (fun f cdv A outer s H vs Q E hr h => ?_)
  · obtain ⟨v, t, e, g, m, rfl, _⟩ := h; rfl
  obtain ⟨v, t, e, g, m, rfl, rv, oe, ht, q⟩ := h
  refine ⟨_, (pss_cons (ps_if (pt_cmpR op_eq (pe_ix ix_tup (pv 0) pe_int (fun _ _ => rfl)) pe_str (nomark _)) (pss_one (ps_ret (pe_tup (pa_cons pe_str (pa_cons (pe_ix ix_tup (pv 0) pe_int (fun _ _ => rfl)) (pa_cons (pcall O hr (pa_cons (pe_ix ix_tup (pv 0) pe_int (fun _ _ => rfl)) (pa_cons (pv 1) pa_nil))) pa_nil)))))) pss_nil)
      (pss_cons (ps_if (PW.pt (pw_or (pt_cmpR op_eq (pe_ix ix_tup (pv 0) pe_int (fun _ _ => rfl)) pe_str (nomark _)) (pw_or1 (pt_cmpR op_eq (pe_ix ix_tup (pv 0) pe_int (fun _ _ => rfl)) pe_str (nomark _))))) (pss_one (ps_ret (pe_tup (pa_cons (pe_ix ix_tup (pv 0) pe_int (fun _ _ => rfl)) (pa_cons (pe_ix ix_list (pv 1) (pe_ix ix_tup (pv 0) pe_int (fun _ _ => rfl)) (fun _ _ => rfl)) pa_nil))))) pss_nil)
      (pss_one (ps_ret (pv 0))))), ?_⟩
  have two : 2 ≤ sizeLine := by decide
  have dd : ∀ a c : List Nat, decide (V.str (S a) = V.str (S c)) = decide (a = c) := str_dec
  obtain ⟨n1, n2, n3, n4, n5, n6⟩ := n_rh
  cases e with
  | ref k =>
    obtain ⟨a, rfl, h⟩ := rep_two_inv rv
    refine ⟨_, rfl, a, _, 0, .str (S wRef), rfl, rfl, SqT.of h, rfl, rfl, _, rfl, ?_⟩
    rw [eP, dd, decide_eq_false n2]
    refine iteF ⟨_, rfl, a, _, 0, .str (S wRef), rfl, rfl, SqT.of h, rfl, rfl, _, rfl, ?_⟩
    rw [eR, dd, decide_eq_true rfl]
    refine iteT (iteT ?_)
    refine ⟨_, rfl, a, _, 0, .str (S wRef), rfl, rfl, SqT.of h, rfl, _, rfl, _, rfl, a, _, 1, _, rfl, rfl, SqT.of h, rfl, t, _, _, _, rfl, rfl, SqL.of ht, atI_nat (tbF_at oe), two, fun p hp => ?_⟩
    exact q _ _ (same_new hp _) (Rep.two upd_same (.str wRef) (.int _))
  | hand k =>
    obtain ⟨a, rfl, h⟩ := rep_two_inv rv
    refine ⟨_, rfl, a, _, 0, .str (S wHandled), rfl, rfl, SqT.of h, rfl, rfl, _, rfl, ?_⟩
    rw [eP, dd, decide_eq_false n3]
    refine iteF ⟨_, rfl, a, _, 0, .str (S wHandled), rfl, rfl, SqT.of h, rfl, rfl, _, rfl, ?_⟩
    rw [eR, dd, decide_eq_false n4]
    refine iteF ⟨_, rfl, a, _, 0, .str (S wHandled), rfl, rfl, SqT.of h, rfl, rfl, _, rfl, ?_⟩
    rw [eH, dd, decide_eq_true rfl]
    refine iteT ?_
    refine ⟨_, rfl, a, _, 0, .str (S wHandled), rfl, rfl, SqT.of h, rfl, _, rfl, _, rfl, a, _, 1, _, rfl, rfl, SqT.of h, rfl, t, _, _, _, rfl, rfl, SqL.of ht, atI_nat (tbF_at oe), two, fun p hp => ?_⟩
    exact q _ _ (same_new hp _) (Rep.two upd_same (.str wHandled) (.int _))
  | oth l ds =>
    have rv0 := rv
    obtain ⟨o1, o2, o3, o4⟩ := oe
    obtain ⟨a, us, rfl, h, _⟩ := rep_cons_inv rv
    have z0 : atI (V.str (S l) :: us) ((0 : Nat) : Int) = some (.str (S l)) := atI_nat rfl
    refine ⟨_, rfl, a, _, 0, .str (S l), rfl, rfl, SqT.of h, z0, rfl, _, rfl, ?_⟩
    rw [eP, dd, decide_eq_false o3]
    refine iteF ⟨_, rfl, a, _, 0, .str (S l), rfl, rfl, SqT.of h, z0, rfl, _, rfl, ?_⟩
    rw [eR, dd, decide_eq_false o1]
    refine iteF ⟨_, rfl, a, _, 0, .str (S l), rfl, rfl, SqT.of h, z0, rfl, _, rfl, ?_⟩
    rw [eH, dd, decide_eq_false o2]
    exact iteF ⟨_, rfl, q _ _ (.refl _) rv0⟩
end
end D0
namespace D0
open PySem PySem.Spec PyProof.Rows L2 SX NumText
section
variable {P : Program} {w : World} {K : PySem.W.Frag} {mg : Str → Option Value} {base : Heap}
theorem OkD.imp {CX : CXT} {k : Nat} {x : Str} {ps : List Str} {sp sp' : Sp} (O : OkD P w K mg base CX k x ps sp) (h : ∀ vs H Q E, sp' vs H Q E → sp vs H Q E) : OkD P w K mg base CX k x ps sp' := by
  obtain ⟨f, fd, a, b, c, d, F⟩ := O
  exact ⟨f, fd, a, b, c, d, ⟨fun vs H Q E z => F.len vs H Q E (h _ _ _ _ z), fun A outer s H args us vs Q E r e bt vl z => F.run A outer s H args us vs Q E r e bt vl (h _ _ _ _ z)⟩⟩
theorem OkD.or {CX : CXT} {k : Nat} {x : Str} {ps : List Str} {sp sp' : Sp} (O : OkD P w K mg base CX k x ps sp) (O' : OkD P w K mg base CX k x ps sp') : OkD P w K mg base CX k x ps (fun vs H Q E => sp vs H Q E ∨ sp' vs H Q E) := by
  obtain ⟨f, fd, a, b, c, ⟨oc, od, osl, hl⟩, F⟩ := O
  obtain ⟨f', fd', a', b', c', ⟨oc', od', osl', hl'⟩, F'⟩ := O'
  have e : f' = f := Value.ref.inj (Option.some.inj (a'.symm.trans a))
  subst e
  have e2 := Option.some.inj (hl'.symm.trans hl)
  have e3 : fd' = fd := by cases e2; rfl
  subst e3
  refine ⟨f', fd', a, b, c, ⟨oc, od, osl, hl⟩, ⟨fun vs H Q E z => ?_, fun A outer s H args us vs Q E r e bt vl z => ?_⟩⟩
  · rcases z with z | z
    · exact F.len vs H Q E z
    · exact F'.len vs H Q E z
  · rcases z with z | z
    · exact F.run A outer s H args us vs Q E r e bt vl z
    · exact F'.run A outer s H args us vs Q E r e bt vl z
def spMovedP : Sp := fun vs H Q _ => ∃ (v : V) (t : Addr) (r : Int) (e : En) (f : Nat → Int) (m : Nat), vs = [v, .ref t] ∧ Rep H v ((Ent.pend r e).d ixD) ∧ e.ok m ∧ H t = some (.lst (tbF f m)) ∧ ∀ v' H', Same H H' → Rep H' v' ((Ent.pend r e).d f) → Q v' H'
theorem okmp__law_moved (T : Txt K w mg) : OkD P w K mg base CX0 2 "_law_moved" p__law_moved spMovedP := by
  have O := okm0__law_moved (P := P) (base := base) T
  refine T.g__law_moved.ok sc__law_moved (fun vs H Q E h => ?_) (fun f cdv A outer s H vs Q E hr h => ?_)
  · obtain ⟨v, t, r, e, g, m, rfl, _⟩ := h; rfl
  obtain ⟨v, t, r, e, g, m, rfl, rv, oe, ht, q⟩ := h
  refine ⟨_, (pss_cons (ps_if (pt_cmpR op_eq (pe_ix ix_tup (pv 0) pe_int (fun _ _ => rfl)) pe_str (nomark _)) (pss_one (ps_ret (pe_tup (pa_cons pe_str (pa_cons (pe_ix ix_tup (pv 0) pe_int (fun _ _ => rfl)) (pa_cons (pcall O hr (pa_cons (pe_ix ix_tup (pv 0) pe_int (fun _ _ => rfl)) (pa_cons (pv 1) pa_nil))) pa_nil)))))) pss_nil)
      (pss_cons (ps_if (PW.pt (pw_or (pt_cmpR op_eq (pe_ix ix_tup (pv 0) pe_int (fun _ _ => rfl)) pe_str (nomark _)) (pw_or1 (pt_cmpR op_eq (pe_ix ix_tup (pv 0) pe_int (fun _ _ => rfl)) pe_str (nomark _))))) (pss_one (ps_ret (pe_tup (pa_cons (pe_ix ix_tup (pv 0) pe_int (fun _ _ => rfl)) (pa_cons (pe_ix ix_list (pv 1) (pe_ix ix_tup (pv 0) pe_int (fun _ _ => rfl)) (fun _ _ => rfl)) pa_nil))))) pss_nil)
      (pss_one (ps_ret (pv 0))))), ?_⟩
  obtain ⟨a, u, rfl, h, ru⟩ := rep_pend_inv rv
  refine ⟨_, rfl, a, _, 0, .str (S wPending), rfl, rfl, SqT.of h, rfl, rfl, _, rfl, ?_⟩
  rw [eP, str_dec, decide_eq_true rfl]
  refine iteT ⟨_, rfl, a, _, 1, _, rfl, rfl, SqT.of h, rfl, _, rfl, a, _, 2, _, rfl, rfl, SqT.of h, rfl, _, rfl, u, t, e, g, m, rfl, ru, oe, ht, fun v' H1 s1 r1 => ⟨by show 3 ≤ sizeLine; decide, fun p hp => ?_⟩⟩
  exact q _ _ (s1.trans (same_new hp _)) (Rep.three upd_same (.str wPending) (.int r) (r1.mono (.new hp)))
theorem ok__law_moved (T : Txt K w mg) : OkD P w K mg base CX0 2 "_law_moved" p__law_moved spMoved := by
  refine (((okm0__law_moved T).mono (by omega)).or (okmp__law_moved T)).imp fun vs H Q E h => ?_
  obtain ⟨v, t, e, g, m, rfl, rv, oe, ht, q⟩ := h
  cases e with
  | pl e => exact .inl ⟨v, t, e, g, m, rfl, rv, oe, ht, q⟩
  | pend r e => exact .inr ⟨v, t, r, e, g, m, rfl, rv, oe, ht, q⟩
theorem ok__law_sent (T : Txt K w mg) (O : OkD P w K mg base CX0 2 "_law_moved" p__law_moved spMoved) : OkD P w K mg base CX0 3 "_law_sent" p__law_sent spSent := by
  refine T.g__law_sent.ok sc__law_sent (fun vs H Q E h => ?_) (fun f cdv A outer s H vs Q E hr h => ?_)
  · obtain ⟨a, t, ws, es, g, m, rfl, _⟩ := h; rfl
  obtain ⟨a, t, ws, es, g, m, rfl, ha, rw_, oe, hl, ht, q⟩ := h
  refine ⟨_, (pss_one (ps_ret (pe_lc (own := [("entry", 2)]) (g := gName 2) (tt := tYes) rfl sc__law_sent.nd (pi_list (pv 0)) (blkOk_by (own := [("entry", 2)]) (N := n__law_sent) (sc := defScope s__law_sent) (by decide +kernel)) (fun _ _ _ _ _ => (pg_name (i := 2) sc__law_sent.nd rfl (Or.inl rfl))) (fun _ _ _ _ _ => pts_nil) (fun _ _ _ _ _ => (pcall O hr (pa_cons (pv 2) (pa_cons (pv 1) pa_nil))))))), ?_⟩
  have lim : (1000 : Nat) < sizeLine := by decide
  refine ⟨_, rfl, a, rfl, ⟨ws, SqL.of ha⟩, fun D1 hD1 => ?_⟩
  have wl : ws.length = es.length := by rw [rw_.len]; unfold rowD; rw [List.length_map]
  refine lc_it (walk_list (xs := ws)) (fun i H' => Same H H' ∧ ∃ us, H' D1 = some (.lst us) ∧ Reps H' us (rowD g (es.take i)) ∧ us.length = i) ⟨same_new hD1 _, [], upd_same, .nil, rfl⟩ (fun i H' _ h => SqL.of (h.1 _ _ ha)) ?_ ?_
  · rintro i x H3 H4 hi ⟨s3, us, h3, r3, l3⟩ ⟨rfl, hx⟩
    have hi' : i < es.length := by omega
    obtain ⟨d, hd, rd⟩ := (rw_.mono (.same s3)).get hx
    have hd' : (es.map (Ent.d ixD))[i]? = some d := hd
    rw [List.getElem?_map, List.getElem?_eq_getElem hi'] at hd'
    have hd' : es[i].d ixD = d := Option.some.inj hd'
    subst hd'
    refine ⟨rfl, iteT (B := True) (iteT ?_)⟩
    refine ⟨_, rfl, _, rfl, x, t, es[i], g, m, rfl, rd, oe _ (List.getElem_mem hi'), s3 _ _ ht, fun v' H5 s5 r5 => ?_⟩
    have h5 := s5 _ _ h3
    refine ⟨_, h5, by omega, same_grow (s3.trans s5) hD1, us ++ [v'], upd_same, ?_, by simp [l3]⟩
    have e : es.take (i + 1) = es.take i ++ [es[i]] := by rw [List.take_add_one, List.getElem?_eq_getElem hi']; rfl
    rw [e, rowD_app]
    exact (r3.mono ((Tups.same s5).trans (.lst h5))).app (.one (r5.mono (.lst h5)))
  · rintro H3 ⟨s3, us, h3, r3, l3⟩
    rw [wl, List.take_length] at r3
    exact q D1 us H3 s3 hD1 h3 r3
theorem ixN_nat {n j : Nat} (h : j < n) : ixN n (j : Int) = some j := by
  unfold ixN
  simp
  omega
/-- a list (true) or a tuple at a -/
def SeqW (K : PySem.W.Frag) (H : Hp) : Bool → Addr → List V → Prop
  | true, a, vs => H a = some (.lst vs)
  | false, a, vs => SqT K H a vs ∧ TyX K H (.ref a) (.type "tuple")
def SeqSame (K : PySem.W.Frag) (n : Nat) (H : Hp) (v u : V) : Prop := ∃ kd a c us ws ds, v = .ref a ∧ u = .ref c ∧ SeqW K H kd a us ∧ SeqW K H kd c ws ∧ Reps H us ds ∧ Reps H ws ds ∧ us.length ≤ 2000 ∧ deps ds + 1 < n
def spSame (K : PySem.W.Frag) (n : Nat) : Sp := fun vs H Q _ => ∃ (v u : V), vs = [v, u] ∧ Q (.bl true) H ∧ (SeqSame K n H v u ∨ ∃ d, Rep H v d ∧ Rep H u d ∧ dep d < n)
theorem ok__law_same (T : Txt K w mg) : ∀ n : Nat, OkD P w K mg base CX0 (n + 1) "_law_same" p__law_same (spSame K n)
  | 0 => T.g__law_same.none fun vs H Q E h => by
    obtain ⟨v, u, _, _, h⟩ := h
    rcases h with ⟨_, _, _, _, _, _, _, _, _, _, _, _, _, h⟩ | ⟨_, _, _, h⟩ <;> omega
  | n + 1 => by
    have O := ok__law_same T n
    refine T.g__law_same.ok sc__law_same (fun vs H Q E h => ?_) (fun f cdv A outer s H vs Q E hr h => ?_)
    · obtain ⟨v, u, rfl, _⟩ := h; rfl
    obtain ⟨v, u, rfl, q, h⟩ := h
    refine ⟨_, (pss_cons (ps_if (PW.pt (pw_or (pt_val (pe_callB call_isi (by rfl) T.z_isinstance PyProof.Rows.boot_isinstance (pa_cons (pv 1) (pa_cons (pe_bltn (v := .ty "tuple") rfl T.z_tuple PyProof.Rows.boot_tuple rfl) pa_nil)))) (pw_or1 (pt_val (pe_callB call_isi (by rfl) T.z_isinstance PyProof.Rows.boot_isinstance (pa_cons (pv 1) (pa_cons (pe_bltn (v := .ty "list") rfl T.z_list PyProof.Rows.boot_list rfl) pa_nil))))))) (pss_cons (ps_if (PW.pt (pw_and (pt_val (pe_callB call_isi (by rfl) T.z_isinstance PyProof.Rows.boot_isinstance (pa_cons (pv 1) (pa_cons (pe_bltn (v := .ty "list") rfl T.z_list PyProof.Rows.boot_list rfl) pa_nil)))) (pw_and1 (pt_not (pt_val (pe_callB call_isi (by rfl) T.z_isinstance PyProof.Rows.boot_isinstance (pa_cons (pv 0) (pa_cons (pe_bltn (v := .ty "list") rfl T.z_list PyProof.Rows.boot_list rfl) pa_nil)))))))) (pss_one (ps_ret pe_bl)) pss_nil)
      (pss_cons (ps_if (PW.pt (pw_and (pt_val (pe_callB call_isi (by rfl) T.z_isinstance PyProof.Rows.boot_isinstance (pa_cons (pv 1) (pa_cons (pe_bltn (v := .ty "tuple") rfl T.z_tuple PyProof.Rows.boot_tuple rfl) pa_nil)))) (pw_and1 (pt_not (pt_val (pe_callB call_isi (by rfl) T.z_isinstance PyProof.Rows.boot_isinstance (pa_cons (pv 0) (pa_cons (pe_bltn (v := .ty "tuple") rfl T.z_tuple PyProof.Rows.boot_tuple rfl) pa_nil)))))))) (pss_one (ps_ret pe_bl)) pss_nil)
      (pss_cons (ps_if (pt_cmpR op_ne (pe_callB call_len_seq (by rfl) T.z_len PySem.boot_len (pa_cons (pv 0) pa_nil)) (pe_callB call_len_seq (by rfl) T.z_len PySem.boot_len (pa_cons (pv 1) pa_nil)) (nomark _)) (pss_one (ps_ret pe_bl)) pss_nil)
      (pss_cons (ps_for PassesOwn.never rfl (pi_range1 rfl T.z_range (pa_cons (pe_callB call_len_seq (by rfl) T.z_len PySem.boot_len (pa_cons (pv 1) pa_nil)) pa_nil)) (pg_name (i := 2) sc__law_same.nd rfl (Or.inl rfl)) (pss_one (ps_if (pt_not (pt_val (pcall O hr (pa_cons (pe_ix ix_seq (pv 0) (pv 2) (fun _ _ => rfl)) (pa_cons (pe_ix ix_seq (pv 1) (pv 2) (fun _ _ => rfl)) pa_nil))))) (pss_one (ps_ret pe_bl)) pss_nil)))
      (pss_one (ps_ret pe_bl)))))) pss_nil)
      (pss_cons (ps_if (pt_cmpR op_isN (pv 1) pe_non (nomark _)) (pss_one (ps_ret (pe_cmpR op_isN (pv 0) pe_non (nomark _)))) pss_nil)
      (pss_cons (ps_if (pt_val (pe_callB call_isi (by rfl) T.z_isinstance PyProof.Rows.boot_isinstance (pa_cons (pv 1) (pa_cons (pe_bltn (v := .ty "bool") rfl T.z_bool PyProof.Rows.boot_bool rfl) pa_nil)))) (pss_one (ps_ret (pe_and (pe_callB call_isi (by rfl) T.z_isinstance PyProof.Rows.boot_isinstance (pa_cons (pv 0) (pa_cons (pe_bltn (v := .ty "bool") rfl T.z_bool PyProof.Rows.boot_bool rfl) pa_nil))) (pe_one (pe_cmpR op_eq (pv 0) (pv 1) (nomark _)))))) pss_nil)
      (pss_cons (ps_if (pt_val (pe_callB call_isi (by rfl) T.z_isinstance PyProof.Rows.boot_isinstance (pa_cons (pv 1) (pa_cons (pe_bltn (v := .ty "int") rfl T.z_int PyProof.Rows.boot_int rfl) pa_nil)))) (pss_one (ps_ret (pe_and (pe_callB call_isi (by rfl) T.z_isinstance PyProof.Rows.boot_isinstance (pa_cons (pv 0) (pa_cons (pe_bltn (v := .ty "int") rfl T.z_int PyProof.Rows.boot_int rfl) pa_nil))) (pe_and (pe_not (pe_callB call_isi (by rfl) T.z_isinstance PyProof.Rows.boot_isinstance (pa_cons (pv 0) (pa_cons (pe_bltn (v := .ty "bool") rfl T.z_bool PyProof.Rows.boot_bool rfl) pa_nil)))) (pe_one (pe_cmpR op_eq (pv 0) (pv 1) (nomark _))))))) pss_nil)
      (pss_one (ps_ret (pe_and (pe_callB call_isi (by rfl) T.z_isinstance PyProof.Rows.boot_isinstance (pa_cons (pv 0) (pa_cons (pe_bltn (v := .ty "str") rfl T.z_str PyProof.Rows.boot_str rfl) pa_nil))) (pe_one (pe_cmpR op_eq (pv 0) (pv 1) (nomark _)))))))))), ?_⟩
    have seq : SeqSame K (n + 1) H v u ∨ ∃ d, Rep H v d ∧ Rep H u d ∧ isTup d = false := by
      rcases h with h | ⟨d, r1, r2, hd⟩
      · exact .inl h
      · cases r1 with
        | tup h1 l1 rs1 =>
          cases r2 with
          | tup h2 l2 rs2 =>
            rw [dep_tup] at hd
            exact .inl ⟨false, _, _, _, _, _, rfl, rfl, ⟨SqT.of h1, .base (.tup h1)⟩, ⟨SqT.of h2, .base (.tup h2)⟩, rs1, rs2, l1, by omega⟩
        | non => exact .inr ⟨_, .non, r2, rfl⟩
        | bl b => exact .inr ⟨_, .bl b, r2, rfl⟩
        | int i => exact .inr ⟨_, .int i, r2, rfl⟩
        | str l => exact .inr ⟨_, .str l, r2, rfl⟩
    clear h
    have b1 : kitB "list" "tuple" = some false := by decide +kernel
    have b2 : kitB "list" "list" = some true := by decide +kernel
    have b3 : kitB "tuple" "list" = some false := by decide +kernel
    have b4 : kitB "tuple" "tuple" = some true := by decide +kernel
    rcases seq with ⟨kd, a, c, us, ws, ds, rfl, rfl, h1, h2, rs1, rs2, hl, hd⟩ | ⟨d, r1, r2, hd⟩
    · have hlen : us.length = ws.length := by rw [rs1.len, rs2.len]
      obtain ⟨ty, t1, t2, kt, kl, s1, s2⟩ : ∃ ty : String, TyX K H (.ref a) (.type ty) ∧ TyX K H (.ref c) (.type ty) ∧ kitB ty "tuple" = some (!kd) ∧ kitB ty "list" = some kd ∧ (SqL K H a us ∨ SqT K H a us) ∧ (SqL K H c ws ∨ SqT K H c ws) := by
        cases kd with
        | true => exact ⟨"list", .base (.lst h1), .base (.lst h2), b1, b2, .inl (SqL.of h1), .inl (SqL.of h2)⟩
        | false => exact ⟨"tuple", h1.2, h2.2, b4, b3, .inr h1.1, .inr h2.1⟩
      have ixv : ∀ (a : Addr) (us : List V) (i : Nat) (v : V) (R : VK), (SqL K H a us ∨ SqT K H a us) → us[i]? = some v → R v H → rIx K (.ref a) (.int (0 + (i : Int))) H R := fun a us i v R hs hi hR => by
        rcases hs with hs | hs
        · exact .inl ⟨a, us, _, v, rfl, rfl, hs, by rw [Int.zero_add]; exact atI_nat hi, hR⟩
        · exact .inr (.inl ⟨a, us, _, v, rfl, rfl, hs, by rw [Int.zero_add]; exact atI_nat hi, hR⟩)
      refine via2 (fun hB => ⟨_, rfl, _, _, _, _, _, rfl, .ty _, t2, kit_ty kt, _, rfl, ite2 (fun _ => iteT hB) (fun e => ⟨_, rfl, _, _, _, _, _, rfl, .ty _, t2, kit_ty kl, _, rfl, ite2 (fun _ => hB) (fun e2 => absurd e2 (by cases kd <;> simp_all))⟩)⟩) ?_
      refine via2 (fun hB => ⟨_, rfl, _, _, _, _, _, rfl, .ty _, t2, kit_ty kl, _, rfl, ite2 (fun e => ⟨_, rfl, _, _, _, _, _, rfl, .ty _, t1, kit_ty kl, _, rfl, ite2 (fun e2 => absurd e2 (by rw [e]; decide)) (fun _ => hB)⟩) (fun _ => hB)⟩) ?_
      refine via2 (fun hB => ⟨_, rfl, _, _, _, _, _, rfl, .ty _, t2, kit_ty kt, _, rfl, ite2 (fun e => ⟨_, rfl, _, _, _, _, _, rfl, .ty _, t1, kit_ty kt, _, rfl, ite2 (fun e2 => absurd e2 (by rw [e]; decide)) (fun _ => hB)⟩) (fun _ => hB)⟩) ?_
      refine ⟨_, rfl, a, _, rfl, s1, _, rfl, c, _, rfl, s2, rfl, _, rfl, ?_⟩
      rw [hlen]
      refine ite2 (fun c => absurd c (by simp)) (fun _ => ?_)
      refine ⟨_, rfl, c, _, rfl, s2, (ws.length : Int), rfl, by omega, by omega, ?_⟩
      refine for_range (lo := 0) (n := ws.length) (fun i σ H' => ∃ y, σ = [some (.ref a), some (.ref c), y] ∧ H' = H) ⟨none, rfl, rfl⟩ ?_ ?_
      · rintro i σ H' hi ⟨y, rfl, rfl⟩
        have hi1 : i < us.length := by omega
        obtain ⟨d1, e1, x1⟩ := rs1.get (List.getElem?_eq_getElem hi1)
        obtain ⟨d2, e2, x2⟩ := rs2.get (List.getElem?_eq_getElem hi)
        have ed : d1 = d2 := Option.some.inj (e1.symm.trans e2)
        subst ed
        have hdm := deps_mem (Nat.le_refl _) d1 (List.mem_of_getElem? e1)
        refine ⟨_, rfl, _, rfl, ixv a us i _ _ s1 (List.getElem?_eq_getElem hi1) ?_⟩
        refine ⟨_, rfl, _, rfl, ixv c ws i _ _ s2 (List.getElem?_eq_getElem hi) ?_⟩
        exact ⟨_, _, rfl, ⟨_, rfl, iteF ⟨_, rfl, rfl⟩⟩, .inr ⟨d1, x1, x2, by omega⟩⟩
      · rintro σ H' ⟨y, rfl, rfl⟩
        exact q
    · have isi2 := (r2.ty (K := K))
      have isi1 := (r1.ty (K := K))
      refine ⟨_, rfl, _, _, _, _, _, rfl, .ty _, isi2, kit_ty (kit_t d), _, rfl, ?_⟩
      rw [hd]
      refine iteF ⟨_, rfl, _, _, _, _, _, rfl, .ty _, isi2, kit_ty (kit_l d), _, rfl, iteF ?_⟩
      cases r1 with
      | tup h1 rs1 => exact absurd (show true = false from hd) (by decide)
      | non =>
        cases r2
        exact ⟨_, rfl, rfl, _, rfl, iteT ⟨_, rfl, rfl, q⟩⟩
      | bl b =>
        cases r2
        refine ⟨_, rfl, rfl, _, rfl, iteF ?_⟩
        refine ⟨_, rfl, _, _, _, _, _, rfl, .ty _, isi2, kit_ty (kit_b (.bl b)), _, rfl, iteT ?_⟩
        refine ⟨_, rfl, _, _, _, _, _, rfl, .ty _, isi1, kit_ty (kit_b (.bl b)), _, rfl, iteT ⟨_, rfl, _, rfl, rfl, ?_⟩⟩
        rw [decide_eq_true rfl]; exact q
      | int i =>
        cases r2
        refine ⟨_, rfl, rfl, _, rfl, iteF ?_⟩
        refine ⟨_, rfl, _, _, _, _, _, rfl, .ty _, isi2, kit_ty (kit_b (.int i)), _, rfl, iteF ?_⟩
        refine ⟨_, rfl, _, _, _, _, _, rfl, .ty _, isi2, kit_ty (kit_i (.int i)), _, rfl, iteT ?_⟩
        refine ⟨_, rfl, _, _, _, _, _, rfl, .ty _, isi1, kit_ty (kit_i (.int i)), _, rfl, iteT ?_⟩
        refine ⟨_, rfl, _, _, _, _, _, rfl, .ty _, isi1, kit_ty (kit_b (.int i)), _, rfl, _, rfl, iteT ⟨_, rfl, _, rfl, rfl, ?_⟩⟩
        rw [decide_eq_true rfl]; exact q
      | str x =>
        cases r2
        refine ⟨_, rfl, rfl, _, rfl, iteF ?_⟩
        refine ⟨_, rfl, _, _, _, _, _, rfl, .ty _, isi2, kit_ty (kit_b (.str x)), _, rfl, iteF ?_⟩
        refine ⟨_, rfl, _, _, _, _, _, rfl, .ty _, isi2, kit_ty (kit_i (.str x)), _, rfl, iteF ?_⟩
        refine ⟨_, rfl, _, _, _, _, _, rfl, .ty _, isi1, kit_ty (kit_s (.str x)), _, rfl, iteT ⟨_, rfl, _, rfl, rfl, ?_⟩⟩
        rw [decide_eq_true rfl]; exact q
end
end D0
/-! dicts whose keys are ints and None, their values True -/
namespace ND
open PySem PySem.Spec PyProof.Rows L2
abbrev OK := Option Int
def oIs : OK → Value → Bool
  | none, .none => true
  | none, _ => false
  | some i, u => u.isInt i
def oH : OK → Int
  | none => reduceHash 0xFCA86420
  | some i => hashInt i
def oV : OK → V
  | none => .non
  | some i => .int i
theorem oIs_cases : ∀ {k : OK} {u : Value}, oIs k u = true → (k = none ∧ u = .none) ∨ ∃ i t, k = some i ∧ u = Value.int i t
  | none, u, h => by
    cases u <;> first | exact .inl ⟨rfl, rfl⟩ | exact absurd h (by decide) | exact absurd h Bool.false_ne_true
  | some i, u, h => by
    obtain ⟨t, e⟩ := Value.isInt_shape (k := i) (v := u) h
    exact .inr ⟨i, t, rfl, e⟩
theorem oIs_int (i : Int) (t : Tok) : oIs (some i) (.int i t) = true := keyIs_int i t
theorem oIs_rel {k : OK} {u : Value} (h : oIs k u = true) : RelV (oV k) u := by
  rcases oIs_cases h with ⟨rfl, rfl⟩ | ⟨i, t, rfl, rfl⟩
  · rfl
  · exact ⟨t, rfl⟩
theorem rel_oIs {k : OK} {u : Value} (h : RelV (oV k) u) : oIs k u = true := by
  cases k with
  | none => cases (show u = Value.none from h); rfl
  | some i =>
    obtain ⟨t, rfl⟩ := h
    exact oIs_int i t
theorem oIs_inj {a c : OK} {u : Value} (h : oIs a u = true) (g : oIs c u = true) : a = c := by
  rcases oIs_cases h with ⟨rfl, rfl⟩ | ⟨i, t, rfl, rfl⟩ <;> rcases oIs_cases g with ⟨rfl, e⟩ | ⟨j, t', rfl, e⟩
  · rfl
  · cases e
  · cases e
  · cases e; rfl
theorem oIs_val {k : OK} {u : Value} (h : oIs k u = true) : carriedByValue u = true := by
  rcases oIs_cases h with ⟨rfl, rfl⟩ | ⟨i, t, rfl, rfl⟩ <;> rfl
section
variable {prog : Program} {w : World} {A : Around} {E : Value → Shared → Prop} {s : Shared}
theorem o_hash {k : OK} {u : Value} {Q : Int → Shared → Prop} (hu : A.units + 1 < cLine) (h : oIs k u = true) (q : Q (oH k) { s with toks := s.toks + 1 }) : wpAny (model prog w) A (PySem.pyHash u) Q E s := by
  rcases oIs_cases h with ⟨rfl, rfl⟩ | ⟨i, t, rfl, rfl⟩
  · exact W.pyHash_slot (T := "NoneType") rfl F.slot_NoneType_hash F.entry_NoneType_hash (F.args_NoneType_hash_1 _) (beq_builtin_none _) (.inr (by omega)) (wpAny_bind (wpAny_pure (wpAny_bind (wpAny_mkInt (wpAny_pure ⟨_, _, rfl, q⟩)))))
  · exact wpAny_pyHash_int q
theorem o_eq {a c : OK} {u v : Value} {Q : Bool → Shared → Prop} (h : oIs a u = true) (g : oIs c v = true) (q : Q (decide (a = c)) s) : wpAny (model prog w) A (PySem.eqBool u v) Q E s := by
  rcases oIs_cases h with ⟨rfl, rfl⟩ | ⟨i, t, rfl, rfl⟩ <;> rcases oIs_cases g with ⟨rfl, rfl⟩ | ⟨j, t', rfl, rfl⟩
  · exact SeqAt.EqAt.same _ _ _ _ _ q
  · exact SeqAt.EqAt.none_int _ _ _ _ _ _ q
  · exact SeqAt.EqAt.int_none _ _ _ _ _ _ q
  · have e : decide ((some i : OK) = some j) = (i == j) := by
      by_cases z : i = j
      · subst z; simp
      · rw [decide_eq_false (fun y => z (Option.some.inj y))]; exact (beq_eq_false_iff_ne.mpr z).symm
    rw [e] at q
    exact wpAny_eqBool_int q
/-- the entries of es are the keys ks -/
structure Ents (es : Array DictEntry) (ks : List OK) : Prop where
  sz : es.size = ks.length
  en : ∀ (i : Nat) (h : i < es.size) (g : i < ks.length), oIs ks[i] es[i].key = true ∧ es[i].hash = oH ks[i] ∧ es[i].val = Value.bool true
theorem Ents.find {es : Array DictEntry} {ks : List OK} (X : Ents es ks) (k : OK) : es.findIdx? (fun e => oIs k e.key) = ks.findIdx? (fun x => decide (x = k)) := by
  have sz := X.sz
  have same : ∀ (i : Nat) (h : i < es.size) (g : i < ks.length), oIs k es[i].key = decide (ks[i] = k) := fun i h g => by
    have h1 := (X.en i h g).1
    by_cases e : ks[i] = k
    · rw [decide_eq_true e, ← e]; exact h1
    · rw [decide_eq_false e]
      cases z : oIs k es[i].key with
      | false => rfl
      | true => exact absurd (oIs_inj h1 z) e
  cases f : ks.findIdx? (fun x => decide (x = k)) with
  | none =>
    refine Array.findIdx?_eq_none_iff.mpr fun e he => ?_
    obtain ⟨j, hj, rfl⟩ := Array.mem_iff_getElem.mp he
    rw [same j hj (by omega)]
    have := List.findIdx?_eq_none_iff.mp f ks[j] (List.getElem_mem _)
    simpa using this
  | some i =>
    obtain ⟨hi, h1, h2⟩ := List.findIdx?_eq_some_iff_getElem.mp f
    refine Array.findIdx?_eq_some_iff_getElem.mpr ⟨by omega, by rw [same i (by omega) hi]; exact h1, fun j hj => ?_⟩
    rw [same j (by omega) (by omega)]
    exact h2 j hj
theorem o_find {d : Addr} {o : Obj} {es : Array DictEntry} {ep : Nat} {ks : List OK} {k : OK} {u : Value} {Q : Option Nat → Shared → Prop} (hkey : oIs k u = true) (ho : s.heap.get? d = some o) (hd : o.data = .dict es ep) (X : Ents es ks)
    (q : Q (ks.findIdx? fun x => decide (x = k)) s) : wpAny (model prog w) A (dictFind d u (oH k)) Q E s := by
  have sz := X.sz
  rw [← X.find k] at q
  have miss : ∀ j (hj : j < es.size), ((es[j]?.map (·.hash)) == some (oH k)) = false → oIs k es[j].key = false := by
    intro j hj hp
    obtain ⟨h1, h2, _⟩ := X.en j hj (by omega)
    cases z : oIs k es[j].key with
    | false => rfl
    | true =>
      have e := oIs_inj z h1
      rw [Array.getElem?_eq_getElem hj, Option.map_some, h2, ← e] at hp
      simp at hp
  have plain : ((u :: (placesWithHash es.size (fun i => es[i]?.map (·.hash)) (oH k)).filterMap fun i => es[i]?.map (·.key)).all carriedByValue) = true := by
    rw [List.all_cons, List.all_eq_true.mpr, Bool.and_true]
    · exact oIs_val hkey
    · intro v hv
      obtain ⟨i, _, hi⟩ := List.mem_filterMap.mp hv
      by_cases hlt : i < es.size
      · rw [Array.getElem?_eq_getElem hlt] at hi
        have ev : es[i].key = v := by simpa using hi
        rw [← ev]
        exact oIs_val (X.en i hlt (by omega)).1
      · rw [Array.getElem?_eq_none (by omega)] at hi; cases hi
  unfold dictFind
  try with_reducible refine wpAny_holding ?_
  refine wpAny_bind (wpAny_dictEntries ho hd ?_)
  dsimp only
  rw [if_pos plain]
  have walk : wpAny (model prog w) A (dictWalkPlain d u (oH k) es (placesWithHash es.size (fun i => es[i]?.map (·.hash)) (oH k))) Q E s := by
    refine wpAny_bind ?_
    refine wpAny_forIn_list _
      (fun rest b s' => s' = s ∧ b = (none, ()) ∧ ∃ i, rest = (List.range' i (es.size - i)).filter (fun i => (es[i]?.map (·.hash)) == some (oH k)) ∧ i ≤ es.size ∧ ∀ j (hj : j < es.size), j < i → oIs k es[j].key = false) _ ?_ ?_ _ _
      ⟨rfl, rfl, 0, by rw [placesWithHash, List.range_eq_range', Nat.sub_zero], Nat.zero_le _, fun _ _ h => absurd h (Nat.not_lt_zero _)⟩
    · rintro x rest b s' ⟨rfl, rfl, i, hr, hi, hno⟩
      obtain ⟨hix, hxn, hpx, hskip, hrest⟩ := filter_range'_cons _ _ _ _ _ hr.symm
      have hlt : x < es.size := by omega
      obtain ⟨g1, g2, _⟩ := X.en x hlt (by omega)
      generalize ks[x]'(by omega) = k' at g1 g2
      have his : oIs k es[x].key = decide (k = k') := by
        by_cases e : k = k'
        · rw [decide_eq_true e, e]; exact g1
        · rw [decide_eq_false e]
          cases z : oIs k es[x].key with
          | false => rfl
          | true => exact absurd (oIs_inj z g1) e
      have onw : ¬ k' = k → ∃ i, rest = (List.range' i (es.size - i)).filter (fun i => (es[i]?.map (·.hash)) == some (oH k)) ∧ i ≤ es.size ∧ ∀ j (hj : j < es.size), j < i → oIs k es[j].key = false := fun hne => by
        refine ⟨x + 1, by rw [hrest]; congr 2; omega, hlt, fun j hj hji => ?_⟩
        by_cases c1 : j < i
        · exact hno j hj c1
        · by_cases c2 : j < x
          · exact miss j hj (hskip j (by omega) c2)
          · have : j = x := by omega
            subst this
            rw [his]; exact decide_eq_false fun e => hne e.symm
      simp only [Array.getElem?_eq_getElem hlt]
      by_cases hh : (es[x].hash == oH k) = true
      · rw [if_pos hh]
        refine wpAny_bind (wpAny_dictEpoch ho hd (wpAny_bind (o_eq (a := k') (c := k) g1 hkey (wpAny_bind (wpAny_dictEpoch ho hd ?_)))))
        show wpAny _ _ (if (ep != ep) = true then _ else _) _ E _
        rw [if_neg (by simp)]
        by_cases hkk : k' = k
        · rw [decide_eq_true hkk]
          have f : (es.findIdx? fun e => oIs k e.key) = some x := by
            refine Array.findIdx?_eq_some_iff_getElem.mpr ⟨hlt, by rw [his]; exact decide_eq_true hkk.symm, fun j hji => ?_⟩
            by_cases c1 : j < i
            · simp [hno j (by omega) c1]
            · simp [miss j (by omega) (hskip j (by omega) hji)]
          rw [f] at q
          exact wpAny_bind (wpAny_rule (wpAny_pure (wpAny_pure q)))
        · rw [decide_eq_false hkk]
          exact wpAny_bind (wpAny_rule (wpAny_pure ⟨rfl, rfl, onw hkk⟩))
      · rw [if_neg hh]
        refine wpAny_pure ⟨rfl, rfl, onw fun hkk => ?_⟩
        rw [g2, hkk] at hh; simp at hh
    · rintro b s' ⟨rfl, rfl, i, hr, hi, hno⟩
      have none' : (es.findIdx? fun e => oIs k e.key) = none := by
        refine Array.findIdx?_eq_none_iff.mpr fun e he => ?_
        obtain ⟨j, hj, rfl⟩ := Array.mem_iff_getElem.mp he
        by_cases c1 : j < i
        · simp [hno j hj c1]
        · have := List.filter_eq_nil_iff.mp hr.symm j (List.mem_range'_1.mpr ⟨by omega, by omega⟩)
          simp [miss j hj (by simpa using this)]
      rw [none'] at q
      exact wpAny_pure q
  split
  next y t =>
    rcases oIs_cases hkey with ⟨_, e⟩ | ⟨_, _, _, e⟩ <;> cases e
  next => exact walk
/-- the dict at d -/
def DAt (h : Heap) (d : Addr) (ks : List OK) : Prop := ∃ o es ep, h.get? d = some o ∧ o.ExactDict ∧ o.data = .dict es ep ∧ Ents es ks
def addK (ks : List OK) (k : OK) : List OK := if k ∈ ks then ks else ks ++ [k]
theorem addK_len (ks : List OK) (k : OK) : (addK ks k).length ≤ ks.length + 1 := by
  unfold addK
  split
  · omega
  · simp
theorem o_set {d : Addr} {ks : List OK} {k : OK} {u : Value} {Q : Unit → Shared → Prop} (hu : A.units + 1 < cLine) (hkey : oIs k u = true) (hm : DAt s.heap d ks) (hsz : ks.length ≤ sizeLine)
    (hQ : ∀ h', DAt h' d (addK ks k) → Heap.SameBut d s.heap h' → Q () { s with heap := h', toks := s.toks + 1 }) : wpAny (model prog w) A (dictSet d u (.bool true)) Q E s := by
  obtain ⟨o, es, ep, ho, hc, hd, X⟩ := hm
  have sz := X.sz
  unfold dictSet
  try with_reducible refine wpAny_holding ?_
  refine wpAny_bind (o_hash hu hkey ?_)
  unfold dictSetHashed
  try with_reducible refine wpAny_holding ?_
  refine wpAny_bind (o_find (s := { s with toks := s.toks + 1 }) hkey ho hd X ?_)
  cases f : ks.findIdx? (fun x => decide (x = k)) with
  | some i =>
    obtain ⟨hi, h1, _⟩ := List.findIdx?_eq_some_iff_getElem.mp f
    have hin : k ∈ ks := by rw [← of_decide_eq_true h1]; exact List.getElem_mem hi
    have ea : addK ks k = ks := by unfold addK; rw [if_pos hin]
    rw [ea] at hQ
    refine wpAny_bind (wpAny_rule (wpAny_bind (wpAny_updateDict (s := { s with toks := s.toks + 1 }) ho hd (wpAny_point (hQ _ ⟨_, _, ep, Heap.get?_update_self _ ho (Obj.isFreed_of_dict (Obj.data_mapDict hd _)), hc.mapDict _, Obj.data_mapDict hd _, ?_⟩ (Heap.SameBut.update ..))))))
    refine ⟨by rw [Array.size_modify]; exact sz, fun j h g => ?_⟩
    rw [Array.size_modify] at h
    obtain ⟨e1, e2, e3⟩ := X.en j h g
    rw [Array.getElem_modify]
    split
    · exact ⟨e1, e2, rfl⟩
    · exact ⟨e1, e2, e3⟩
  | none =>
    have hnot : k ∉ ks := fun m => by
      have := List.findIdx?_eq_none_iff.mp f k m
      simp at this
    have ea : addK ks k = ks ++ [k] := by unfold addK; rw [if_neg hnot]
    rw [ea] at hQ
    refine wpAny_bind (wpAny_rule (wpAny_updateDictKeys (hz := by omega) (s := { s with toks := s.toks + 1 }) ho hd (hQ _ ⟨_, _, ep + 1, Heap.get?_update_self _ ho (Obj.isFreed_of_dict (Obj.data_mapDictKeys hd _)), hc.mapDictKeys _, Obj.data_mapDictKeys hd _, ?_⟩ (Heap.SameBut.update ..))))
    refine ⟨by rw [Array.size_push, List.length_append, sz]; rfl, fun j h g => ?_⟩
    rw [Array.size_push] at h
    by_cases c : j < es.size
    · rw [Array.getElem_push_lt c, List.getElem_append_left (by omega)]
      exact X.en j c (by omega)
    · have e : j = es.size := by omega
      subst e
      rw [Array.getElem_push_eq, List.getElem_append_right (by omega)]
      simp only [sz, Nat.sub_self, List.getElem_cons_zero]
      exact ⟨hkey, trivial, trivial⟩
end
end ND
/-! N2: such a dict on the abstract heap: made by a comprehension, its keys walked -/
namespace ND
open PySem PySem.Spec PyProof.Rows L2
def nD (d : Addr) (ks : List OK) : HO := .ext fun h => (d == sysModules) = false ∧ ks.length ≤ sizeLine ∧ DAt h d ks
theorem DAt.only {h g : Heap} {d : Addr} {ks : List OK} (x : DAt h d ks) (k : ∀ o, h.get? d = some o → g.get? d = some o) : DAt g d ks :=
  let ⟨o, es, ep, e, r⟩ := x; ⟨o, es, ep, k o e, r⟩
theorem nD_ok {P : Program} {w : World} {H : Hp} {h : Heap} {d : Addr} {ks : List OK} (a : (d == sysModules) = false) (z : ks.length ≤ sizeLine) (x : DAt h d ks) : ObjOk P w H h d (nD d ks) :=
  ⟨⟨a, z, x⟩, let ⟨o, _, _, e, _⟩ := x; ⟨o, e⟩, fun _ _ ⟨a', z', y⟩ k => ⟨a', z', y.only k⟩⟩
theorem nD_new (h : Heap) (big : sysModules < h.objs.size) {P : Program} {w : World} {H : Hp} : ObjOk P w H (h.push { cls := .type "dict", data := .dict #[] }) h.objs.size (nD h.objs.size []) :=
  nD_ok (beq_eq_false_iff_ne.mpr (Nat.ne_of_gt big)) (Nat.zero_le _) ⟨_, #[], 0, Heap.get?_push_size _ rfl, ⟨rfl, rfl, rfl⟩, rfl, rfl, fun i hi => absurd hi (Nat.not_lt_zero i)⟩
section
variable {X : Cx} {pins : List (Addr × Obj)} {σ : L2.St} {H : Hp} {s : Shared}
theorem o_put {E : Value → Shared → Prop} {D : Addr} {ks : List OK} {k : OK} {u : Value} {Q : Unit → Shared → Prop} (hu : X.A.units + 1 < cLine) (I : Inv X pins σ H s) (e : H D = some (nD D ks)) (z : ks.length < sizeLine) (r : RelV (oV k) u)
    (q : ∀ s', Inv X pins σ (upd H D (nD D (addK ks k))) s' → Q () s') : wpAny (model X.prog X.w) X.A (dictSet D u (.bool true)) Q E s := by
  obtain ⟨⟨a, _, x⟩, _⟩ := (show ObjOk X.prog X.w H s.heap D (nD D ks) from I.hok D _ e)
  refine o_set hu (rel_oIs r) x (Nat.le_of_lt z) fun g y sb => q _ (d_write I (by rw [e]; exact True.intro) sb (let ⟨o, _, _, eo, _⟩ := y; ⟨o, eo⟩) (nD_ok a (by have := addK_len ks k; omega) y))
end
abbrev EB (X : Cx) (scope : Scope) (F : Cx → Prop) : Prop := ∀ (s : Shared) (H : Hp) (C : Addr) (cl : List (Str × Addr)) (fp : List Addr), F (X.blk s H scope (compEnvC scope cl C X.env) fp)
/-- {k: True for target in iter}: D the new dict -/
def tDcO (wi : TI) (g : TG) (tk tv : TE) (vs : List Nat) : TE := fun σ H Q => wi σ H fun J H1 => ∀ D, H1 D = none → ∃ W : Nat → Nat → Hp → Prop, (∃ m, W 0 m (upd H1 D (nD D []))) ∧ ∀ i m H, W i m H →
  (J.stop i H ∧ Q (.ref D) H) ∨ (J.go i H ∧ ∃ Z : Hp → Prop, (∀ G, Z G → ∃ m', m' < m ∧ W (i + 1) m' G) ∧ ∀ x G, J.yld i H x G → g x (wipe σ vs) G fun σ2 G2 => wipe σ2 vs = wipe σ vs ∧
    tk σ2 G2 fun y G3 => tv σ2 G3 fun z G4 => ∃ ks k, y = oV k ∧ z = .bl true ∧ G4 D = some (nD D ks) ∧ ks.length < sizeLine ∧ Z (upd G4 D (nD D (addK ks k))))
section
variable {X : Cx}
theorem dcO {pins : List (Addr × Obj)} {s : Shared} {σ : L2.St} {H : Hp} {Q : VK} {kx vx tg iter : Expr} {scope : Scope} {own : List (Str × Nat)} {pos pos' : Pos} {wi : TI} {g : TG} {tk tv : TE} {use : Option (Value → Sem Unit)} {Qf : Value → Shared → Prop}
    (hu : X.A.units + 1 < cLine) (calm : X.calm = true) (nd : X.N.Nodup) (I : Inv X pins σ H s) (pI : PI X tg iter wi) (bk : BlkOk X.N X.env.scope scope own)
    (bg : EB X scope fun Y => PG Y tg g) (bkx : EB X scope fun Y => PE Y kx tk) (bvx : EB X scope fun Y => PE Y vx tv) (fo : ∀ x, foldedSetIterable iter X.env x = pure x)
    (h : tDcO wi g tk tv (own.map (·.2)) σ H Q)
    (fin : ∀ D C s' m G, Inv X pins σ G s' → Q (.ref D) G → s'.heap.Ns C m → FpOk X pins G C → compPost (model X.prog X.w) X.A X.xe use Qf (.ref D) C (.ok .next) s') :
    wpAny (model X.prog X.w) X.A (comprehension (.DictComp kx vx [⟨tg, iter, [], 0⟩] scope pos) scope X.env pos' newDict false (eval iter X.env) use) Qf X.xe s := by
  have fr : ∀ y ∈ scope.names, y.2 = .free → ∃ c, X.env.cells.lookup y.1 = some c := by
    intro y my ey
    cases bk.free y my ey with
    | inl k => exact I.ok.has _ (.inl k)
    | inr k => exact I.ok.has _ (.inr k)
  refine wpAny_comprehension_free (use := use) rfl fo (closure_ok fr) bk.kind (fun y my ey => by rw [bk.uniq y my, ey]) (thn (pI.run pins s σ H _ I h) fun xv sa ha => thn ha fun _ sb hb => ?_)
  obtain ⟨it, fp, tn, J, Hb, rfl, Ib, T, tb, fb, q⟩ := hb
  refine wpAny_newObj_type (newEnv_comp ?_)
  generalize eD : sb.heap.objs.size = D
  obtain ⟨W, ⟨m0, w0⟩, turn⟩ := q D (Ib.hok.fresh (Nat.le_of_eq eD))
  generalize ec : ({ sb with heap := sb.heap.push { cls := .type "dict", data := .dict #[] } } : Shared) = sc
  have hc : sc.heap = sb.heap.push { cls := .type "dict", data := .dict #[] } := by rw [← ec]
  have Ic : Inv X pins σ (upd Hb D (nD D [])) sc := by
    rw [← ec]
    refine Ib.laid (t' := sb.toks) (fun b o e => Heap.get?_push_of_some _ e) (Nat.le_of_eq eD) ?_
    rw [← eD]
    exact nD_new sb.heap Ib.big
  have fc : ∀ b ∈ fp, FpOk X pins (upd Hb D (nD D [])) b ∧ b < sc.heap.objs.size := by
    intro b mb
    obtain ⟨ob, eb, _⟩ := T.obj _ _ tb b mb
    have lt := Heap.lt_size eb
    obtain ⟨f1, f2⟩ := fb b mb
    exact ⟨⟨by rw [upd_ne (fun z => by rw [z, ← eD] at lt; exact Nat.lt_irrefl _ lt)]; exact f1, f2⟩, by rw [hc, Heap.size_push]; exact Nat.lt_succ_of_lt lt⟩
  have tc : tn 0 sc.heap := T.keep _ _ _ tb fun b _ o e => by rw [hc]; exact Heap.get?_push_of_some _ e
  have Id := block_start Ic bk nd fc
  have yg := bg sc (upd Hb D (nD D [])) sc.heap.objs.size (cellsFrom (sc.heap.objs.size + 1) scope.names (cloFrom X.env.cells scope.names [])) fp
  have yk := bkx sc (upd Hb D (nD D [])) sc.heap.objs.size (cellsFrom (sc.heap.objs.size + 1) scope.names (cloFrom X.env.cells scope.names [])) fp
  have yv := bvx sc (upd Hb D (nD D [])) sc.heap.objs.size (cellsFrom (sc.heap.objs.size + 1) scope.names (cloFrom X.env.cells scope.names [])) fp
  show codeAny _ _ (.compStart (.DictComp kx vx [⟨tg, iter, [], 0⟩] scope pos) 0 (.ref it) (.ref D) (compEnvC scope (cellsFrom (sc.heap.objs.size + 1) scope.names (cloFrom X.env.cells scope.names [])) sc.heap.objs.size X.env)) (compPost (model X.prog X.w) X.A X.xe use Qf (.ref D) sc.heap.objs.size) { sc with heap := pushCells (sc.heap.push { cls := .type "dict", data := .dict #[] }) scope.names }
  generalize ee : compEnvC scope (cellsFrom (sc.heap.objs.size + 1) scope.names (cloFrom X.env.cells scope.names [])) sc.heap.objs.size X.env = ce at Id yg yk yv ⊢
  have eL : ce.locals = sc.heap.objs.size := by subst ee; rfl
  have nofp : ∀ b ∈ fp, (upd Hb D (nD D [])) b = none := fun b mb => (fc b mb).1.1
  generalize eH : upd Hb D (nD D []) = Hc at Ic Id yg yk yv w0 nofp fc
  generalize es : ({ sc with heap := pushCells (sc.heap.push { cls := .type "dict", data := .dict #[] }) scope.names } : Shared) = sd at Id ⊢
  have td : tn 0 sd.heap := T.keep _ _ _ tc fun b _ o e => by rw [← es]; exact pushCells_keeps _ _ _ _ (Heap.get?_push_of_some _ e)
  have fps : ∀ {σ' : L2.St} {G : Hp} {s' : Shared}, Inv (X.blk sc Hc scope ce fp) [] σ' G s' → (∀ b ∈ fp, G b = none) → ∀ b ∈ fp, FpOk (X.blk sc Hc scope ce fp) [] G b := by
    intro σ' G s' J' no b mb
    exact ⟨no b mb, (J'.ok.exf b mb).1, J'.ok.exfs b mb, .inl mb, fun x c e => (J'.ok.exf b mb).2 x c e, fun p mp => absurd (show p ∈ ([] : List (Addr × Obj)) ++ [] from mp) (by simp)⟩
  have loop : codeAny (model X.prog X.w) X.A (.compLoop (.DictComp kx vx [⟨tg, iter, [], 0⟩] scope pos) 0 (.ref it) (.ref D) ce) (compPost (model X.prog X.w) X.A X.xe use Qf (.ref D) sc.heap.objs.size) sd := by
    refine compLoop_anyD (fun n s' => ∃ i G, Inv (X.blk sc Hc scope ce fp) [] (wipe σ (own.map (·.2))) G s' ∧ tn i s'.heap ∧ (∀ b ∈ fp, G b = none) ∧ W i n G) ?_ m0 ⟨0, Hc, Id, td, nofp, w0⟩
    rintro n s5 ⟨i, H5, I5, t5, n5, w5⟩
    rcases turn i n H5 w5 with ⟨stop, done⟩ | ⟨go, Z, hZ, step⟩
    · refine thnF (T.done (X.blk sc Hc scope ce fp) rfl rfl rfl calm i [] s5 _ H5 (fun _ _ => False) I5 (fps I5 n5) t5 stop) fun r s6 ⟨er, I6⟩ => ?_
      subst er
      have back : Inv X pins σ H5 s6 := Ic.call' (ch := fp) I6.os I6.base I6.hok I6.bare fun b mb => ⟨(fc b mb).1.2.2.2.1, (fc b mb).1.2.1, (fc b mb).1.2.2.2.2.1, (fc b mb).1.2.2.2.2.2⟩
      have noC : H5 ce.locals = none := I6.free
      obtain ⟨m, hm, _⟩ := I6.loc
      have hm : s6.heap.Ns ce.locals m := hm
      rw [eL] at hm noC
      exact fin D sc.heap.objs.size s6 m H5 back done hm (Ic.fpOk (Nat.le_refl _) noC)
    · refine thnF (T.item (X.blk sc Hc scope ce fp) rfl rfl rfl calm i [] s5 _ H5 (fun _ _ => False) I5 (fps I5 n5) t5 go) fun r s6 ⟨u, er, h6⟩ => ?_
      subst er
      refine thnF h6 fun _ s7 ⟨x, H7, I7, r7, y7, t7, n7⟩ => ?_
      refine thnF (yg.run _ s7 _ H7 x u _ (I7.pinned (fps I7 n7) (T.obj _ _ t7)) r7 (step x H7 y7)) fun _ s8 ⟨σ8, H8, I8, ew, q8⟩ => ?_
      refine wpAny_pure ?_
      rw [if_pos rfl]
      refine thnF (yk.run _ s8 σ8 H8 _ I8 q8) fun z s9 ⟨kk, H9, I9, r9, q9⟩ => ?_
      refine thnF (yv.run _ s9 σ8 H9 _ I9 q9) fun z2 s10 ⟨vv, H10, I10, r10, ks, k, ek, ez, eD10, lz, nx⟩ => ?_
      subst ek ez
      obtain rfl : z2 = Value.bool true := r10
      refine o_put (X := X.blk sc Hc scope ce fp) hu I10 eD10 lz r9 fun s11 I11 => ?_
      obtain ⟨m', lm, w'⟩ := hZ _ nx
      have pin' : ∀ b ∈ fp, ∀ o, s7.heap.get? b = some o → s11.heap.get? b = some o ∧ (upd H10 D (nD D (addK ks k))) b = none := fun b mb o e =>
        let y := I11.pin (b, o) (List.mem_append_right _ (List.mem_append_right _ (mem_pinsAt mb e)))
        ⟨y.1, y.2.1⟩
      refine ⟨m', lm, i + 1, _, (I11.unpinned (pins := [])).weak (by rw [← ew, wipe_length]) (fun j v e => by rw [← ew] at e; exact (wipe_some e).1), T.keep _ _ _ t7 fun b mb o e => (pin' b mb o e).1, fun b mb => ?_, w'⟩
      obtain ⟨o, e, _⟩ := T.obj _ _ t7 b mb
      exact (pin' b mb o e).2
  exact codeAny_compStart_dict loop (T.self X.A 0 _ _ _ td loop)
/-- the comprehension's value -/
theorem pe_dcO {kx vx tg iter : Expr} {scope : Scope} {own : List (Str × Nat)} {pos : Pos} {wi : TI} {g : TG} {tk tv : TE} (hu : X.A.units + 1 < cLine) (calm : X.calm = true) (nd : X.N.Nodup) (pI : PI X tg iter wi) (bk : BlkOk X.N X.env.scope scope own)
    (bg : EB X scope fun Y => PG Y tg g) (bkx : EB X scope fun Y => PE Y kx tk) (bvx : EB X scope fun Y => PE Y vx tv) (fo : ∀ x, foldedSetIterable iter X.env x = pure x := by intro _; rfl) :
    PE X (.DictComp kx vx [⟨tg, iter, [], 0⟩] scope pos) (tDcO wi g tk tv (own.map (·.2))) := by
  refine ⟨fun pins s σ H Q I h => ?_⟩
  rw [arm_eval_DictComp]
  refine dcO hu calm nd I pI bk bg bkx bvx fo h fun D C s' m G J q hn ⟨a0, a1, a2, a3, a4, a5⟩ => ⟨m, hn, fun g' sb => ?_⟩
  exact ⟨.ref D, G, J.turned (t' := s'.toks) (fun b o nb e => (sb.2 b nb).trans e) a0 a1 a3 a4 a5, rfl, q⟩
end
/-! ### its keys, walked while it is locked -/
def ItO (d : Addr) (o : Obj) (ks : List OK) : It :=
  ⟨fun i H => H d = some (.frz o (nD d ks)) ∧ i < ks.length, fun i H x H' => H' = H ∧ ∃ k, ks[i]? = some k ∧ x = oV k, fun i H => H d = some (.frz o (nD d ks)) ∧ ks.length ≤ i⟩
theorem nD_frz {X : Cx} {pins : List (Addr × Obj)} {σ : L2.St} {H : Hp} {s : Shared} {d : Addr} {o : Obj} {ks : List OK} (I : Inv X pins σ H s) (e : H d = some (.frz o (nD d ks))) :
    (d == sysModules) = false ∧ s.heap.get? d = some o ∧ o.ExactDict ∧ ∃ es ep, o.data = .dict es ep ∧ Ents es ks := by
  obtain ⟨eo, ⟨a, _, o', es, ep, e', x, y, z⟩, _⟩ := (show ObjOk X.prog X.w H s.heap d (.frz o (nD d ks)) from I.hok d _ e)
  rw [eo] at e'
  cases e'
  exact ⟨a, eo, x, es, ep, y, z⟩
theorem turn_O {P : Program} {w : World} {K : PySem.W.Frag} {tg : Expr} {d : Addr} {o : Obj} {es : Array DictEntry} {ep : Nat} {ks : List OK} (it : Addr) (eo : o.data = .dict es ep) : Turn P w K tg (ItO d o ks) [it] it (fun i h => h.IsKeyIter it d i ks.length ep) where
  mem := List.mem_singleton.mpr rfl
  obj := fun i h st b mb => by
    obtain ⟨oi, e, _, dd⟩ := st
    rw [List.mem_singleton.mp mb]
    exact ⟨oi, e, fun v z => by rw [dd] at z; cases z⟩
  keep := fun i h h' st k => Heap.IsKeyIter.at st fun oi e => k it (List.mem_singleton.mpr rfl) oi e
  item := fun X eP ew eK calm i pins s σ H E I hf st hg => by
    subst eP ew eK
    obtain ⟨e, lt⟩ := hg
    obtain ⟨a0, a1, a2, a3, a4, a5⟩ := hf it (List.mem_singleton.mpr rfl)
    obtain ⟨_, go, _, es', ep', ed, en⟩ := nD_frz I e
    obtain ⟨rfl, rfl⟩ := dict_ep eo ed
    have sz := en.sz
    refine next_key_item st go ed sz (Array.getElem?_eq_getElem (by omega)) fun g st' sb => ?_
    have I1 : Inv X pins σ H { s with heap := g } := I.turned (t' := s.toks) (fun b ob nb q => (sb.2 b nb).trans q) a0 a1 a3 a4 a5
    obtain ⟨oi, e1, c, dd⟩ := id st'
    exact ⟨_, rfl, go_of (s := { s with heap := g }) e1 c dd (by decide) ⟨oV ks[i], H, I1, oIs_rel (en.en i (by omega) lt).1, ⟨rfl, _, List.getElem?_eq_getElem lt, rfl⟩, st', fun b mb => (hf b mb).1⟩⟩
  done := fun X eP ew eK calm i pins s σ H E I hf st hg => by
    subst eP ew eK
    obtain ⟨e, ge⟩ := hg
    obtain ⟨a0, a1, a2, a3, a4, a5⟩ := hf it (List.mem_singleton.mpr rfl)
    obtain ⟨_, go, _, es', ep', ed, en⟩ := nD_frz I e
    obtain ⟨rfl, rfl⟩ := dict_ep eo ed
    exact next_key_end (I.ok.hd calm) st go ed en.sz ge fun g eb => ⟨rfl, I.turned (t' := s.toks) (fun b ob nb q => eb b ob nb q) a0 a1 a3 a4 a5⟩
  self := fun A i s Q E st h => wpAny_pyIter_keyiter st h
def iO (td : TE) : TI := fun σ H R => td σ H fun x H1 => ∃ d o ks, x = .ref d ∧ H1 d = some (.frz o (nD d ks)) ∧ R (ItO d o ks) H1
theorem pi_O {X : Cx} {tg e : Expr} {td : TE} (he : PE X e td) : PI X tg e (iO td) := by
  refine ⟨fun pins s σ H R I h => thn (he.run pins s σ H _ I h) fun u s1 ⟨x, H1, I1, rx, d, o, ks, ex, e1, q⟩ => ?_⟩
  subst ex
  obtain rfl : u = Value.ref d := rx
  obtain ⟨a, go, c, es, ep, ed, en⟩ := nD_frz I1 e1
  refine iter_keys a go c ed (pi_one (tk := s1.toks) I1 _ (turn_O _ ed) ⟨_, Heap.get?_push_size _ rfl, rfl, ?_⟩ q)
  rw [en.sz] <;> rfl
theorem walk_O {d : Addr} {o : Obj} {ks : List OK} : Walk (ItO d o ks) ks.length (fun H => H d = some (.frz o (nD d ks))) (fun i H x H' => H' = H ∧ ∃ k, ks[i]? = some k ∧ x = oV k) :=
  ⟨fun i H l g => ⟨g, l⟩, fun H g => ⟨g, Nat.le_refl _⟩, fun i H x H' l g y => y⟩
end ND
/-! N3: the comprehension's dict assigned to a local; what is walked -/
namespace ND
open PySem PySem.Spec PyProof.Rows L2
theorem ps_dcO {X : Cx} {i : Nat} {y : Str} {py : Pos} {kx vx tg iter : Expr} {scope : Scope} {own : List (Str × Nat)} {pos spos : Pos} {wi : TI} {g : TG} {tk tv : TE} (hu : X.A.units + 1 < cLine) (calm : X.calm = true) (nd : X.N.Nodup) (hy : X.N[i]? = some y) (loc : X.env.scope.names.lookup y = some .local)
    (sw : swapsWith (.DictComp kx vx [⟨tg, iter, [], 0⟩] scope pos) (some (.Name y py)) spos.line X.env = pure true) (pI : PI X tg iter wi) (bk : BlkOk X.N X.env.scope scope own)
    (bg : EB X scope fun Y => PG Y tg g) (bkx : EB X scope fun Y => PE Y kx tk) (bvx : EB X scope fun Y => PE Y vx tv) (fo : ∀ x, foldedSetIterable iter X.env x = pure x := by intro _; rfl) :
    PS X (.Assign [.Name y py] (.DictComp kx vx [⟨tg, iter, [], 0⟩] scope pos) spos) (tAsg (tDcO wi g tk tv (own.map (·.2))) (gName i)) := by
  refine ⟨fun pins s σ H D I h => ?_⟩
  rw [exec_Assign_Name_used _ _ _ _ sw]
  refine wpAny_bind (wpAny_standAt (wpAny_bind ?_))
  have h : tDcO wi g tk tv (own.map (·.2)) σ H (fun x G => gName i x σ G D.nx) := h
  show wpAny _ X.A (do let _ ← comprehension (.DictComp kx vx [⟨tg, iter, [], 0⟩] scope pos) scope X.env (firstIterPos [⟨tg, iter, [], 0⟩] pos) newDict false (eval iter X.env) (some (assign (.Name y py) X.env))) _ _ s
  refine wpAny_bind (thn (dcO (Qf := fun _ s' => SP X pins D .next s') hu calm nd I pI bk bg bkx bvx fo h fun d C s' m G J q hn ⟨a0, a1, a2, a3, a4, a5⟩ => ?_) fun _ s' z => wpAny_pure (wpAny_pure z))
  show wpAny _ _ (assign (.Name y py) X.env (.ref d)) _ _ _
  refine wpAny_assign_Name (store_ok2 (v := V.ref d) J nd hy (.inl loc) rfl (fun s2 J2 ⟨c, sb, hc⟩ => ⟨m, hn.sameBut sb ?_, fun h3 sb3 => ⟨_, G, J2.turned (t' := s2.toks) (fun b o nb e => (sb3.2 b nb).trans e) a0 a1 a3 a4 a5, q⟩⟩) (.inr loc))
  rcases hc with z | z
  · rw [z]; exact a1
  · exact fun e => a4 y c z e.symm
/-- such a comprehension over what is walked -/
theorem dcO_it {J : It} {n : Nat} {G : Hp → Prop} {Y : Nat → Hp → V → Hp → Prop} (w : Walk J n G Y) {g : TG} {tk tv : TE} {vs : List Nat} {σ : L2.St} {H1 : Hp} {D : Addr} {Qd : Hp → Prop} (Pv : Nat → Hp → Prop)
    (h0 : Pv 0 (upd H1 D (nD D []))) (hG : ∀ i H, i ≤ n → Pv i H → G H)
    (hs : ∀ i x H H', i < n → Pv i H → Y i H x H' → g x (wipe σ vs) H' fun σ2 G2 => wipe σ2 vs = wipe σ vs ∧ tk σ2 G2 fun y G3 => tv σ2 G3 fun z G4 => ∃ ks k, y = oV k ∧ z = .bl true ∧ G4 D = some (nD D ks) ∧ ks.length < sizeLine ∧ Pv (i + 1) (upd G4 D (nD D (addK ks k)))) (hd : ∀ H, Pv n H → Qd H) :
    ∃ W : Nat → Nat → Hp → Prop, (∃ m, W 0 m (upd H1 D (nD D []))) ∧ ∀ i m H, W i m H →
      (J.stop i H ∧ Qd H) ∨ (J.go i H ∧ ∃ Z : Hp → Prop, (∀ G, Z G → ∃ m', m' < m ∧ W (i + 1) m' G) ∧ ∀ x G, J.yld i H x G → g x (wipe σ vs) G fun σ2 G2 => wipe σ2 vs = wipe σ vs ∧
        tk σ2 G2 fun y G3 => tv σ2 G3 fun z G4 => ∃ ks k, y = oV k ∧ z = .bl true ∧ G4 D = some (nD D ks) ∧ ks.length < sizeLine ∧ Z (upd G4 D (nD D (addK ks k)))) := by
  refine ⟨fun i m H => Pv i H ∧ i ≤ n ∧ m = n - i, ⟨n, h0, Nat.zero_le n, (Nat.sub_zero n).symm⟩, fun i m H ⟨p, hi, em⟩ => ?_⟩
  have hg := hG i H hi p
  rcases Nat.lt_or_ge i n with l | l
  · exact .inr ⟨w.goes i H l hg, Pv (i + 1), fun H' p' => ⟨n - (i + 1), by omega, p', l, rfl⟩, fun x H' y => hs i x H H' l p (w.yields i H x H' l hg y)⟩
  · obtain rfl : i = n := by omega
    exact .inl ⟨w.stops H hg, hd H p⟩
end ND
namespace D0
open PySem PySem.Spec PyProof.Rows L2 SX NumText
theorem hu_of' {k : Nat} {A : Around} (hr : Room k A) : A.units + 1 < cLine := by have := hr.units; omega
def spThing (CT : Addr) : Sp := fun vs H Q _ => ∃ (p dx : Addr) (z tv : V) (s : Addr), vs = [.ref p, z, tv, .ref s] ∧ H p = some (.ins CT dx []) ∧ Q .non (upd H p (.ins CT dx [(fKind, z), (fTag, tv), (fSlots, .ref s), (fAge, .int 0)]))
theorem putF_tag (x : Th) (tv tv' : V) (t' : D) (r' : List D) : putF fTag tv' (thF x tv) = thF { x with tag := t', row := r' } tv' := by
  have h : fKind ≠ fTag := by decide +kernel
  unfold thF
  simp only [putF, if_neg h, if_true]
theorem putF_slots (x : Th) (tv : V) (s' : Addr) : putF fSlots (.ref s') (thF x tv) = thF { x with s := s' } tv := by
  have h1 : fKind ≠ fSlots := by decide +kernel
  have h2 : fTag ≠ fSlots := by decide +kernel
  unfold thF
  simp only [putF, if_neg h1, if_neg h2, if_true]
/-- what an entry's object is told as -/
def optV (f : Nat → Int) : Option Nat → V
  | none => .non
  | some k => .int (f k)
def spAddr0 : Sp := fun vs H Q _ => ∃ (v : V) (e : En) (f : Nat → Int) (m : Nat), vs = [v] ∧ Rep H v (e.d f) ∧ e.ok m ∧ Q (optV f e.tg) H
def spAddrP : Sp := fun vs H Q _ => ∃ (v : V) (r : Int) (e : En) (f : Nat → Int) (m : Nat), vs = [v] ∧ Rep H v ((Ent.pend r e).d f) ∧ e.ok m ∧ Q (optV f e.tg) H
def spAddr : Sp := fun vs H Q _ => ∃ (v : V) (e : Ent) (f : Nat → Int) (m : Nat), vs = [v] ∧ Rep H v (e.d f) ∧ e.ok m ∧ Q (optV f e.tg) H
def spPMov0 : Sp := fun vs H Q _ => ∃ (v : V) (t : Addr) (e : En) (f g : Nat → Int) (m : Nat) (kvs : List (Key × V)), vs = [v, .ref t] ∧ Rep H v (e.d f) ∧ e.ok m ∧ H t = some (.dK kvs) ∧ (∀ x, e.tg = some x → (valV kvs (.inl (f x))).getD (.int (f x)) = .int (g x)) ∧ ∀ v' H', Same H H' → Rep H' v' (e.d g) → Q v' H'
def spPMovP : Sp := fun vs H Q _ => ∃ (v : V) (t : Addr) (r : Int) (e : En) (f g : Nat → Int) (m : Nat) (kvs : List (Key × V)), vs = [v, .ref t] ∧ Rep H v ((Ent.pend r e).d f) ∧ e.ok m ∧ H t = some (.dK kvs) ∧ (∀ x, e.tg = some x → (valV kvs (.inl (f x))).getD (.int (f x)) = .int (g x)) ∧ ∀ v' H', Same H H' → Rep H' v' ((Ent.pend r e).d g) → Q v' H'
def spPMov : Sp := fun vs H Q _ => ∃ (v : V) (t : Addr) (e : Ent) (f g : Nat → Int) (m : Nat) (kvs : List (Key × V)), vs = [v, .ref t] ∧ Rep H v (e.d f) ∧ e.ok m ∧ H t = some (.dK kvs) ∧ (∀ x, e.tg = some x → (valV kvs (.inl (f x))).getD (.int (f x)) = .int (g x)) ∧ ∀ v' H', Same H H' → Rep H' v' (e.d g) → Q v' H'
section
variable {P : Program} {w : World} {K : PySem.W.Frag} {mg : Str → Option Value} {base : Heap} {C CT : Addr}
theorem ok_Thing___init__ (TT : ThT K mg CT) {f : Addr} {fd : FuncData} (F : Fun K "__init__" "Thing.__init__" s_Thing___init__ f fd) : FnOk P w K mg base CX0 1 f fd p_Thing___init__ (spThing CT) := by
  refine F.ok sc_Thing___init__ (fun vs H Q E h => ?_) (fun cdv A outer s H vs Q E hr h => ?_)
  · obtain ⟨p, dx, z, tv, s, rfl, _⟩ := h; rfl
  obtain ⟨p, dx, z, tv, s, rfl, hp, q⟩ := h
  refine ⟨_, (pss_cons (ps_fld (pv 0) (pv 1) rfl)
      (pss_cons (ps_fld (pv 0) (pv 2) rfl)
      (pss_cons (ps_fld (pv 0) (pv 3) rfl)
      (pss_one (ps_fld (pv 0) pe_int rfl))))), ?_⟩
  have f1 : fKind ≠ fTag ∧ fKind ≠ fSlots ∧ fKind ≠ fAge ∧ fTag ≠ fSlots ∧ fTag ≠ fAge ∧ fSlots ≠ fAge := by decide +kernel
  obtain ⟨n1, n2, n3, n4, n5, n6⟩ := f1
  have e1 : putF fKind z [] = [(fKind, z)] := rfl
  have e2 : putF fTag tv [(fKind, z)] = [(fKind, z), (fTag, tv)] := by simp only [putF, if_neg n1]
  have e3 : putF fSlots (V.ref s) [(fKind, z), (fTag, tv)] = [(fKind, z), (fTag, tv), (fSlots, .ref s)] := by simp only [putF, if_neg n2, if_neg n4]
  have e4 : putF fAge (V.int 0) [(fKind, z), (fTag, tv), (fSlots, .ref s)] = [(fKind, z), (fTag, tv), (fSlots, .ref s), (fAge, .int 0)] := by simp only [putF, if_neg n3, if_neg n5, if_neg n6]
  refine ⟨_, rfl, _, rfl, p, CT, dx, [], rfl, hp, TT.cl, TT.n_kind, (by show 0 < 1000; decide), ?_⟩
  refine ⟨_, rfl, _, rfl, p, CT, dx, _, rfl, upd_same, TT.cl, TT.n_tag, (by show 1 < 1000; decide), ?_⟩
  rw [upd_upd]
  refine ⟨_, rfl, _, rfl, p, CT, dx, _, rfl, upd_same, TT.cl, TT.n_slots, (by show (putF fTag tv [(fKind, z)]).length < 1000; rw [e2]; show 2 < 1000; decide), ?_⟩
  rw [upd_upd]
  refine ⟨_, rfl, p, CT, dx, _, rfl, upd_same, TT.cl, TT.n_age, (by show (putF fSlots (V.ref s) (putF fTag tv [(fKind, z)])).length < 1000; rw [e2, e3]; show 3 < 1000; decide), ?_⟩
  rw [upd_upd]
  show Q .non (upd H p (.ins CT dx (putF fAge (V.int 0) (putF fSlots (V.ref s) (putF fTag tv (putF fKind z []))))))
  rw [e1, e2, e3, e4]; exact q
theorem okm0_address_of (T : Txt K w mg) : OkD P w K mg base CX0 1 "address_of" p_address_of spAddr0 := by
  have O : OkD P w K mg base CX0 0 "address_of" p_address_of (fun _ _ _ _ => False) := T.g_address_of.none fun _ _ _ _ h => h
  refine T.g_address_of.ok sc_address_of (fun vs H Q E h => ?_) (fun f cdv A outer s H vs Q E hr h => ?_)
  · obtain ⟨v, e, f, m, rfl, _⟩ := h; rfl
  obtain ⟨v, e, f, m, rfl, rv, oe, q⟩ := h
  refine ⟨_, (pss_cons (ps_set (i := 1) sc_address_of.nd rfl (.inl rfl) (pe_ix ix_tup (pv 0) pe_int (fun _ _ => rfl)))
      (pss_cons (ps_if (PW.pt (pw_or (pt_cmpR op_eq (pv 1) pe_str (nomark _)) (pw_or1 (pt_cmpR op_eq (pv 1) pe_str (nomark _))))) (pss_one (ps_ret (pe_ix ix_tup (pv 0) pe_int (fun _ _ => rfl)))) pss_nil)
      (pss_cons (ps_if (pt_cmpR op_eq (pv 1) pe_str (nomark _)) (pss_one (ps_ret (pcall O hr (pa_cons (pe_ix ix_tup (pv 0) pe_int (fun _ _ => rfl)) pa_nil)))) pss_nil)
      (pss_one (ps_ret pe_non))))), ?_⟩
  have dd : ∀ a c : List Nat, decide (V.str (S a) = V.str (S c)) = decide (a = c) := str_dec
  obtain ⟨n1, n2, n3, n4, n5, n6⟩ := n_rh
  cases e with
  | ref k =>
    obtain ⟨a, rfl, h⟩ := rep_two_inv rv
    refine ⟨_, rfl, a, _, 0, .str (S wRef), rfl, rfl, SqT.of h, rfl, _, rfl, rfl, _, rfl, ?_⟩
    rw [eR, dd, decide_eq_true rfl]
    exact iteT (iteT ⟨_, rfl, a, _, 1, _, rfl, rfl, SqT.of h, rfl, q⟩)
  | hand k =>
    obtain ⟨a, rfl, h⟩ := rep_two_inv rv
    refine ⟨_, rfl, a, _, 0, .str (S wHandled), rfl, rfl, SqT.of h, rfl, _, rfl, rfl, _, rfl, ?_⟩
    rw [eR, dd, decide_eq_false n4]
    refine iteF ⟨_, rfl, rfl, _, rfl, ?_⟩
    rw [eH, dd, decide_eq_true rfl]
    exact iteT ⟨_, rfl, a, _, 1, _, rfl, rfl, SqT.of h, rfl, q⟩
  | oth l ds =>
    obtain ⟨o1, o2, o3, o4⟩ := oe
    obtain ⟨a, us, rfl, h, _⟩ := rep_cons_inv rv
    have z0 : atI (V.str (S l) :: us) ((0 : Nat) : Int) = some (.str (S l)) := atI_nat rfl
    refine ⟨_, rfl, a, _, 0, .str (S l), rfl, rfl, SqT.of h, z0, _, rfl, rfl, _, rfl, ?_⟩
    rw [eR, dd, decide_eq_false o1]
    refine iteF ⟨_, rfl, rfl, _, rfl, ?_⟩
    rw [eH, dd, decide_eq_false o2]
    refine iteF ⟨_, rfl, rfl, _, rfl, ?_⟩
    rw [eP, dd, decide_eq_false o3]
    exact iteF q
theorem okmp_address_of (T : Txt K w mg) : OkD P w K mg base CX0 2 "address_of" p_address_of spAddrP := by
  have O := okm0_address_of (P := P) (base := base) T
  refine T.g_address_of.ok sc_address_of (fun vs H Q E h => ?_) (fun f cdv A outer s H vs Q E hr h => ?_)
  · obtain ⟨v, r, e, f, m, rfl, _⟩ := h; rfl
  obtain ⟨v, r, e, f, m, rfl, rv, oe, q⟩ := h
  refine ⟨_, (pss_cons (ps_set (i := 1) sc_address_of.nd rfl (.inl rfl) (pe_ix ix_tup (pv 0) pe_int (fun _ _ => rfl)))
      (pss_cons (ps_if (PW.pt (pw_or (pt_cmpR op_eq (pv 1) pe_str (nomark _)) (pw_or1 (pt_cmpR op_eq (pv 1) pe_str (nomark _))))) (pss_one (ps_ret (pe_ix ix_tup (pv 0) pe_int (fun _ _ => rfl)))) pss_nil)
      (pss_cons (ps_if (pt_cmpR op_eq (pv 1) pe_str (nomark _)) (pss_one (ps_ret (pcall O hr (pa_cons (pe_ix ix_tup (pv 0) pe_int (fun _ _ => rfl)) pa_nil)))) pss_nil)
      (pss_one (ps_ret pe_non))))), ?_⟩
  obtain ⟨n1, n2, n3, n4, n5, n6⟩ := n_rh
  obtain ⟨a, u, rfl, h, ru⟩ := rep_pend_inv rv
  refine ⟨_, rfl, a, _, 0, .str (S wPending), rfl, rfl, SqT.of h, rfl, _, rfl, rfl, _, rfl, ?_⟩
  rw [eR, str_dec, decide_eq_false n5]
  refine iteF ⟨_, rfl, rfl, _, rfl, ?_⟩
  rw [eH, str_dec, decide_eq_false n6]
  refine iteF ⟨_, rfl, rfl, _, rfl, ?_⟩
  rw [eP, str_dec, decide_eq_true rfl]
  exact iteT ⟨_, rfl, a, _, 2, _, rfl, rfl, SqT.of h, rfl, u, e, f, m, rfl, ru, oe, q⟩
theorem ok_address_of (T : Txt K w mg) : OkD P w K mg base CX0 2 "address_of" p_address_of spAddr := by
  refine (((okm0_address_of T).mono (by omega)).or (okmp_address_of T)).imp fun vs H Q E h => ?_
  obtain ⟨v, e, f, m, rfl, rv, oe, q⟩ := h
  cases e with
  | pl e => exact .inl ⟨v, e, f, m, rfl, rv, oe, q⟩
  | pend r e => exact .inr ⟨v, r, e, f, m, rfl, rv, oe, q⟩
theorem okm0_moved (T : Txt K w mg) : OkD P w K mg base CX0 1 "moved" p_moved spPMov0 := by
  have O : OkD P w K mg base CX0 0 "moved" p_moved (fun _ _ _ _ => False) := T.g_moved.none fun _ _ _ _ h => h
  refine T.g_moved.ok sc_moved (fun vs H Q E h => ?_) (fun f cdv A outer s H vs Q E hr h => ?_)
  · obtain ⟨v, t, e, f, g, m, kvs, rfl, _⟩ := h; rfl
  obtain ⟨v, t, e, f, g, m, kvs, rfl, rv, oe, ht, hk, q⟩ := h
  refine ⟨_, (pss_cons (ps_set (i := 2) sc_moved.nd rfl (.inl rfl) (pe_ix ix_tup (pv 0) pe_int (fun _ _ => rfl)))
      (pss_cons (ps_if (PW.pt (pw_or (pt_cmpR op_eq (pv 2) pe_str (nomark _)) (pw_or1 (pt_cmpR op_eq (pv 2) pe_str (nomark _))))) (pss_one (ps_ret (pe_tup (pa_cons (pv 2) (pa_cons (pe_dget2 (hu_of' hr) (pv 1) (pe_ix ix_tup (pv 0) pe_int (fun _ _ => rfl)) (pe_ix ix_tup (pv 0) pe_int (fun _ _ => rfl)) ⟨rfl, rfl, rfl, rfl⟩) pa_nil))))) pss_nil)
      (pss_cons (ps_if (pt_cmpR op_eq (pv 2) pe_str (nomark _)) (pss_one (ps_ret (pe_tup (pa_cons (pv 2) (pa_cons (pe_ix ix_tup (pv 0) pe_int (fun _ _ => rfl)) (pa_cons (pcall O hr (pa_cons (pe_ix ix_tup (pv 0) pe_int (fun _ _ => rfl)) (pa_cons (pv 1) pa_nil))) pa_nil)))))) pss_nil)
      (pss_one (ps_ret (pv 0)))))), ?_⟩
  have dd : ∀ a c : List Nat, decide (V.str (S a) = V.str (S c)) = decide (a = c) := str_dec
  have two : 2 ≤ sizeLine := by decide
  obtain ⟨n1, n2, n3, n4, n5, n6⟩ := n_rh
  cases e with
  | ref k =>
    obtain ⟨a, rfl, h⟩ := rep_two_inv rv
    refine ⟨_, rfl, a, _, 0, .str (S wRef), rfl, rfl, SqT.of h, rfl, _, rfl, rfl, _, rfl, ?_⟩
    rw [eR, dd, decide_eq_true rfl]
    refine iteT (iteT ⟨_, rfl, _, rfl, t, rfl, .inl ⟨kvs, .inl ht⟩, _, rfl, a, _, 1, _, rfl, rfl, SqT.of h, rfl, _, rfl, a, _, 1, _, rfl, rfl, SqT.of h, rfl, _, DGet.k (k := Sum.inl (f k)) ht, ?_⟩)
    rw [hk k rfl]
    exact ⟨two, fun p hp => q _ _ (same_new hp _) (Rep.two upd_same (.str wRef) (.int _))⟩
  | hand k =>
    obtain ⟨a, rfl, h⟩ := rep_two_inv rv
    refine ⟨_, rfl, a, _, 0, .str (S wHandled), rfl, rfl, SqT.of h, rfl, _, rfl, rfl, _, rfl, ?_⟩
    rw [eR, dd, decide_eq_false n4]
    refine iteF ⟨_, rfl, rfl, _, rfl, ?_⟩
    rw [eH, dd, decide_eq_true rfl]
    refine iteT ⟨_, rfl, _, rfl, t, rfl, .inl ⟨kvs, .inl ht⟩, _, rfl, a, _, 1, _, rfl, rfl, SqT.of h, rfl, _, rfl, a, _, 1, _, rfl, rfl, SqT.of h, rfl, _, DGet.k (k := Sum.inl (f k)) ht, ?_⟩
    rw [hk k rfl]
    exact ⟨two, fun p hp => q _ _ (same_new hp _) (Rep.two upd_same (.str wHandled) (.int _))⟩
  | oth l ds =>
    have rv0 := rv
    obtain ⟨o1, o2, o3, o4⟩ := oe
    obtain ⟨a, us, rfl, h, _⟩ := rep_cons_inv rv
    have z0 : atI (V.str (S l) :: us) ((0 : Nat) : Int) = some (.str (S l)) := atI_nat rfl
    refine ⟨_, rfl, a, _, 0, .str (S l), rfl, rfl, SqT.of h, z0, _, rfl, rfl, _, rfl, ?_⟩
    rw [eR, dd, decide_eq_false o1]
    refine iteF ⟨_, rfl, rfl, _, rfl, ?_⟩
    rw [eH, dd, decide_eq_false o2]
    refine iteF ⟨_, rfl, rfl, _, rfl, ?_⟩
    rw [eP, dd, decide_eq_false o3]
    exact iteF ⟨_, rfl, q _ _ (.refl _) rv0⟩
theorem okmp_moved (T : Txt K w mg) : OkD P w K mg base CX0 2 "moved" p_moved spPMovP := by
  have O := okm0_moved (P := P) (base := base) T
  refine T.g_moved.ok sc_moved (fun vs H Q E h => ?_) (fun f cdv A outer s H vs Q E hr h => ?_)
  · obtain ⟨v, t, r, e, f, g, m, kvs, rfl, _⟩ := h; rfl
  obtain ⟨v, t, r, e, f, g, m, kvs, rfl, rv, oe, ht, hk, q⟩ := h
  refine ⟨_, (pss_cons (ps_set (i := 2) sc_moved.nd rfl (.inl rfl) (pe_ix ix_tup (pv 0) pe_int (fun _ _ => rfl)))
      (pss_cons (ps_if (PW.pt (pw_or (pt_cmpR op_eq (pv 2) pe_str (nomark _)) (pw_or1 (pt_cmpR op_eq (pv 2) pe_str (nomark _))))) (pss_one (ps_ret (pe_tup (pa_cons (pv 2) (pa_cons (pe_dget2 (hu_of' hr) (pv 1) (pe_ix ix_tup (pv 0) pe_int (fun _ _ => rfl)) (pe_ix ix_tup (pv 0) pe_int (fun _ _ => rfl)) ⟨rfl, rfl, rfl, rfl⟩) pa_nil))))) pss_nil)
      (pss_cons (ps_if (pt_cmpR op_eq (pv 2) pe_str (nomark _)) (pss_one (ps_ret (pe_tup (pa_cons (pv 2) (pa_cons (pe_ix ix_tup (pv 0) pe_int (fun _ _ => rfl)) (pa_cons (pcall O hr (pa_cons (pe_ix ix_tup (pv 0) pe_int (fun _ _ => rfl)) (pa_cons (pv 1) pa_nil))) pa_nil)))))) pss_nil)
      (pss_one (ps_ret (pv 0)))))), ?_⟩
  obtain ⟨n1, n2, n3, n4, n5, n6⟩ := n_rh
  obtain ⟨a, u, rfl, h, ru⟩ := rep_pend_inv rv
  refine ⟨_, rfl, a, _, 0, .str (S wPending), rfl, rfl, SqT.of h, rfl, _, rfl, rfl, _, rfl, ?_⟩
  rw [eR, str_dec, decide_eq_false n5]
  refine iteF ⟨_, rfl, rfl, _, rfl, ?_⟩
  rw [eH, str_dec, decide_eq_false n6]
  refine iteF ⟨_, rfl, rfl, _, rfl, ?_⟩
  rw [eP, str_dec, decide_eq_true rfl]
  refine iteT ⟨_, rfl, _, rfl, a, _, 1, _, rfl, rfl, SqT.of h, rfl, _, rfl, a, _, 2, _, rfl, rfl, SqT.of h, rfl, _, rfl, u, t, e, f, g, m, kvs, rfl, ru, oe, ht, hk, fun v' H1 s1 r1 => ⟨by show 3 ≤ sizeLine; decide, fun p hp => ?_⟩⟩
  exact q _ _ (s1.trans (same_new hp _)) (Rep.three upd_same (.str wPending) (.int r) (r1.mono (.new hp)))
theorem ok_moved (T : Txt K w mg) : OkD P w K mg base CX0 2 "moved" p_moved spPMov := by
  refine (((okm0_moved T).mono (by omega)).or (okmp_moved T)).imp fun vs H Q E h => ?_
  obtain ⟨v, t, e, f, g, m, kvs, rfl, rv, oe, ht, hk, q⟩ := h
  cases e with
  | pl e => exact .inl ⟨v, t, e, f, g, m, kvs, rfl, rv, oe, ht, hk, q⟩
  | pend r e => exact .inr ⟨v, t, r, e, f, g, m, kvs, rfl, rv, oe, ht, hk, q⟩
end
end D0
namespace D0
open PySem PySem.Spec PyProof.Rows L2 SX NumText
theorem nodup_int {l : List Int} (h : l.Nodup) (p : ∀ x ∈ l, ∃ a : Nat, x = (a : Int)) : (l.map Int.toNat).Nodup := by
  refine List.pairwise_map.mpr (List.Pairwise.imp_of_mem (fun {a b} ha hb ne z => ?_) h)
  obtain ⟨x, rfl⟩ := p a ha
  obtain ⟨y, rfl⟩ := p b hb
  simp at z
  exact ne (by rw [z])
theorem rowD_len (f : Nat → Int) (es : List Ent) : (rowD f es).length = es.length := by unfold rowD; rw [List.length_map]
theorem take_next {α : Type} {l : List α} {i : Nat} (h : i < l.length) : l.take (i + 1) = l.take i ++ [l[i]] := by rw [List.take_add_one, List.getElem?_eq_getElem h]; rfl
theorem rows_at {H : Hp} {f : Nat → Int} {vs : List V} {es : List Ent} {i : Nat} {x : V} (r : Reps H vs (rowD f es)) (hx : vs[i]? = some x) : ∃ hi : i < es.length, Rep H x (es[i].d f) := by
  obtain ⟨d, hd, rd⟩ := r.get hx
  have hd' : (es.map (Ent.d f))[i]? = some d := hd
  rw [List.getElem?_map] at hd'
  by_cases hi : i < es.length
  · rw [List.getElem?_eq_getElem hi] at hd'
    exact ⟨hi, by rw [← Option.some.inj hd'] at rd; exact rd⟩
  · rw [List.getElem?_eq_none (by omega)] at hd'; cases hd'
theorem tgs_one (e : Ent) : tgs [e] = e.tg.toList := by
  unfold tgs
  cases h : e.tg <;> simp [h]
theorem yt_app (a b : List Ent) : yt (a ++ b) = yt a ++ yt b := by unfold yt; rw [tgs_app, List.filter_append]
theorem yt_one {e : Ent} : yt [e] = match e.tg with | some a => (if a % 2 = 1 then [a] else []) | none => [] := by
  unfold yt
  rw [tgs_one]
  cases e.tg with
  | none => rfl
  | some a =>
    show List.filter _ [a] = if a % 2 = 1 then [a] else []
    by_cases c : a % 2 = 1
    · rw [if_pos c, List.filter_cons_of_pos (by simp [c])]; rfl
    · rw [if_neg c, List.filter_cons_of_neg (by simp [c])]; rfl
section
variable {K : PySem.W.Frag} {C CT : Addr} {H H' : Hp} {B td md : Addr} {L : List Th} {m : MM} {F : List Addr}
theorem MemL.keys (X : MemL K C CT H B td md L m) {x : Th} (h : x ∈ L) : ∃ a, m.dom a ∧ TA m x a ∧ x.key.toNat = a := by
  obtain ⟨a, d, t⟩ := X.to x h
  exact ⟨a, d, t, by rw [t.key]; rfl⟩
theorem MemL.len (X : MemL K C CT H B td md L m) : L.length ≤ m.top := by
  have h := nodup_int X.bk.nk fun k hk => by
    obtain ⟨x, hx, rfl⟩ := List.mem_map.mp hk
    obtain ⟨a, _, t, _⟩ := X.keys hx
    exact ⟨a, t.key⟩
  have := nodup_le m.top h fun n hn => by
    obtain ⟨k, hk, rfl⟩ := List.mem_map.mp hn
    obtain ⟨x, hx, rfl⟩ := List.mem_map.mp hk
    obtain ⟨a, d, _, e⟩ := X.keys hx
    rw [e]; exact MM.dom_lt d
  simpa using this
/-- one thing replaced -/
theorem MemL.putT (X : MemL K C CT H B td md L m) {m' : MM} {x x' : Th} {a : Nat} (hx : x ∈ L) (t : TA m x a) (ek : x.key = x'.key) (bk : BkA K C CT H' B td (moreM m' md) (putT x' L)) (hM : H' md = some (.dK (markK m'.ms)))
    (t' : TA m' x' a) (y : m'.yn = m.yn) (o : m'.on = m.on) (g : ∀ b, b ≠ a → m'.G b = m.G b) (ag : ∀ b, b ≠ a → m'.ag b = m.ag b) : MemL K C CT H' B td md (putT x' L) m' := by
  have ed : ∀ b, m'.dom b ↔ m.dom b := fun b => by unfold MM.dom; rw [y, o]
  have mv : ∀ {z : Th} {b : Nat}, TA m z b → b ≠ a → TA m' z b := fun {z b} h n => ⟨h.key, by rw [g b n]; exact h.kind, by rw [g b n]; exact h.tag, by rw [g b n]; exact h.row, by rw [ag b n]; exact h.age⟩
  have da : m.dom a := by
    obtain ⟨b, d, tb⟩ := X.to x hx
    rw [TA.inj t tb]; exact d
  refine ⟨bk, hM, X.ne, fun z hz => ?_, fun b db => ?_⟩
  · rcases mem_putT hz with rfl | ⟨h, n⟩
    · exact ⟨a, (ed a).mpr da, t'⟩
    · obtain ⟨b, d, tb⟩ := X.to z h
      exact ⟨b, (ed b).mpr d, mv tb fun e => n (by rw [tb.key, e, ← t.key]; exact ek)⟩
  · by_cases e : b = a
    · subst e; exact ⟨x', putT_self hx ek, t'⟩
    · obtain ⟨z, hz, tb⟩ := X.from_ b ((ed b).mp db)
      exact ⟨z, putT_mem hz fun q => e (by have h1 := tb.key; have h2 := t.key; rw [q, ← ek, h2] at h1; omega), mv tb e⟩
/-- the row of one thing replaced -/
theorem MemL.setRow (X : MemL K C CT H B td md L m) {x : Th} {a : Nat} {vs : List V} {es : List Ent} (hx : x ∈ L) (t : TA m x a) (hr : Reps H vs (rowD ixD es)) :
    MemL K C CT (upd H x.s (.lst vs)) B td md (D0.putT { x with row := rowD ixD es } L) ⟨m.yn, m.on, setG m.G a ⟨(m.G a).kind, (m.G a).tag, es⟩, m.ag, m.ms⟩ ∧ Chg [x.s] H (upd H x.s (.lst vs)) := by
  obtain ⟨Y, c⟩ := X.bk.setRow (vs := vs) (row := rowD ixD es) hx hr
  obtain ⟨ws, h1, _⟩ := X.bk.hS x hx
  refine ⟨X.putT hx t rfl Y ?_ ⟨t.key, ?_, ?_, ?_, t.age⟩ rfl rfl (fun b n => setG_ne n) (fun b _ => rfl), c⟩
  · rw [upd_ne (ne_ob X.hM h1 (fun z => by cases z))]; exact X.hM
  · show x.kind = (setG m.G a _ a).kind; rw [setG_at]; exact t.kind
  · show x.tag = (setG m.G a _ a).tag; rw [setG_at]; exact t.tag
  · show rowD ixD es = rowD ixD (setG m.G a _ a).row; rw [setG_at]
end
/-- a mark put, or none -/
structure Noted (H H' : Hp) (md a : Addr) (es : List Ent) (ms : List Nat) : Prop where
  at_ : H' md = some (.dK (markK (note a es ms)))
  ne : ∀ b, b ≠ md → H' b = H b
theorem Noted.chg {H H' : Hp} {md a : Addr} {es : List Ent} {ms : List Nat} (n : Noted H H' md a es ms) (h : H md = some (.dK (markK ms))) : Chg [md] H H' := by
  refine ⟨fun b o k e => ?_, fun b vs e => ?_, fun b e => ?_⟩
  · rw [n.ne b (by simpa using k)]; exact e
  · rw [n.ne b (fun z => by rw [z, h] at e; cases e)]; exact e
  · rw [← n.ne b (fun z => by rw [z, n.at_] at e; cases e)]; exact e
theorem MemL.noted {K : PySem.W.Frag} {C CT : Addr} {H H' : Hp} {B td md : Addr} {L : List Th} {m : MM} {a : Nat} {es : List Ent} (X : MemL K C CT H B td md L m) (n : Noted H H' md a es m.ms) : MemL K C CT H' B td md L ⟨m.yn, m.on, m.G, m.ag, note a es m.ms⟩ := by
  have c := n.chg X.hM
  refine ⟨X.bk.frame c fun b hb z => ?_, n.at_, X.ne, fun x hx => ?_, fun b db => ?_⟩
  · rw [List.mem_singleton.mp z] at hb
    rcases fb_cases hb with h | h | ⟨x, hx, h⟩ | ⟨x, hx, h⟩
    · obtain ⟨dx, g⟩ := X.bk.hB; rw [← h, X.hM] at g; cases g
    · exact X.ne h
    · obtain ⟨dx, tv, g, _⟩ := X.bk.hT x hx; rw [← h, X.hM] at g; cases g
    · obtain ⟨vs, g, _⟩ := X.bk.hS x hx; rw [← h, X.hM] at g; cases g
  · obtain ⟨b, d, t⟩ := X.to x hx; exact ⟨b, d, ⟨t.key, t.kind, t.tag, t.row, t.age⟩⟩
  · obtain ⟨x, hx, t⟩ := X.from_ b db; exact ⟨x, hx, ⟨t.key, t.kind, t.tag, t.row, t.age⟩⟩
end D0
namespace D0
open PySem PySem.Spec PyProof.Rows L2 SX NumText
/-- a reference to the address i -/
def RefV (H : Hp) (i : Int) (v : V) : Prop := ∃ a x, v = .ref a ∧ H a = some (.tup [x, .int i])
def spYoung : Sp := fun vs H Q _ => ∃ a : Nat, vs = [.int (a : Int)] ∧ Q (.bl (decide (a % 2 = 1))) H
def spRefers : Sp := fun vs H Q _ => ∃ (l : Addr) (ws : List V) (es : List Ent) (N : Nat), vs = [.ref l] ∧ H l = some (.lst ws) ∧ Reps H ws (rowD ixD es) ∧ (∀ e ∈ es, e.ok N) ∧ Q (.bl (anyY es)) H
def spRemember (C : Addr) : Sp := fun vs H Q _ => ∃ (B dx td md l : Addr) (i1 i2 : V) (a N : Nat) (ms : List Nat) (ws : List V) (es : List Ent), vs = [.ref B, .int (a : Int), .ref l] ∧ H B = some (.ins C dx [(fThings, .ref td), (fYM, i1), (fOM, i2), (fMk, .ref md)]) ∧ H md = some (.dK (markK ms)) ∧ ms.length ≤ 10000 ∧
  H l = some (.lst ws) ∧ Reps H ws (rowD ixD es) ∧ (∀ e ∈ es, e.ok N) ∧ ∀ H', Noted H H' md a es ms → Q .non H'
/-- the memory is another now, what else stood stays -/
structure Now (K : PySem.W.Frag) (C CT : Addr) (H : Hp) (B : Addr) (F : List Addr) (m' : MM) (F' : List Addr) (H' : Hp) : Prop where
  mem : Mem K C CT H' B F' m'
  chg : Chg F H H'
  new : ∀ b ∈ F', b ∈ F ∨ H b = none
  sub : ∀ b ∈ F, b ∈ F'
def spHMake (K : PySem.W.Frag) (C CT : Addr) : Sp := fun vs H Q _ => ∃ (B : Addr) (F : List Addr) (m : MM) (z : List Nat) (tv : V) (g : Addr) (us : List V) (tag : D) (es : List Ent), vs = [.ref B, .str (S z), tv, .ref g] ∧ Mem K C CT H B F m ∧ m.yn + m.on ≤ 2000 ∧
  Rep H tv tag ∧ H g = some (.lst us) ∧ Reps H us (rowD ixD es) ∧ ∀ p F' H', Now K C CT H B F (m.make ⟨z, tag, es⟩) F' H' → H' p = some (.tup [.str (Str.ofString "ref"), .int ((2 * m.yn + 1 : Nat) : Int)]) → H p = none → p ∉ F' → Q (.ref p) H'
def spHSet (K : PySem.W.Frag) (C CT : Addr) : Sp := fun vs H Q _ => ∃ (B : Addr) (F : List Addr) (m : MM) (v u : V) (a i N : Nat) (e : Ent), vs = [.ref B, v, .int (i : Int), u] ∧ Mem K C CT H B F m ∧ m.ms.length ≤ 10000 ∧ RefV H (a : Int) v ∧ m.dom a ∧ i < (m.G a).row.length ∧ Rep H u (e.d ixD) ∧ e.ok N ∧
  ∀ F' H', Now K C CT H B F (m.put a ⟨(m.G a).kind, (m.G a).tag, (m.G a).row.set i e⟩ [e]) F' H' → Q .non H'
def spHChange (K : PySem.W.Frag) (C CT : Addr) : Sp := fun vs H Q _ => ∃ (B : Addr) (F : List Addr) (m : MM) (v tv : V) (g : Addr) (us : List V) (a N : Nat) (tag : D) (es : List Ent), vs = [.ref B, v, tv, .ref g] ∧ Mem K C CT H B F m ∧ m.ms.length ≤ 10000 ∧ RefV H (a : Int) v ∧ m.dom a ∧
  Rep H tv tag ∧ H g = some (.lst us) ∧ Reps H us (rowD ixD es) ∧ (∀ e ∈ es, e.ok N) ∧ ∀ F' H', Now K C CT H B F (m.put a ⟨(m.G a).kind, tag, es⟩ es) F' H' → Q .non H'
section
variable {P : Program} {w : World} {K : PySem.W.Frag} {mg : Str → Option Value} {base : Heap} {C CT : Addr}
/-- what change leaves -/
theorem change_done {more : List (Str × V)} {H : Hp} {B td : Addr} {L : List Th} (X : BkA K C CT H B td more L) {x : Th} {dx2 s' : Addr} {tv tv0 : V} {tag : D} {row : List D} {us : List V}
    (hx : x ∈ L) (hg : H x.t = some (.ins CT dx2 (thF x tv0))) (rt : Rep H tv tag) (ru : Reps H us row)
    (hs : upd H x.t (.ins CT dx2 (putF fTag tv (thF x tv0))) s' = none) :
    let H' := upd (upd (upd H x.t (.ins CT dx2 (putF fTag tv (thF x tv0)))) s' (.lst us)) x.t (.ins CT dx2 (putF fSlots (.ref s') (putF fTag tv (thF x tv0))))
    BkA K C CT H' B td more (putT { x with tag := tag, row := row, s := s' } L) ∧ Chg [x.t] H H' ∧ H s' = none ∧ H' x.t = some (.ins CT dx2 (thF { x with tag := tag, row := row, s := s' } tv)) := by
  have nt : s' ≠ x.t := fun z => by rw [z, upd_same] at hs; cases hs
  have f : H s' = none := by rw [upd_ne nt] at hs; exact hs
  have c1 : Chg [x.t] H (upd H x.t (.ins CT dx2 (putF fTag tv (thF x tv0)))) := .upd hg (fun _ z => by cases z) (List.mem_singleton_self _)
  have c2 := c1.trans (Chg.new (F := [x.t]) (o := HO.lst us) hs)
  have h3 : upd (upd H x.t (.ins CT dx2 (putF fTag tv (thF x tv0)))) s' (.lst us) x.t = some (.ins CT dx2 (putF fTag tv (thF x tv0))) := by rw [upd_ne (Ne.symm nt), upd_same]
  have c3 := c2.trans (Chg.upd (o' := HO.ins CT dx2 (putF fSlots (.ref s') (putF fTag tv (thF x tv0)))) h3 (fun _ z => by cases z) (List.mem_singleton_self _))
  have e : putF fSlots (V.ref s') (putF fTag tv (thF x tv0)) = thF { x with tag := tag, row := row, s := s' } tv := by rw [putF_tag x tv0 tv tag row, putF_slots]
  intro H'
  have h4 : H' x.t = some (.ins CT dx2 (thF { x with tag := tag, row := row, s := s' } tv)) := by show upd _ x.t _ x.t = _; rw [upd_same, e]
  have h5 : H' s' = some (.lst us) := by show upd _ x.t _ s' = _; rw [upd_ne nt, upd_same]
  exact ⟨X.setAll (x' := { x with tag := tag, row := row, s := s' }) hx rfl rfl f c3 h4 h5 (rt.mono c3.tups) (ru.mono c3.tups), c3, f, h4⟩
/-- what make leaves -/
theorem make_done {H H0 : Hp} {B td dxB l x dx : Addr} {L : List Th} {more more' : List (Str × V)} (X : BkA K C CT H B td more L) {y : Th} {tv : V} {us : List V}
    (c0 : Chg [B, td] H H0) (hB : H0 B = some (.ins C dxB ((fThings, .ref td) :: more'))) (hD : H0 td = some (.dK (kvL L))) (nk : y.key ∉ L.map Th.key) (e1 : y.t = x) (e2 : y.s = l) (e3 : y.age = 0)
    (rt : Rep H tv y.tag) (ru : Reps H us y.row) (hl : H0 l = none) (hx : upd H0 l (.lst us) x = none) (hdx : upd H0 l (.lst us) dx = none) (ne : dx ≠ x) :
    let H2 := upd (upd (upd (upd H0 l (.lst us)) dx (.own x)) x (.ins CT dx [])) x (.ins CT dx [(fKind, .str (S y.kind)), (fTag, tv), (fSlots, .ref l), (fAge, .int 0)])
    H2 td = some (.dK (kvL L)) ∧ H2 B = some (.ins C dxB ((fThings, .ref td) :: more')) ∧
    BkA K C CT (upd H2 td (.dK (kvL (L ++ [y])))) B td more' (L ++ [y]) ∧ Chg [B, td] H (upd H2 td (.dK (kvL (L ++ [y])))) ∧ H x = none ∧ H l = none := by
  intro H2
  have up : ∀ {a : Addr}, H0 a = none → H a = none := fun {a} h => c0.live a h
  have nlx : x ≠ l := fun z => by rw [z, upd_same] at hx; cases hx
  have nldx : dx ≠ l := fun z => by rw [z, upd_same] at hdx; cases hdx
  rw [upd_ne nlx] at hx
  rw [upd_ne nldx] at hdx
  have kp : ∀ {a : Addr} {o : HO}, H0 a = some o → H2 a = some o := fun {a o} h => by
    have n1 : a ≠ x := ne_of_none h hx
    have n2 : a ≠ dx := ne_of_none h hdx
    have n3 : a ≠ l := ne_of_none h hl
    show upd _ x _ a = _
    rw [upd_ne n1, upd_ne n1, upd_ne n2, upd_ne n3]; exact h
  have k1 := kp hD
  have k2 := kp hB
  have s2 : Same H0 H2 := fun a o h => kp h
  have c2 : Chg [B, td] H H2 := c0.trans (.same s2)
  have c3 : Chg [B, td] H (upd H2 td (.dK (kvL (L ++ [y])))) := c2.trans (.upd k1 (fun _ z => by cases z) (by simp))
  have q1 : H2 x = some (.ins CT dx (thF y tv)) := by
    have e : thF y tv = [(fKind, .str (S y.kind)), (fTag, tv), (fSlots, .ref l), (fAge, .int 0)] := by unfold thF; rw [e2, e3]
    rw [e]; exact upd_same
  have q2 : H2 l = some (.lst us) := by show upd _ x _ l = _; rw [upd_ne (Ne.symm nlx), upd_ne (Ne.symm nlx), upd_ne (Ne.symm nldx), upd_same]
  have q3 : td ≠ x := ne_of_none hD hx
  have q4 : td ≠ l := ne_of_none hD hl
  refine ⟨k1, k2, X.more_ (vs := us) (x := y) (by rw [e2]; exact up hl) (by rw [e1]; exact up hx) nk c3 (by rw [upd_ne (ne_ob k2 k1 (fun z => by cases z))]; exact k2) upd_same (by rw [e1, upd_ne (Ne.symm q3)]; exact q1) (by rw [e2, upd_ne (Ne.symm q4)]; exact q2) (rt.mono c3.tups) (ru.mono c3.tups), c3, up hx, up hl⟩
theorem ok_is_young (T : Txt K w mg) : OkD P w K mg base CX0 1 "is_young" p_is_young spYoung := by
  refine T.g_is_young.ok sc_is_young (fun vs H Q E h => ?_) (fun f cdv A outer s H vs Q E hr h => ?_)
  · obtain ⟨i, rfl, _⟩ := h; rfl
  obtain ⟨a, rfl, q⟩ := h
  refine ⟨_, (pss_one (ps_ret (pe_cmpR op_eq (pe_op op_mod (pv 0) pe_int) pe_int (nomark _)))), ?_⟩
  refine ⟨_, rfl, _, _, rfl, rfl, (by show (0 : Int) < _; decide), rfl, ?_⟩
  have e : decide (V.int ((a : Int) % 2) = V.int 1) = decide (a % 2 = 1) := by
    rw [decide_eq_decide]
    constructor
    · intro h; injection h with h; omega
    · intro h; congr 1; omega
  rw [← e] at q
  exact q
theorem ok_refers_to_young (T : Txt K w mg) (Oa : OkD P w K mg base CX0 2 "address_of" p_address_of spAddr) (Oy : OkD P w K mg base CX0 1 "is_young" p_is_young spYoung) : OkD P w K mg base CX0 3 "refers_to_young" p_refers_to_young spRefers := by
  refine T.g_refers_to_young.ok sc_refers_to_young (fun vs H Q E h => ?_) (fun f cdv A outer s H vs Q E hr h => ?_)
  · obtain ⟨l, ws, es, N, rfl, _⟩ := h; rfl
  obtain ⟨l, ws, es, N, rfl, hl, rs, oe, q⟩ := h
  refine ⟨_, (pss_cons (ps_for PassesOwn.never rfl (pi_list (pv 0)) (pg_name (i := 1) sc_refers_to_young.nd rfl (Or.inl rfl)) (pss_cons (ps_set (i := 2) sc_refers_to_young.nd rfl (.inl rfl) (pcall Oa hr (pa_cons (pv 1) pa_nil)))
      (pss_one (ps_if (PW.pt (pw_and (pt_cmpR op_notN (pv 2) pe_non (nomark _)) (pw_and1 (pt_val (pcall Oy hr (pa_cons (pv 2) pa_nil)))))) (pss_one (ps_ret pe_bl)) pss_nil))))
      (pss_one (ps_ret pe_bl))), ?_⟩
  have wl : ws.length = es.length := by rw [rs.len, rowD_len]
  refine ⟨_, rfl, l, rfl, ⟨ws, SqL.of hl⟩, ?_⟩
  refine for_it (walk_list (xs := ws)) (fun i σ H' => ∃ o1 o2, σ = [some (.ref l), o1, o2] ∧ H' = H ∧ yt (es.take i) = []) ⟨none, none, rfl, rfl, rfl⟩ (fun i σ H' _ h => by
    obtain ⟨_, _, _, rfl, _⟩ := h; exact SqL.of hl) ?_ ?_
  · rintro i x σ H1 H2 hi ⟨o1, o2, rfl, rfl, y⟩ ⟨rfl, hx⟩
    obtain ⟨hi', rd⟩ := rows_at rs hx
    have st : yt (es.take (i + 1)) = yt [es[i]] := by rw [take_next hi', yt_app, y]; rfl
    refine ⟨_, rfl, x, es[i], ixD, N, rfl, rd, oe _ (List.getElem_mem hi'), ?_⟩
    rw [yt_one] at st
    cases ht : es[i].tg with
    | none =>
      rw [ht] at st
      refine ⟨_, rfl, rfl, _, rfl, iteF ?_⟩
      exact ⟨_, _, rfl, rfl, st⟩
    | some k =>
      rw [ht] at st
      refine ⟨_, rfl, rfl, _, rfl, iteT ?_⟩
      refine ⟨_, rfl, k, rfl, ?_⟩
      by_cases c : k % 2 = 1
      · rw [decide_eq_true c]
        have : anyY es = true := anyY_true.mpr ⟨k, mem_tgs (List.getElem_mem hi') ht, c⟩
        rw [this] at q
        exact ⟨_, rfl, iteT q⟩
      · rw [decide_eq_false c]
        exact ⟨_, rfl, iteF ⟨_, _, rfl, rfl, by rw [st]; exact if_neg c⟩⟩
  · rintro σ H1 ⟨o1, o2, rfl, rfl, y⟩
    rw [wl, List.take_length] at y
    have : anyY es = false := by unfold anyY; rw [y]; rfl
    rw [this] at q
    exact q
theorem ok_Heap_remember (T : Txt K w mg) (TB : HeT K mg C) (Oy : OkD P w K mg base CX0 1 "is_young" p_is_young spYoung) (On : OkD P w K mg base CX0 3 "refers_to_young" p_refers_to_young spRefers) :
    OkM P w K mg base C CX0 4 "remember" p_Heap_remember (spRemember C) := by
  refine TB.g_remember.ok sc_Heap_remember (fun vs H Q E h => ?_) (fun f cdv A outer s H vs Q E hr h => ?_)
  · obtain ⟨B, dx, td, md, l, i1, i2, a, N, ms, ws, es, rfl, _⟩ := h; rfl
  obtain ⟨B, dx, td, md, l, i1, i2, a, N, ms, ws, es, rfl, hB, hM, lm, hl, rs, oe, q⟩ := h
  refine ⟨_, (pss_one (ps_if (PW.pt (pw_and (pt_not (pt_val (pcall Oy hr (pa_cons (pv 1) pa_nil)))) (pw_and1 (pt_val (pcall On hr (pa_cons (pv 2) pa_nil)))))) (pss_one (ps_dput (hu_of' hr) (pe_fld (pv 0) rfl) (pv 1) pe_bl rfl)) pss_nil)), ?_⟩
  have lim : (20000 : Nat) < sizeLine := by rw [sizeLine_eq]; decide
  refine ⟨_, rfl, a, rfl, ?_⟩
  by_cases c : a % 2 = 1
  · rw [decide_eq_true c]
    refine ⟨_, rfl, iteF (q H ⟨?_, fun _ _ => rfl⟩)⟩
    unfold note; rw [if_neg (by omega)]; exact hM
  · rw [decide_eq_false c]
    refine ⟨_, rfl, iteT ⟨_, rfl, l, ws, es, N, rfl, hl, rs, oe, ?_⟩⟩
    cases y : anyY es with
    | false =>
      refine ⟨_, rfl, iteF (q H ⟨?_, fun _ _ => rfl⟩)⟩
      unfold note; rw [if_neg (by rw [y]; exact fun z => Bool.false_ne_true z.2)]; exact hM
    | true =>
      refine ⟨_, rfl, iteT ⟨_, rfl, B, C, dx, _, .ref md, rfl, hB, TB.cl, TB.n_marked, rfl, _, rfl, md, _, rfl, .inl ⟨_, .inl (a : Int), hM, rfl, by rw [markK_len]; omega, rfl⟩, ?_⟩⟩
      refine q _ ⟨?_, fun b n => upd_ne n⟩
      rw [upd_same, markK_put]
      unfold note; rw [if_pos ⟨by omega, y⟩]
end
end D0
namespace D0
open PySem PySem.Spec PyProof.Rows L2 SX NumText
theorem lim4 : (20000 : Nat) < sizeLine := by rw [sizeLine_eq]; decide
theorem fs_ne : fThings ≠ fYM ∧ fThings ≠ fOM ∧ fThings ≠ fMk ∧ fYM ≠ fOM ∧ fYM ≠ fMk ∧ fOM ≠ fMk := by decide +kernel
section
variable {K : PySem.W.Frag} {C CT : Addr} {H H' : Hp} {B td md : Addr} {L : List Th} {m : MM} {F F' : List Addr}
theorem Mem.now0 (X : Mem K C CT H B F m) {m' : MM} {L' : List Th} {E : List Addr} (Y : MemL K C CT H' B td md L' m') (c : Chg E H H') (hE : ∀ a ∈ E, a ∈ F) (hL : ∀ b ∈ FB B td L', b ∈ F ∨ H b = none) (hm : md ∈ F ∨ H md = none) :
    ∃ F', Now K C CT H B F m' F' H' ∧ ∀ p, H' p = none → p ∉ F' := by
  have c2 : Chg F H H' := c.mono hE
  have lv : ∀ b ∈ F ++ (md :: FB B td L'), H' b ≠ none := fun b hb => by
    rcases List.mem_append.mp hb with hb | hb
    · obtain ⟨_, _, _, _, _, _, l⟩ := X
      exact fun z => l b hb (c2.live b z)
    · rcases List.mem_cons.mp hb with rfl | hb
      · rw [Y.hM]; exact fun z => nomatch z
      · exact Y.bk.here b hb
  refine ⟨F ++ (md :: FB B td L'), ⟨⟨td, md, L', Y, fun b hb => List.mem_append_right _ (List.mem_cons_of_mem _ hb), List.mem_append_right _ (List.mem_cons_self ..), lv⟩, c2, fun b hb => ?_, fun b hb => List.mem_append_left _ hb⟩, fun p hp z => lv p z hp⟩
  rcases List.mem_append.mp hb with hb | hb
  · exact .inl hb
  · rcases List.mem_cons.mp hb with rfl | hb
    · exact hm
    · exact hL b hb
theorem Now.same (N : Now K C CT H B F m F' H') {H2 : Hp} (s : Same H' H2) : Now K C CT H B F m F' H2 := ⟨N.mem.same s, N.chg.trans (.same s), N.new, N.sub⟩
theorem FB.put {B td : Addr} {L : List Th} {x' : Th} {b : Addr} (h : b ∈ FB B td (D0.putT x' L)) : b ∈ FB B td L ∨ b = x'.t ∨ b = x'.s := by
  rcases fb_cases h with rfl | rfl | ⟨y, hy, rfl⟩ | ⟨y, hy, rfl⟩
  · exact .inl (by simp [FB])
  · exact .inl (by simp [FB])
  · rcases mem_putT hy with rfl | ⟨hy, _⟩
    · exact .inr (.inl rfl)
    · exact .inl (fb_t hy)
  · rcases mem_putT hy with rfl | ⟨hy, _⟩
    · exact .inr (.inr rfl)
    · exact .inl (fb_s hy)
/-- one more thing, young -/
theorem MemL.make (X : MemL K C CT H B td md L m) {n : Nd} {x : Th} (bk : BkA K C CT H' B td (moreM (m.make n) md) (L ++ [x])) (hM : H' md = some (.dK (markK m.ms))) (t : TA (m.make n) x (2 * m.yn + 1)) : MemL K C CT H' B td md (L ++ [x]) (m.make n) := by
  have mv : ∀ {z : Th} {b : Nat}, m.dom b → TA m z b → TA (m.make n) z b := fun {z b} d h => by
    have ne : b ≠ 2 * m.yn + 1 := fun e => MM.make_new (m := m) (by rw [← e]; exact d)
    have g : (m.make n).G b = m.G b := setG_ne ne
    exact ⟨h.key, by rw [g]; exact h.kind, by rw [g]; exact h.tag, by rw [g]; exact h.row, h.age.trans (if_neg ne).symm⟩
  refine ⟨bk, hM, X.ne, fun z hz => ?_, fun b db => ?_⟩
  · rcases List.mem_append.mp hz with h | h
    · obtain ⟨b, d, tb⟩ := X.to z h
      exact ⟨b, MM.make_dom.mpr (.inl d), mv d tb⟩
    · rw [List.mem_singleton.mp h]; exact ⟨_, MM.make_dom.mpr (.inr rfl), t⟩
  · rcases MM.make_dom.mp db with d | rfl
    · obtain ⟨z, hz, tb⟩ := X.from_ b d
      exact ⟨z, List.mem_append_left _ hz, mv d tb⟩
    · exact ⟨x, List.mem_append_right _ (List.mem_singleton_self _), t⟩
end
section
variable {P : Program} {w : World} {K : PySem.W.Frag} {mg : Str → Option Value} {base : Heap} {C CT : Addr}
theorem ok_Heap_make (T : Txt K w mg) (TT : ThT K mg CT) (TB : HeT K mg C) : OkM P w K mg base C CX0 3 "make" p_Heap_make (spHMake K C CT) := by
  obtain ⟨fI, fd, M, bI, F⟩ := TT.ini
  have GI := ok_Thing___init__ (P := P) (w := w) (base := base) TT F
  refine TB.g_make.ok sc_Heap_make (fun vs H Q E h => ?_) (fun f cdv A outer s H vs Q E hr h => ?_)
  · obtain ⟨B, F, m, z, tv, g, us, tag, es, rfl, _⟩ := h; rfl
  obtain ⟨B, F, m, z, tv, gl, us, tag, es, rfl, X, hlen, rt, hgl, ru, q⟩ := h
  refine ⟨_, (pss_cons (ps_set (i := 4) sc_Heap_make.nd rfl (.inl rfl) (pe_op op_add (pe_op op_mul pe_int (pe_fld (pv 0) rfl)) pe_int))
      (pss_cons (ps_fldaug (pv 0) pe_int ip_add)
      (pss_cons (ps_dput (hu_of' hr) (pe_fld (pv 0) rfl) (pv 4) (pe_make M GI (hr.mono (by decide)) rfl TT.gl bI .nil pass0 (pa_cons (pv 1) (pa_cons (pv 2) (pa_cons (pe_callTy call_list_of (by rfl) T.z_list PyProof.Rows.boot_list (pa_cons (pv 3) pa_nil)) pa_nil)))) rfl)
      (pss_one (ps_ret (pe_tup (pa_cons pe_str (pa_cons (pv 4) pa_nil)))))))), ?_⟩
  have X0 := X
  obtain ⟨td, md, L, Y, hF, hmF, _⟩ := X
  obtain ⟨dx, hB⟩ := Y.bk.hB
  have lim := lim4
  have kl := kvL_len L
  have ll := Y.len
  have et : (2 * (m.yn : Int) + 1 : Int) = ((2 * m.yn + 1 : Nat) : Int) := by omega
  have n1 := fs_ne.1
  have ep : putF fYM (V.int ((m.yn : Int) + 1)) ((fThings, V.ref td) :: moreM m md) = (fThings, V.ref td) :: moreM (m.make ⟨z, tag, es⟩) md := by
    unfold moreM
    simp only [putF, if_neg n1, if_true]; rfl
  refine ⟨_, rfl, B, C, dx, _, .int (m.yn : Nat), rfl, hB, TB.cl, TB.n_young_many, rfl, _, _, rfl, rfl, .inl ⟨by decide, by decide⟩, _, _, rfl, rfl, ?_⟩
  refine ⟨_, rfl, B, C, dx, _, .int (m.yn : Nat), rfl, hB, TB.cl, TB.n_young_many, rfl, _, _, rfl, rfl, dx, _, hB, (by show 4 < 1000; decide), ?_⟩
  have nBg : gl ≠ B := ne_ob hgl hB (fun z => by cases z)
  have ntB : td ≠ B := ne_ob Y.bk.hD hB (fun z => by cases z)
  have nmB : md ≠ B := ne_ob Y.hM hB (fun z => by cases z)
  have c0 : Chg [B, td] H (upd H B (.ins C dx (putF fYM (V.int ((m.yn : Int) + 1)) ((fThings, V.ref td) :: moreM m md)))) := .upd hB (fun _ z => by cases z) (by simp)
  have hB0 : upd H B (.ins C dx (putF fYM (V.int ((m.yn : Int) + 1)) ((fThings, V.ref td) :: moreM m md))) B = some (.ins C dx ((fThings, V.ref td) :: moreM (m.make ⟨z, tag, es⟩) md)) := by rw [upd_same, ep]
  have hD0 : upd H B (.ins C dx (putF fYM (V.int ((m.yn : Int) + 1)) ((fThings, V.ref td) :: moreM m md))) td = some (.dK (kvL L)) := by rw [upd_ne ntB]; exact Y.bk.hD
  refine ⟨_, rfl, _, rfl, _, rfl, gl, us, rfl, .inl (SqL.of (by rw [upd_ne nBg]; exact hgl)), fun l hl => fun x dxx hx hdx ne => ?_⟩
  obtain ⟨y, hy⟩ : ∃ y : Th, y = ⟨((2 * m.yn + 1 : Nat) : Int), x, l, z, tag, rowD ixD es, 0⟩ := ⟨_, rfl⟩
  have nk : y.key ∉ L.map Th.key := by rw [hy]; exact fun h => MM.make_new (Y.keyed.mp h)
  obtain ⟨k1, k2, Y2, c2, fx, fl⟩ := make_done (CT := CT) (y := y) Y.bk c0 hB0 hD0 nk (by rw [hy]) (by rw [hy]) (by rw [hy]) (by rw [hy]; exact rt) (by rw [hy]; exact ru) hl hx hdx ne
  have hM2 := c2.keep md _ (by simp [nmB, Y.ne]) Y.hM
  have X2 := Y.make (n := ⟨z, tag, es⟩) Y2 hM2 (by rw [hy]; exact ⟨rfl, by show z = (setG _ _ _ _).kind; rw [setG_at], by show tag = (setG _ _ _ _).tag; rw [setG_at], by show _ = rowD ixD (setG _ _ _ _).row; rw [setG_at], (if_pos rfl).symm⟩)
  rw [hy] at k1 k2 c2 X2
  refine ⟨x, dxx, _, _, l, rfl, upd_same, rfl, ?_⟩
  refine ⟨_, rfl, B, C, dx, _, .ref td, rfl, k2, TB.cl, TB.n_things, rfl, _, rfl, td, _, rfl, .inl ⟨kvL L, .inl ((2 * m.yn + 1 : Nat) : Int), k1, congrArg V.int et, by unfold MM.top at ll; rw [kl]; omega, rfl⟩, ?_⟩
  have ep2 := kvL_put nk
  rw [hy] at ep2
  have ep2 : putK (kvL L) (.inl ((2 * m.yn + 1 : Nat) : Int)) (.ref x) = kvL (L ++ [⟨((2 * m.yn + 1 : Nat) : Int), x, l, z, tag, rowD ixD es, 0⟩]) := ep2
  rw [ep2]
  refine ⟨_, rfl, (by show 2 ≤ sizeLine; omega), fun p hp => ?_⟩
  have hBF : B ∈ F := hF _ (by simp [FB])
  have htF : td ∈ F := hF _ (by simp [FB])
  obtain ⟨F', N, fr⟩ := X0.now0 X2 c2 (fun a ha => by simp at ha; rcases ha with rfl | rfl <;> assumption) (fun b hb => by
    rcases fb_cases hb with rfl | rfl | ⟨y, hy, rfl⟩ | ⟨y, hy, rfl⟩
    · exact .inl hBF
    · exact .inl htF
    · rcases List.mem_append.mp hy with h | h
      · exact .inl (hF _ (fb_t h))
      · rw [List.mem_singleton.mp h]; exact .inr fx
    · rcases List.mem_append.mp hy with h | h
      · exact .inl (hF _ (fb_s h))
      · rw [List.mem_singleton.mp h]; exact .inr fl) (.inl hmF)
  have hp0 : H p = none := c2.live p hp
  exact q p F' _ (N.same (same_new hp _)) (by rw [upd_same, ← et]) hp0 (fr p hp)
end
end D0
namespace D0
open PySem PySem.Spec PyProof.Rows L2 SX NumText
def spHKind (K : PySem.W.Frag) (C CT : Addr) : Sp := fun vs H Q _ => ∃ (B : Addr) (F : List Addr) (m : MM) (v : V) (a : Nat), vs = [.ref B, v] ∧ Mem K C CT H B F m ∧ RefV H (a : Int) v ∧ m.dom a ∧ Q (.str (S (m.G a).kind)) H
def spHTag (K : PySem.W.Frag) (C CT : Addr) : Sp := fun vs H Q _ => ∃ (B : Addr) (F : List Addr) (m : MM) (v : V) (a : Nat), vs = [.ref B, v] ∧ Mem K C CT H B F m ∧ RefV H (a : Int) v ∧ m.dom a ∧ ∀ tv, Rep H tv (m.G a).tag → Q tv H
def spHSlots (K : PySem.W.Frag) (C CT : Addr) : Sp := fun vs H Q _ => ∃ (B : Addr) (F : List Addr) (m : MM) (v : V) (a : Nat), vs = [.ref B, v] ∧ Mem K C CT H B F m ∧ RefV H (a : Int) v ∧ m.dom a ∧ ∀ p us, H p = none → Reps H us (rowD ixD (m.G a).row) → Q (.ref p) (upd H p (.lst us))
def spHLen (K : PySem.W.Frag) (C CT : Addr) : Sp := fun vs H Q _ => ∃ (B : Addr) (F : List Addr) (m : MM), vs = [.ref B] ∧ Mem K C CT H B F m ∧ Q (.int ((m.yn + m.on : Nat) : Int)) H
section
variable {K : PySem.W.Frag} {C CT : Addr} {H H' : Hp} {B td md : Addr} {L : List Th} {m : MM} {F F' : List Addr}
def MM.all (m : MM) : List Nat := (List.range m.yn).map (fun i => 2 * i + 1) ++ (List.range m.on).map (fun i => 2 * i)
theorem MM.mem_all {m : MM} {a : Nat} : a ∈ m.all ↔ m.dom a := by
  unfold MM.all MM.dom
  rw [List.mem_append, List.mem_map, List.mem_map]
  constructor
  · rintro (⟨i, h, rfl⟩ | ⟨i, h, rfl⟩)
    · have := List.mem_range.mp h; left; omega
    · have := List.mem_range.mp h; right; omega
  · rintro (⟨h1, h2⟩ | ⟨h1, h2⟩)
    · exact .inl ⟨a / 2, List.mem_range.mpr (by omega), by omega⟩
    · exact .inr ⟨a / 2, List.mem_range.mpr (by omega), by omega⟩
theorem MM.all_nodup (m : MM) : m.all.Nodup := by
  refine List.nodup_append.mpr ⟨List.pairwise_map.mpr (List.Pairwise.imp (fun h => by omega) List.nodup_range), List.pairwise_map.mpr (List.Pairwise.imp (fun h => by omega) List.nodup_range), fun a ha b hb => ?_⟩
  obtain ⟨i, _, rfl⟩ := List.mem_map.mp ha
  obtain ⟨j, _, rfl⟩ := List.mem_map.mp hb
  omega
theorem MM.all_len (m : MM) : m.all.length = m.yn + m.on := by unfold MM.all; rw [List.length_append, List.length_map, List.length_map, List.length_range, List.length_range]
theorem MemL.keysP (X : MemL K C CT H B td md L m) : ((L.map Th.key).map Int.toNat).Perm m.all := by
  refine (List.perm_ext_iff_of_nodup (nodup_int X.bk.nk fun k hk => ?_) m.all_nodup).mpr fun a => ?_
  · obtain ⟨x, hx, rfl⟩ := List.mem_map.mp hk
    obtain ⟨a, _, t, _⟩ := X.keys hx
    exact ⟨a, t.key⟩
  · rw [MM.mem_all]
    constructor
    · intro h
      obtain ⟨k, hk, rfl⟩ := List.mem_map.mp h
      obtain ⟨x, hx, rfl⟩ := List.mem_map.mp hk
      obtain ⟨a, d, _, e⟩ := X.keys hx
      rw [e]; exact d
    · intro d
      obtain ⟨x, hx, t⟩ := X.from_ a d
      exact List.mem_map.mpr ⟨x.key, List.mem_map_of_mem hx, by rw [t.key]; rfl⟩
theorem MemL.count (X : MemL K C CT H B td md L m) : L.length = m.yn + m.on := by
  have := X.keysP.length_eq
  rw [MM.all_len] at this
  simpa using this
end
section
variable {P : Program} {w : World} {K : PySem.W.Frag} {mg : Str → Option Value} {base : Heap} {C CT : Addr}
theorem ok_Heap_set_slot (TT : ThT K mg CT) (TB : HeT K mg C) (Om : OkM P w K mg base C CX0 4 "remember" p_Heap_remember (spRemember C)) : OkM P w K mg base C CX0 5 "set_slot" p_Heap_set_slot (spHSet K C CT) := by
  refine TB.g_set_slot.ok sc_Heap_set_slot (fun vs H Q E h => ?_) (fun f cdv A outer s H vs Q E hr h => ?_)
  · obtain ⟨B, F, m, v, u, a, i, N, e, rfl, _⟩ := h; rfl
  obtain ⟨B, F, m, v, u, a, i, N, e, rfl, X, lm, ⟨ra, y, rfl, hv⟩, da, hi, ru, oe, q⟩ := h
  refine ⟨_, (pss_cons (ps_asg (pv 3) (pg_sub (pe_fld (pe_dget (hu_of' hr) (pe_fld (pv 0) rfl) (pe_ix ix_tup (pv 1) pe_int (fun _ _ => rfl)) (fun _ _ => rfl)) rfl) (pv 2) set_list))
      (pss_one (ps_expr (pmethE Om TB.cl hr pass0 (pv 0) (pa_cons (pe_ix ix_tup (pv 1) pe_int (fun _ _ => rfl)) (pa_cons (pe_lst (pa_cons (pv 3) pa_nil)) pa_nil)))))), ?_⟩
  have X0 := X
  obtain ⟨td, md, L, Y, hF, hmF, _⟩ := X
  obtain ⟨x, hx, t, dx, dx2, tv, vs, hB, hg, g, r, g2, r2⟩ := Y.look da
  have vl : vs.length = (m.G a).row.length := by rw [r2.len, rowD_len]
  refine ⟨_, rfl, _, rfl, B, C, dx, _, .ref td, rfl, hB, TB.cl, TB.n_things, rfl, _, rfl, ra, _, 1, _, rfl, rfl, SqT.of hv, rfl, td, _, rfl, hg, ?_⟩
  refine ⟨x.t, CT, dx2, _, _, rfl, g, TT.cl, TT.n_slots, rfl, _, rfl, x.s, _, _, i, rfl, rfl, g2, ixN_nat (by omega), ?_⟩
  have er : (rowD ixD (m.G a).row).set i (e.d ixD) = rowD ixD ((m.G a).row.set i e) := by unfold rowD; rw [List.map_set]
  obtain ⟨Y2, c2⟩ := Y.setRow (vs := vs.set i u) (es := (m.G a).row.set i e) hx t (by rw [← er]; exact r2.set ru)
  obtain ⟨dx3, hB3⟩ := Y2.bk.hB
  refine ⟨_, rfl, B, dx3, _, rfl, hB3, rfl, _, rfl, ra, _, 1, _, rfl, rfl, SqT.of (c2.tups _ _ hv), rfl, _, rfl, (by show 1 ≤ sizeLine; decide), fun l hl => ?_⟩
  have s3 := same_new hl (.lst [u])
  have Y3 := Y2.same s3
  obtain ⟨dx4, hB4⟩ := Y3.bk.hB
  refine ⟨B, dx4, td, md, l, _, _, a, N, m.ms, [u], [e], rfl, hB4, Y3.hM, lm, upd_same, .one ((ru.mono c2.tups).mono (.same s3)), (fun z hz => by rw [List.mem_singleton.mp hz]; exact oe), fun H' n => ?_⟩
  have Y4 := Y3.noted n
  have hmF2 : x.s ∈ F := hF _ (fb_s hx)
  have htF : x.t ∈ F := hF _ (fb_t hx)
  obtain ⟨F', N', _⟩ := X0.now0 (m' := m.put a ⟨(m.G a).kind, (m.G a).tag, (m.G a).row.set i e⟩ [e]) Y4 (((c2.trans (.new hl)).mono (G := [x.s, md]) (fun b hb => by simp at hb ⊢; exact .inl hb)).trans ((n.chg Y3.hM).mono (G := [x.s, md]) (fun b hb => by simp at hb ⊢; exact .inr hb))) (fun b hb => by simp at hb; rcases hb with rfl | rfl <;> assumption) (fun b hb => by
    rcases FB.put hb with h | h | h
    · exact .inl (hF _ h)
    · rw [h]; exact .inl htF
    · rw [h]; exact .inl hmF2) (.inl hmF)
  exact q F' H' N'
theorem ok_Heap_change (T : Txt K w mg) (TT : ThT K mg CT) (TB : HeT K mg C) (Om : OkM P w K mg base C CX0 4 "remember" p_Heap_remember (spRemember C)) : OkM P w K mg base C CX0 5 "change" p_Heap_change (spHChange K C CT) := by
  refine TB.g_change.ok sc_Heap_change (fun vs H Q E h => ?_) (fun f cdv A outer s H vs Q E hr h => ?_)
  · obtain ⟨B, F, m, v, tv, g, us, a, N, tag, es, rfl, _⟩ := h; rfl
  obtain ⟨B, F, m, v, tv, gl, us, a, N, tag, es, rfl, X, lm, ⟨ra, y, rfl, hv⟩, da, rt, hgl, ru, oe, q⟩ := h
  refine ⟨_, (pss_cons (ps_set (i := 4) sc_Heap_change.nd rfl (.inl rfl) (pe_dget (hu_of' hr) (pe_fld (pv 0) rfl) (pe_ix ix_tup (pv 1) pe_int (fun _ _ => rfl)) (fun _ _ => rfl)))
      (pss_cons (ps_fld (pv 4) (pv 2) rfl)
      (pss_cons (ps_fld (pv 4) (pe_callTy call_list_of (by rfl) T.z_list PyProof.Rows.boot_list (pa_cons (pv 3) pa_nil)) rfl)
      (pss_one (ps_expr (pmethE Om TB.cl hr pass0 (pv 0) (pa_cons (pe_ix ix_tup (pv 1) pe_int (fun _ _ => rfl)) (pa_cons (pe_fld (pv 4) rfl) pa_nil)))))))), ?_⟩
  have X0 := X
  obtain ⟨td, md, L, Y, hF, hmF, _⟩ := X
  obtain ⟨x, hx, t, dx, dx2, tv0, vs, hB, hg, g, r, g2, r2⟩ := Y.look da
  refine ⟨_, rfl, B, C, dx, _, .ref td, rfl, hB, TB.cl, TB.n_things, rfl, _, rfl, ra, _, 1, _, rfl, rfl, SqT.of hv, rfl, td, _, rfl, hg, ?_⟩
  refine ⟨_, rfl, _, rfl, x.t, CT, dx2, _, rfl, g, TT.cl, TT.n_tag, (by show 4 < 1000; decide), ?_⟩
  have ntl : gl ≠ x.t := ne_ob hgl g (fun z => by cases z)
  refine ⟨_, rfl, gl, us, rfl, .inl (SqL.of (by rw [upd_ne ntl]; exact hgl)), fun s' hs' => ?_⟩
  obtain ⟨Z2, c2, f2, h2⟩ := change_done (tag := tag) (row := rowD ixD es) Y.bk hx g rt ru hs'
  refine ⟨_, rfl, x.t, CT, dx2, _, rfl, (by rw [upd_ne (fun z => by rw [← z, upd_same] at hs'; cases hs'), upd_same]), TT.cl, TT.n_slots, (by show (putF fTag tv (thF x tv0)).length < 1000; rw [putF_tag x tv0 tv tag (rowD ixD es)]; show 4 < 1000; decide), ?_⟩
  have nmt : md ≠ x.t := ne_ob Y.hM g (fun z => by cases z)
  have hM2 := c2.keep md _ (by simpa using nmt) Y.hM
  have Y2 := Y.putT (m' := ⟨m.yn, m.on, setG m.G a ⟨(m.G a).kind, tag, es⟩, m.ag, m.ms⟩) (x' := { x with tag := tag, row := rowD ixD es, s := s' }) hx t rfl Z2 hM2 ⟨t.key, by show x.kind = (setG m.G a _ a).kind; rw [setG_at]; exact t.kind, by show tag = (setG m.G a _ a).tag; rw [setG_at], by show rowD ixD es = rowD ixD (setG m.G a _ a).row; rw [setG_at], t.age⟩ rfl rfl (fun b n => setG_ne n) (fun b _ => rfl)
  obtain ⟨dx3, hB3⟩ := Y2.bk.hB
  have hs2 : _ := (Z2.hS _ (putT_self hx rfl))
  obtain ⟨ws, hs2, rs2⟩ := hs2
  refine ⟨_, rfl, B, dx3, _, rfl, hB3, rfl, _, rfl, ra, _, 1, _, rfl, rfl, SqT.of (c2.tups _ _ hv), rfl, _, rfl, x.t, CT, dx2, _, .ref s', rfl, h2, TT.cl, TT.n_slots, rfl, ?_⟩
  refine ⟨B, dx3, td, md, s', _, _, a, N, m.ms, ws, es, rfl, hB3, hM2, lm, hs2, rs2, oe, fun H' n => ?_⟩
  have Y4 := Y2.noted n
  have htF : x.t ∈ F := hF _ (fb_t hx)
  obtain ⟨F', N', _⟩ := X0.now0 (m' := m.put a ⟨(m.G a).kind, tag, es⟩ es) Y4 ((c2.mono (G := [x.t, md]) (fun b hb => by simp at hb ⊢; exact .inl hb)).trans ((n.chg hM2).mono (G := [x.t, md]) (fun b hb => by simp at hb ⊢; exact .inr hb))) (fun b hb => by simp at hb; rcases hb with rfl | rfl <;> assumption) (fun b hb => by
    rcases FB.put hb with h | h | h
    · exact .inl (hF _ h)
    · rw [h]; exact .inl htF
    · rw [h]; exact .inr f2) (.inl hmF)
  exact q F' H' N'
theorem ok_Store_slots_of (T : Txt K w mg) (TT : ThT K mg CT) (TB : HeT K mg C) : OkM P w K mg base C CX0 1 "slots_of" p_Store_slots_of (spHSlots K C CT) := by
  refine TB.g_slots_of.ok sc_Store_slots_of (fun vs H Q E h => ?_) (fun f cdv A outer s H vs Q E hr h => ?_)
  · obtain ⟨B, F, m, v, a, rfl, _⟩ := h; rfl
  obtain ⟨B, F, m, v, a, rfl, ⟨td, md, L, Y, _⟩, ⟨ra, y, rfl, hv⟩, da, q⟩ := h
  refine ⟨_, (pss_one (ps_ret (pe_callTy call_list_of (by rfl) T.z_list PyProof.Rows.boot_list (pa_cons (pe_fld (pe_dget (hu_of' hr) (pe_fld (pv 0) rfl) (pe_ix ix_tup (pv 1) pe_int (fun _ _ => rfl)) (fun _ _ => rfl)) rfl) pa_nil)))), ?_⟩
  obtain ⟨x, hx, t, dx, dx2, tv, vs, hB, hg, g, r, g2, r2⟩ := Y.look da
  refine ⟨_, rfl, B, C, dx, _, .ref td, rfl, hB, TB.cl, TB.n_things, rfl, _, rfl, ra, _, 1, _, rfl, rfl, SqT.of hv, rfl, td, _, rfl, hg, ?_⟩
  exact ⟨x.t, CT, dx2, _, _, rfl, g, TT.cl, TT.n_slots, rfl, x.s, _, rfl, .inl (SqL.of g2), fun p hp => q p vs hp r2⟩
theorem ok_Heap___len__ (T : Txt K w mg) (TB : HeT K mg C) : ∃ g fd, PySem.W.findIn K (.ref C) "__len__" = some (some (.ref g)) ∧ PySem.W.isFn K (.ref g) = true ∧ FnOk P w K mg base CX0 1 g fd p_Heap___len__ (spHLen K C CT) ∧ Binds K fd p_Heap___len__ [] := by
  obtain ⟨g, fd, h1, h2, Fn, hb⟩ := TB.len
  refine ⟨g, fd, h1, h2, Fn.ok sc_Heap___len__ (fun vs H Q E h => ?_) (fun cdv A outer s H vs Q E hr h => ?_), hb⟩
  · obtain ⟨B, F, m, rfl, _⟩ := h; rfl
  obtain ⟨B, F, m, rfl, ⟨td, md, L, Y, _⟩, q⟩ := h
  refine ⟨_, (pss_one (ps_ret (pe_callB call_lenD (by rfl) T.z_len PySem.boot_len (pa_cons (pe_fld (pv 0) rfl) pa_nil)))), ?_⟩
  obtain ⟨dx, hB⟩ := Y.bk.hB
  refine ⟨_, rfl, B, C, dx, _, .ref td, rfl, hB, TB.cl, TB.n_things, rfl, td, _, rfl, Y.bk.hD, ?_⟩
  rw [kvL_len, Y.count]; exact q
end
end D0
namespace D0
open PySem PySem.Spec PyProof.Rows L2 SX NumText
def ordV (f : Nat → Int) (os : List Nat) : List V := os.map fun x => V.int (f x)
def metK (f : Nat → Int) (os : List Nat) : List (Key × V) := os.map fun x => (.inl (f x), .bl true)
theorem ordV_len (f : Nat → Int) (os : List Nat) : (ordV f os).length = os.length := by unfold ordV; rw [List.length_map]
theorem metK_len (f : Nat → Int) (os : List Nat) : (metK f os).length = os.length := by unfold metK; rw [List.length_map]
theorem ordV_app (f : Nat → Int) (a b : List Nat) : ordV f (a ++ b) = ordV f a ++ ordV f b := List.map_append
theorem ordV_at {f : Nat → Int} {os : List Nat} {j : Nat} (h : j < os.length) : atI (ordV f os) (j : Int) = some (.int (f os[j])) := atI_nat (by unfold ordV; rw [List.getElem?_map, List.getElem?_eq_getElem h]; rfl)
section
variable {f : Nat → Int} {U : Nat → Prop}
theorem metK_get (inj : ∀ i j, U i → U j → f i = f j → i = j) : ∀ {os : List Nat} {x : Nat}, (∀ y ∈ os, U y) → U x → (valV (metK f os) (.inl (f x))).isSome = decide (x ∈ os)
  | [], x, _, _ => by rfl
  | y :: r, x, h, hx => by
    unfold metK valV
    rw [List.map_cons]
    by_cases e : y = x
    · subst e
      rw [List.find?_cons_of_pos (by simp)]
      rw [decide_eq_true (List.mem_cons_self ..)]; rfl
    · have ih := metK_get inj (os := r) (x := x) (fun z hz => h z (List.mem_cons_of_mem _ hz)) hx
      rw [List.find?_cons_of_neg]
      · rw [show decide (x ∈ y :: r) = decide (x ∈ r) by rw [decide_eq_decide]; simp [Ne.symm e]]
        exact ih
      · intro z
        have z2 : (Sum.inl (f y) : Key) = .inl (f x) := of_decide_eq_true z
        exact e (inj y x (h y (List.mem_cons_self ..)) hx (Sum.inl.inj z2))
theorem metK_put (inj : ∀ i j, U i → U j → f i = f j → i = j) {os : List Nat} {x : Nat} (h : ∀ y ∈ os, U y) (hx : U x) (n : x ∉ os) : putK (metK f os) (.inl (f x)) (.bl true) = metK f (os ++ [x]) := by
  unfold putK
  rw [if_neg]
  · unfold metK; rw [List.map_append]; rfl
  · intro z
    obtain ⟨kv, h1, h2⟩ := List.any_eq_true.mp z
    obtain ⟨y, hy, rfl⟩ := List.mem_map.mp h1
    have h2 : (Sum.inl (f y) : Key) = .inl (f x) := of_decide_eq_true h2
    exact n (by rw [← inj y x (h y hy) hx (Sum.inl.inj h2)]; exact hy)
/-- numbers for addresses -/
def kvN (f : Nat → Int) : Nat → List Nat → List (Key × V)
  | _, [] => []
  | i, x :: r => (.inl (f x), .int (i : Nat)) :: kvN f (i + 1) r
theorem kvN_app (x : Nat) : ∀ (os : List Nat) (i : Nat), kvN f i (os ++ [x]) = kvN f i os ++ [(.inl (f x), .int ((i + os.length : Nat) : Int))]
  | [], i => rfl
  | a :: r, i => by
    show _ :: kvN f (i + 1) (r ++ [x]) = _ :: (kvN f (i + 1) r ++ _)
    rw [kvN_app x r (i + 1), show i + 1 + r.length = i + (a :: r).length by simp; omega]
theorem kvN_mem : ∀ {os : List Nat} {i : Nat} {kv : Key × V}, kv ∈ kvN f i os → ∃ y ∈ os, kv.1 = .inl (f y)
  | [], _, _, h => by cases h
  | a :: r, i, kv, h => by
    rcases List.mem_cons.mp h with rfl | h
    · exact ⟨a, List.mem_cons_self .., rfl⟩
    · obtain ⟨y, h1, h2⟩ := kvN_mem h
      exact ⟨y, List.mem_cons_of_mem _ h1, h2⟩
theorem kvN_len : ∀ {os : List Nat} {i : Nat}, (kvN f i os).length = os.length
  | [], _ => rfl
  | a :: r, i => congrArg Nat.succ (kvN_len (os := r))
theorem kvN_put (inj : ∀ i j, U i → U j → f i = f j → i = j) {os : List Nat} {x : Nat} (h : ∀ y ∈ os, U y) (hx : U x) (n : x ∉ os) : putK (kvN f 0 os) (.inl (f x)) (.int (os.length : Nat)) = kvN f 0 (os ++ [x]) := by
  unfold putK
  rw [if_neg]
  · rw [kvN_app, Nat.zero_add]
  · intro z
    obtain ⟨kv, h1, h2⟩ := List.any_eq_true.mp z
    obtain ⟨y, hy, e⟩ := kvN_mem h1
    have h2 : kv.1 = .inl (f x) := of_decide_eq_true h2
    rw [e] at h2
    exact n (by rw [← inj y x (h y hy) hx (Sum.inl.inj h2)]; exact hy)
theorem kvN_get (inj : ∀ i j, U i → U j → f i = f j → i = j) : ∀ {os : List Nat} {i j : Nat}, (∀ y ∈ os, U y) → os.Nodup → (hj : j < os.length) → valV (kvN f i os) (.inl (f os[j])) = some (.int ((i + j : Nat) : Int))
  | a :: r, i, 0, h, nd, hj => by
    unfold kvN valV
    rw [List.find?_cons_of_pos (by simp)]; rfl
  | a :: r, i, j + 1, h, nd, hj => by
    have hj' : j < r.length := by simpa using hj
    rw [List.nodup_cons] at nd
    have ih := kvN_get inj (os := r) (i := i + 1) (j := j) (fun z hz => h z (List.mem_cons_of_mem _ hz)) nd.2 hj'
    unfold kvN valV
    rw [List.getElem_cons_succ]
    rw [List.find?_cons_of_neg]
    · rw [show i + (j + 1) = i + 1 + j by omega]; exact ih
    · intro z
      have z2 : (Sum.inl (f a) : Key) = .inl (f r[j]) := of_decide_eq_true z
      have hm := List.getElem_mem hj'
      have := inj a r[j] (h a (List.mem_cons_self ..)) (h _ (List.mem_cons_of_mem _ hm)) (Sum.inl.inj z2)
      exact nd.1 (by rw [this]; exact hm)
theorem kvN_plc (inj : ∀ i j, U i → U j → f i = f j → i = j) {os : List Nat} {x : Nat} (h : ∀ y ∈ os, U y) (nd : os.Nodup) (hx : x ∈ os) : valV (kvN f 0 os) (.inl (f x)) = some (.int (plc os x)) := by
  obtain ⟨j, hj, rfl⟩ := List.getElem_of_mem hx
  rw [kvN_get inj h nd hj, plc_at nd hj, Nat.zero_add]
end
def spMeet : Sp := fun vs H Q _ => ∃ (B a m o : Addr) (ws : List V) (es : List Ent) (f : Nat → Int) (U : Nat → Prop) (N : Nat) (os : List Nat), vs = [.ref B, .ref a, .ref m, .ref o] ∧ H a = some (.lst ws) ∧ Reps H ws (rowD f es) ∧ (∀ e ∈ es, e.okP U) ∧ (∀ k, U k → k < N) ∧ N ≤ 4000 ∧
  (∀ i j, U i → U j → f i = f j → i = j) ∧ H m = some (.dK (metK f os)) ∧ H o = some (.lst (ordV f os)) ∧ (∀ x ∈ os, U x) ∧ os.Nodup ∧ a ≠ o ∧
  ∀ H', Chg [m, o] H H' → H' m = some (.dK (metK f (meet (tgs es) os))) → H' o = some (.lst (ordV f (meet (tgs es) os))) → Q .non H'
section
variable {P : Program} {w : World} {K : PySem.W.Frag} {mg : Str → Option Value} {base : Heap} {C CT : Addr}
theorem ok_meet_all (T : Txt K w mg) (TB : HeT K mg C) (Oa : OkD P w K mg base CX0 2 "address_of" p_address_of spAddr) : OkM P w K mg base C CX0 3 "meet_all" p_Store_meet_all spMeet := by
  refine TB.g_meet_all.ok sc_Store_meet_all (fun vs H Q E h => ?_) (fun f cdv A outer s H vs Q E hr h => ?_)
  · obtain ⟨B, a, m, o, ws, es, f, U, N, os, rfl, _⟩ := h; rfl
  obtain ⟨B, a, m, o, ws, es, f, U, N, os, rfl, ha, rs, oe, ltN, hN, inj, hm, ho, lt, nd, nao, q⟩ := h
  refine ⟨_, (pss_one (ps_for PassesOwn.never rfl (pi_list (pv 1)) (pg_name (i := 4) sc_Store_meet_all.nd rfl (Or.inl rfl)) (pss_cons (ps_set (i := 5) sc_Store_meet_all.nd rfl (.inl rfl) (pcall Oa hr (pa_cons (pv 4) pa_nil)))
      (pss_one (ps_if (PW.pt (pw_and (pt_cmpR op_notN (pv 5) pe_non (nomark _)) (pw_and1 (pt_cmp (pc_dnotin (hu_of' hr) (pv 5) (pv 2)))))) (pss_cons (ps_dput (hu_of' hr) (pv 2) (pv 5) pe_bl rfl)
      (pss_one (ps_expr (pe_bm PySem.F.plainAttrs_list PySem.F.slot_list_append PySem.F.type_list_append mt_append (pv 3) (pa_cons (pv 5) pa_nil))))) pss_nil))))), ?_⟩
  have lim : (20000 : Nat) < sizeLine := lim4
  have wl : ws.length = es.length := by rw [rs.len]; unfold rowD; rw [List.length_map]
  have nam : a ≠ m := ne_ob ha hm (fun z => by cases z)
  have nmo : m ≠ o := ne_ob hm ho (fun z => by cases z)
  refine ⟨_, rfl, a, rfl, ⟨ws, SqL.of ha⟩, ?_⟩
  refine for_it (walk_list (xs := ws)) (fun i σ H' => ∃ o4 o5, σ = [some (.ref B), some (.ref a), some (.ref m), some (.ref o), o4, o5] ∧ Chg [m, o] H H' ∧ H' m = some (.dK (metK f (meet (tgs (es.take i)) os))) ∧ H' o = some (.lst (ordV f (meet (tgs (es.take i)) os))))
    ⟨none, none, rfl, .refl, hm, ho⟩ (fun i σ H' _ h => by
      obtain ⟨o4, o5, rfl, c, _⟩ := h
      exact SqL.of (c.keep _ _ (by simp [nam, nao]) ha)) ?_ ?_
  · rintro i x σ H1 H2 hi ⟨o4, o5, rfl, c, h1, h2⟩ ⟨rfl, hx⟩
    have hi' : i < es.length := by omega
    obtain ⟨d, hd, rd⟩ := (rs.mono c.tups).get hx
    have hd' : (es.map (Ent.d f))[i]? = some d := hd
    rw [List.getElem?_map, List.getElem?_eq_getElem hi'] at hd'
    have hd' : es[i].d f = d := Option.some.inj hd'
    subst hd'
    have oei := oe _ (List.getElem_mem hi')
    obtain ⟨os1, e1⟩ : ∃ os1, os1 = meet (tgs (es.take i)) os := ⟨_, rfl⟩
    rw [← e1] at h1 h2
    have lt1 : ∀ y ∈ os1, U y := fun y hy => by
      rw [e1] at hy
      rcases meet_mem.mp hy with h | h
      · exact lt y h
      · obtain ⟨e, he, qe⟩ := of_tgs h; exact (oe e (List.mem_of_mem_take he)).tg qe
    have nd1 : os1.Nodup := by rw [e1]; exact meet_nodup nd
    have l1 := nodup_le N nd1 fun y hy => ltN y (lt1 y hy)
    have st : meet (tgs (es.take (i + 1))) os = meet (es[i].tg.toList) os1 := by
      have e : es.take (i + 1) = es.take i ++ [es[i]] := by rw [List.take_add_one, List.getElem?_eq_getElem hi']; rfl
      rw [e, tgs_app, meet_app, e1, tgs_one]
    refine ⟨_, rfl, x, es[i], f, N, rfl, rd, oei.ok ltN, ?_⟩
    cases ht : es[i].tg with
    | none =>
      rw [ht] at st
      refine ⟨_, rfl, rfl, _, rfl, iteF ?_⟩
      exact ⟨_, _, rfl, c, by rw [st]; exact h1, by rw [st]; exact h2⟩
    | some k =>
      rw [ht] at st
      have hk := oei.tg ht
      refine ⟨_, rfl, rfl, _, rfl, iteT ?_⟩
      refine ⟨_, rfl, _, rfl, m, _, rfl, DGet.k (k := Sum.inl (f k)) h1, _, rfl, ?_⟩
      rw [metK_get inj lt1 hk]
      have st2 : meet (some k).toList os1 = put1 os1 k := rfl
      rw [st2] at st
      by_cases hm1 : k ∈ os1
      · rw [decide_eq_true hm1]
        refine iteF ⟨_, _, rfl, c, ?_, ?_⟩
        · rw [st]; unfold put1; rw [if_pos hm1]; exact h1
        · rw [st]; unfold put1; rw [if_pos hm1]; exact h2
      · rw [decide_eq_false hm1]
        refine iteT ⟨_, rfl, _, rfl, m, _, rfl, .inl ⟨_, .inl (f k), h1, rfl, by rw [metK_len]; omega, rfl⟩, ?_⟩
        rw [metK_put inj lt1 hk hm1]
        have h2' : upd H2 m (.dK (metK f (os1 ++ [k]))) o = some (.lst (ordV f os1)) := by rw [upd_ne (Ne.symm nmo)]; exact h2
        refine ⟨_, rfl, .inl ⟨rfl, _, SqL.of h2'⟩, _, rfl, o, _, _, rfl, rfl, h2', by rw [ordV_len]; omega, ?_⟩
        refine ⟨_, _, rfl, (c.trans (.upd h1 (fun _ z => by cases z) (by simp))).trans (.upd h2' (fun _ z => by cases z) (by simp)), ?_, ?_⟩
        · rw [upd_ne nmo, upd_same, st]; unfold put1; rw [if_neg hm1]
        · rw [upd_same, st]; unfold put1; rw [if_neg hm1, ordV_app]; rfl
  · rintro σ H1 ⟨o4, o5, rfl, c, h1, h2⟩
    rw [wl, List.take_length] at h1 h2
    exact q H1 c h1 h2
end
end D0
namespace D0
open PySem PySem.Spec PyProof.Rows L2 SX NumText
/-- the nodes U of a graph G stand in the memory at the addresses f -/
structure On (m : MM) (f : Nat → Nat) (G : Nat → Nd) (U : Nat → Prop) (N : Nat) : Prop where
  dom : ∀ k, U k → m.dom (f k)
  at_ : ∀ k, U k → m.G (f k) = (G k).mv f
  inj : ∀ i j, U i → U j → f i = f j → i = j
  clo : ∀ k, U k → ∀ e ∈ (G k).row, e.okP U
  lt : ∀ k, U k → k < N
  le : N ≤ 4000
def aI (f : Nat → Nat) : Nat → Int := fun k => ((f k : Nat) : Int)
theorem aI_mv (f : Nat → Nat) (es : List Ent) : rowD ixD (mvs f es) = rowD (aI f) es := mvs_d f ixD es
section
variable {K : PySem.W.Frag} {C CT : Addr} {H : Hp} {B td md : Addr} {L : List Th} {m : MM} {f : Nat → Nat} {G : Nat → Nd} {U : Nat → Prop} {N : Nat}
theorem On.injI (Z : On m f G U N) : ∀ i j, U i → U j → aI f i = aI f j → i = j := fun i j h1 h2 e => Z.inj i j h1 h2 (by unfold aI at e; omega)
theorem On.look (Z : On m f G U N) (X : MemL K C CT H B td md L m) {k : Nat} (h : U k) : ∃ x ∈ L, ∃ dx dx2 tv vs, H B = some (.ins C dx ((fThings, .ref td) :: moreM m md)) ∧ DGet H td (.int (aI f k)) (some (.ref x.t)) ∧
    H x.t = some (.ins CT dx2 (thF x tv)) ∧ Rep H tv (G k).tag ∧ H x.s = some (.lst vs) ∧ Reps H vs (rowD (aI f) (G k).row) ∧ x.kind = (G k).kind := by
  obtain ⟨x, hx, t, dx, dx2, tv, vs, h1, h2, h3, h4, h5, h6⟩ := X.look (Z.dom k h)
  rw [Z.at_ k h] at h4 h6
  have ek := t.kind
  rw [Z.at_ k h] at ek
  exact ⟨x, hx, dx, dx2, tv, vs, h1, h2, h3, h4, h5, by rw [← aI_mv]; exact h6, ek⟩
/-- the memory itself -/
theorem On.self {m : MM} (h : m.ok) : On m id m.G m.dom m.top :=
  ⟨fun _ d => d, fun k d => by unfold Nd.mv; rw [show mvs id (m.G k).row = (m.G k).row from mvs_same fun _ _ _ _ => rfl]; rfl, fun _ _ _ _ e => e, h.clo, fun _ d => MM.dom_lt d, by have := h.le; unfold MM.top; omega⟩
end
/-- the steps of reach -/
def RchW (H : Hp) (B a m o : Addr) (f : Nat → Nat) (G : Nat → Nd) (U : Nat → Prop) (N : Nat) (es : List Ent) : Nat → L2.St → Hp → Prop := fun n σ H' => ∃ (os : List Nat) (k : Nat), σ = [some (.ref B), some (.ref a), some (.ref m), some (.ref o), some (.int (k : Nat))] ∧ n = N - k ∧
  Same H H' ∧ H' m = some (.dK (metK (aI f) os)) ∧ H' o = some (.lst (ordV (aI f) os)) ∧ (∀ x ∈ os, U x) ∧ os.Nodup ∧ ∀ R, Bf (scG G) os k R → Reach G es R
def spHReach (K : PySem.W.Frag) (C CT : Addr) : Sp := fun vs H Q _ => ∃ (B : Addr) (F : List Addr) (m : MM) (f : Nat → Nat) (G : Nat → Nd) (U : Nat → Prop) (N : Nat) (a : Addr) (ws : List V) (es : List Ent), vs = [.ref B, .ref a] ∧ Mem K C CT H B F m ∧ On m f G U N ∧
  H a = some (.lst ws) ∧ Reps H ws (rowD (aI f) es) ∧ (∀ e ∈ es, e.okP U) ∧ ∀ p R H', Reach G es R → Same H H' → H p = none → H' p = some (.lst (ordV (aI f) R)) → Q (.ref p) H'
/-- one object as graph tells it -/
def objG (G : Nat → Nd) (g : Nat → Int) (x : Nat) : D := .tup [.str (G x).kind, (G x).tag, .tup (rowD g (G x).row)]
def graphG (G : Nat → Nd) (es : List Ent) (R : List Nat) : D := .tup [.tup (rowD (plc R) es), .tup (R.map (objG G (plc R)))]
def spHGraph (K : PySem.W.Frag) (C CT : Addr) : Sp := fun vs H Q _ => ∃ (B : Addr) (F : List Addr) (m : MM) (f : Nat → Nat) (G : Nat → Nd) (U : Nat → Prop) (N : Nat) (a : Addr) (ws : List V) (es : List Ent), vs = [.ref B, .ref a] ∧ Mem K C CT H B F m ∧ On m f G U N ∧ (∀ k, U k → (G k).row.length ≤ 100) ∧
  H a = some (.lst ws) ∧ Reps H ws (rowD (aI f) es) ∧ (∀ e ∈ es, e.okP U) ∧ es.length ≤ 100 ∧ N ≤ 2000 ∧ ∀ v R H', Reach G es R → Same H H' → Rep H' v (graphG G es R) → Q v H'
theorem Rep.tupOf {H : Hp} {p : Addr} {vs : List V} {ds : List D} (h : H p = some (.tup vs)) (r : Reps H vs ds) (l : ds.length ≤ 2000) : Rep H (.ref p) (.tup ds) := .tup h (by rw [r.len]; exact l) r
theorem same_chg2 {H H1 H2 : Hp} {F : List Addr} (s : Same H H1) (h : ∀ a ∈ F, H a = none) (c : Chg F H1 H2) : Same H H2 := fun a o e => c.keep a o (fun z => by rw [h a z] at e; cases e) (s a o e)
/-- a dict comprehension over what is walked -/
theorem dc_it {J : It} {n : Nat} {G : Hp → Prop} {Y : Nat → Hp → V → Hp → Prop} (w : Walk J n G Y) {g : TG} {tt : TT} {tk tv : TE} {vs : List Nat} {σ : L2.St} {H1 : Hp} {D : Addr} {Qd : Hp → Prop} (Pv : Nat → Hp → Prop)
    (h0 : Pv 0 (upd H1 D (.dK []))) (hG : ∀ i H, i ≤ n → Pv i H → G H)
    (hs : ∀ i x H H', i < n → Pv i H → Y i H x H' → g x (wipe σ vs) H' fun σ2 H2 => wipe σ2 vs = wipe σ vs ∧ tt σ2 H2 fun b H3 =>
      if b = true then tk σ2 H3 fun y H4 => tv σ2 H4 fun z H5 => ∃ kvs k, y = kV k ∧ H5 D = some (.dK kvs) ∧ kvs.length < sizeLine ∧ Pv (i + 1) (upd H5 D (.dK (putK kvs k z))) else Pv (i + 1) H3) (hd : ∀ H, Pv n H → Qd H) :
    ∃ W : Nat → Nat → Hp → Prop, (∃ m, W 0 m (upd H1 D (.dK []))) ∧ ∀ i m H, W i m H → (J.stop i H ∧ Qd H) ∨
      (J.go i H ∧ ∃ Nx : Hp → Prop, (∀ H', Nx H' → ∃ m', m' < m ∧ W (i + 1) m' H') ∧ ∀ x H', J.yld i H x H' → g x (wipe σ vs) H' fun σ2 H2 => wipe σ2 vs = wipe σ vs ∧ tt σ2 H2 fun b H3 =>
        if b = true then tk σ2 H3 fun y H4 => tv σ2 H4 fun z H5 => ∃ kvs k, y = kV k ∧ H5 D = some (.dK kvs) ∧ kvs.length < sizeLine ∧ Nx (upd H5 D (.dK (putK kvs k z))) else Nx H3) := by
  refine ⟨fun i m H => Pv i H ∧ i ≤ n ∧ m = n - i, ⟨n, h0, Nat.zero_le n, (Nat.sub_zero n).symm⟩, fun i m H hW => ?_⟩
  obtain ⟨p, hi, em⟩ := hW
  have hg := hG i H hi p
  rcases Nat.lt_or_ge i n with l | l
  · refine .inr ⟨w.goes i H l hg, Pv (i + 1), fun H' p' => ⟨n - (i + 1), by omega, p', l, rfl⟩, fun x H' y => ?_⟩
    exact hs i x H H' l p (w.yields i H x H' l hg y)
  · have e : i = n := by omega
    subst e
    exact .inl ⟨w.stops H hg, hd H p⟩
section
variable {P : Program} {w : World} {K : PySem.W.Frag} {mg : Str → Option Value} {base : Heap} {C CT : Addr}
theorem ok_reach (T : Txt K w mg) (TT : ThT K mg CT) (TB : HeT K mg C) (Om : OkM P w K mg base C CX0 3 "meet_all" p_Store_meet_all spMeet) : OkM P w K mg base C CX0 4 "reach" p_Store_reach (spHReach K C CT) := by
  refine TB.g_reach.ok sc_Store_reach (fun vs H Q E h => ?_) (fun f cdv A outer s H vs Q E hr h => ?_)
  · obtain ⟨B, F, m, f, G, U, N, a, ws, es, rfl, _⟩ := h; rfl
  obtain ⟨B, F, mm, f, G, U, N, a, ws, es, rfl, ⟨td, md, L, X, _⟩, Z, ha, rs, oe, q⟩ := h
  have nl : List.lookup (Str.ofString "meet_all") ((fThings, V.ref td) :: moreM mm md) = none := rfl
  refine ⟨_, (pss_cons (ps_set (i := 2) sc_Store_reach.nd rfl (.inl rfl) pe_dnewK)
      (pss_cons (ps_set (i := 3) sc_Store_reach.nd rfl (.inl rfl) (pe_lst pa_nil))
      (pss_cons (ps_expr (pmethE Om TB.cl hr pass0 (pv 0) (pa_cons (pv 1) (pa_cons (pv 2) (pa_cons (pv 3) pa_nil)))))
      (pss_cons (ps_set (i := 4) sc_Store_reach.nd rfl (.inl rfl) pe_int)
      (pss_cons (ps_while PassesOwn.never (pt_cmpR op_lt (pv 4) (pe_callB call_len_seq (by rfl) T.z_len PySem.boot_len (pa_cons (pv 3) pa_nil)) (nomark _)) (pss_cons (ps_expr (pmethE Om TB.cl hr pass0 (pv 0) (pa_cons (pe_fld (pe_dget (hu_of' hr) (pe_fld (pv 0) rfl) (pe_ix ix_list (pv 3) (pv 4) (fun _ _ => rfl)) (fun _ _ => rfl)) rfl) (pa_cons (pv 2) (pa_cons (pv 3) pa_nil)))))
      (pss_one (ps_aug (i := 4) sc_Store_reach.nd rfl (.inl rfl) pe_int ip_add))))
      (pss_one (ps_ret (pv 3)))))))), ?_⟩
  obtain ⟨dx0, hB0⟩ := X.bk.hB
  intro m hm
  refine ⟨Nat.zero_le _, fun o ho => ?_⟩
  have s1 := same_new hm (.dK [])
  have s2 := same_new ho (.lst [])
  have S2 := s1.trans s2
  have fo : H o = none := s1.free ho
  have hm2 := s2 _ _ (upd_same (H := H) (a := m) (o := .dK []))
  have ho2 : upd (upd H m (.dK [])) o (.lst []) o = some (.lst []) := upd_same
  generalize upd (upd H m (.dK [])) o (.lst []) = H2 at S2 hm2 ho2
  have nao : a ≠ o := ne_of_none ha fo
  refine ⟨_, rfl, B, dx0, _, rfl, S2 _ _ hB0, nl, _, rfl, _, rfl, _, rfl, B, a, m, o, ws, es, aI f, U, N, [], rfl, S2 _ _ ha, rs.mono (.same S2), oe, Z.lt, Z.le, Z.injI, hm2, ho2, (fun x h => by cases h), List.Pairwise.nil, nao, fun H3 c3 hm3 ho3 => ?_⟩
  have S3 : Same H H3 := same_chg2 S2 (fun b hb => by simp at hb; rcases hb with rfl | rfl; exact hm; exact fo) c3
  refine ⟨RchW H B a m o f G U N es, ⟨_, meet (tgs es) [], 0, rfl, rfl, S3, hm3, ho3, meet_dom (fun x m => by cases m) (fun x m => by obtain ⟨e, he, qe⟩ := of_tgs m; exact (oe e he).tg qe), meet_nodup List.Pairwise.nil, fun R h => h⟩, ?_⟩
  rintro n σ H4 ⟨os, k, rfl, rfl, S4, hm4, ho4, lt4, nd4, e4⟩
  have l4 := nodup_le N nd4 fun y hy => Z.lt y (lt4 y hy)
  refine ⟨_, rfl, _, rfl, o, _, rfl, .inl (SqL.of ho4), _, _, rfl, rfl, _, rfl, ?_⟩
  rw [ordV_len]
  refine ite2 (fun c => ?_) (fun c => ?_)
  · have c := of_decide_eq_true c
    have hk : k < os.length := by omega
    have X4 := X.same S4
    have hx := lt4 _ (List.getElem_mem hk)
    obtain ⟨x, hxL, dx, dx2, tv, us, hB, hg, g, r, g2, r2, _⟩ := Z.look X4 hx
    refine ⟨_, fun _ _ h => h, ?_⟩
    refine ⟨_, rfl, B, dx, _, rfl, hB, nl, _, rfl, B, C, dx, _, .ref td, rfl, hB, TB.cl, TB.n_things, rfl, _, rfl, _, rfl, o, _, _, _, rfl, rfl, SqL.of ho4, ordV_at hk, td, _, rfl, hg, ?_⟩
    refine ⟨x.t, CT, dx2, _, .ref x.s, rfl, g, TT.cl, TT.n_slots, rfl, _, rfl, _, rfl, ?_⟩
    have rowok := Z.clo _ hx
    refine ⟨B, x.s, m, o, us, (G os[k]).row, aI f, U, N, os, rfl, g2, r2, rowok, Z.lt, Z.le, Z.injI, hm4, ho4, lt4, nd4, ?_, fun H5 c5 hm5 ho5 => ?_⟩
    · intro z
      have : o ∈ FB B td L := by rw [← z]; exact fb_s hxL
      exact X.bk.here o this fo
    have S5 : Same H H5 := same_chg2 S4 (fun b hb => by simp at hb; rcases hb with rfl | rfl; exact hm; exact fo) c5
    refine ⟨_, rfl, _, _, rfl, rfl, _, ?_, meet (tgs (G os[k]).row) os, k + 1, rfl, rfl, S5, hm5, ho5, meet_dom lt4 (fun y hy => by obtain ⟨e, he, qe⟩ := of_tgs hy; exact (rowok e he).tg qe), meet_nodup nd4, fun R h => e4 R (.step hk h)⟩
    omega
  · have c : ¬ ((k : Int) < (os.length : Int)) := of_decide_eq_false (by simpa using c)
    exact ⟨_, rfl, q o os H4 (e4 os (.stop (by omega))) S4 fo ho4⟩
end
end D0
namespace D0
open PySem PySem.Spec PyProof.Rows L2 SX NumText
def spMeetY : Sp := fun vs H Q _ => ∃ (a m o : Addr) (ws : List V) (es : List Ent) (U : Nat → Prop) (N : Nat) (os : List Nat), vs = [.ref a, .ref m, .ref o] ∧ H a = some (.lst ws) ∧ Reps H ws (rowD ixD es) ∧ (∀ e ∈ es, e.okP U) ∧ (∀ k, U k → k < N) ∧ N ≤ 4000 ∧
  H m = some (.dK (metK ixD os)) ∧ H o = some (.lst (ordV ixD os)) ∧ (∀ x ∈ os, U x) ∧ os.Nodup ∧ a ≠ o ∧
  ∀ H', Chg [m, o] H H' → H' m = some (.dK (metK ixD (meet (yt es) os))) → H' o = some (.lst (ordV ixD (meet (yt es) os))) → Q .non H'
/-- a property of the class C and its getter's promise -/
def OkP (P : Program) (w : World) (K : PySem.W.Frag) (mg : Str → Option Value) (base : Heap) (C : Addr) (k : Nat) (x : Str) (sp : Sp) : Prop := ∃ p f fd ps, PropOf K C x p f ∧ FnOk P w K mg base CX0 k f fd ps sp ∧ Binds K fd ps []
theorem pprop {X : Cx} {k j : Nat} {C : Addr} {x : Str} {sp : Sp} {e : Expr} {pos : Pos} {ta : TE} (O : OkP X.prog X.w X.K X.mg X.base C k x sp) (cl : Cls X.K C) (hr : Room j X.A) (he : PE X e ta) (hj : k + 1 ≤ j := by first | decide | omega)
    (hab : attributeBase e x X.env (eval e X.env) = eval e X.env := by rfl) : PE X (.Attribute e x pos) (tProp C sp [] E0 ta) := by
  obtain ⟨p, f, fd, ps, hp, F, hb⟩ := O
  exact pe_prop he cl hp F (hr.mono hj) hb .nil pass0 hab
def spRemd (C : Addr) : Sp := fun vs H Q _ => ∃ (B dx td md : Addr) (i1 i2 : V) (ms : List Nat), vs = [.ref B] ∧ H B = some (.ins C dx [(fThings, .ref td), (fYM, i1), (fOM, i2), (fMk, .ref md)]) ∧ H md = some (.dK (markK ms)) ∧
  ∀ (rs : List Nat) (p : Addr) H', rs.Perm ms → rs.Pairwise (· ≤ ·) → Same H H' → H p = none → H' p = some (.lst (ordV ixD rs)) → Q (.ref p) H'
def spYoungN (C : Addr) : Sp := fun vs H Q _ => ∃ (B dx td md : Addr) (i1 i2 : V), vs = [.ref B] ∧ H B = some (.ins C dx [(fThings, .ref td), (fYM, i1), (fOM, i2), (fMk, .ref md)]) ∧ Q i1 H
def spOldN (C : Addr) : Sp := fun vs H Q _ => ∃ (B dx td md : Addr) (i1 i2 : V), vs = [.ref B] ∧ H B = some (.ins C dx [(fThings, .ref td), (fYM, i1), (fOM, i2), (fMk, .ref md)]) ∧ Q i2 H
section
variable {P : Program} {w : World} {K : PySem.W.Frag} {mg : Str → Option Value} {base : Heap} {C CT : Addr}
theorem ok_Heap_young (TB : HeT K mg C) : OkP P w K mg base C 1 "young" (spYoungN C) := by
  obtain ⟨p, f, fd, hp, F, hb⟩ := TB.y_young
  refine ⟨p, f, fd, _, hp, F.ok sc_Heap_young (fun vs H Q E h => ?_) (fun cdv A outer s H vs Q E hr h => ?_), hb⟩
  · obtain ⟨B, dx, td, md, i1, i2, rfl, _⟩ := h; rfl
  obtain ⟨B, dx, td, md, i1, i2, rfl, hB, q⟩ := h
  exact ⟨_, (pss_one (ps_ret (pe_fld (pv 0) rfl))), _, rfl, B, C, dx, _, i1, rfl, hB, TB.cl, TB.n_young_many, rfl, q⟩
theorem ok_Heap_old (TB : HeT K mg C) : OkP P w K mg base C 1 "old" (spOldN C) := by
  obtain ⟨p, f, fd, hp, F, hb⟩ := TB.y_old
  refine ⟨p, f, fd, _, hp, F.ok sc_Heap_old (fun vs H Q E h => ?_) (fun cdv A outer s H vs Q E hr h => ?_), hb⟩
  · obtain ⟨B, dx, td, md, i1, i2, rfl, _⟩ := h; rfl
  obtain ⟨B, dx, td, md, i1, i2, rfl, hB, q⟩ := h
  exact ⟨_, (pss_one (ps_ret (pe_fld (pv 0) rfl))), _, rfl, B, C, dx, _, i2, rfl, hB, TB.cl, TB.n_old_many, rfl, q⟩
theorem ints_nat {ns : List Int} {ms : List Nat} (h : ns.Perm (ms.map fun (a : Nat) => (a : Int))) : ns = (ns.map Int.toNat).map (fun (a : Nat) => (a : Int)) ∧ (ns.map Int.toNat).Perm ms := by
  have h2 : ∀ x ∈ ns, ((x.toNat : Nat) : Int) = x := fun x hx => by
    obtain ⟨a, _, rfl⟩ := List.mem_map.mp (h.mem_iff.mp hx)
    rfl
  refine ⟨?_, ?_⟩
  · rw [List.map_map]
    conv => lhs; rw [← List.map_id ns]
    exact List.map_congr_left fun x hx => (h2 x hx).symm
  · have := h.map Int.toNat
    rw [List.map_map] at this
    have e : ms.map (Int.toNat ∘ fun (a : Nat) => (a : Int)) = ms := by
      conv => rhs; rw [← List.map_id ms]
      exact List.map_congr_left fun a _ => rfl
    rw [e] at this; exact this
theorem ok_Heap_remembered (T : Txt K w mg) (TB : HeT K mg C) : OkP P w K mg base C 1 "remembered" (spRemd C) := by
  obtain ⟨p, f, fd, hp, F, hb⟩ := TB.y_remembered
  refine ⟨p, f, fd, _, hp, F.ok sc_Heap_remembered (fun vs H Q E h => ?_) (fun cdv A outer s H vs Q E hr h => ?_), hb⟩
  · obtain ⟨B, dx, td, md, i1, i2, ms, rfl, _⟩ := h; rfl
  obtain ⟨B, dx, td, md, i1, i2, ms, rfl, hB, hM, q⟩ := h
  refine ⟨_, (pss_one (ps_ret (pe_callB cr_sortedI (by rfl) T.z_sorted (by decide +kernel) (pa_cons (pe_callTy (call_list_dK rfl) (by rfl) T.z_list PyProof.Rows.boot_list (pa_cons (pe_fld (pv 0) rfl) pa_nil)) pa_nil)))), ?_⟩
  refine ⟨_, rfl, B, C, dx, _, .ref md, rfl, hB, TB.cl, TB.n_marked, rfl, md, _, rfl, hM, fun l hl => ?_⟩
  have e : (markK ms).map (fun kv => kV kv.1) = (ms.map fun (a : Nat) => (a : Int)).map V.int := by
    unfold markK; rw [List.map_map, List.map_map]; rfl
  rw [e]
  have s1 := same_new hl (.lst ((ms.map fun (a : Nat) => (a : Int)).map V.int))
  refine ⟨l, _, rfl, SqL.of upd_same, fun ns p hperm hs hp => ?_⟩
  obtain ⟨e2, p2⟩ := ints_nat hperm
  refine q (ns.map Int.toNat) p _ p2 ?_ (s1.trans (same_new hp _)) (s1.free hp) ?_
  · rw [e2] at hs
    exact (List.pairwise_map.mp hs).imp fun h => by omega
  · rw [upd_same]
    congr 2
    unfold ordV
    conv => lhs; rw [e2]
    rw [List.map_map]; rfl
theorem ok_meet_young (T : Txt K w mg) (Oy : OkD P w K mg base CX0 1 "is_young" p_is_young spYoung) (Oa : OkD P w K mg base CX0 2 "address_of" p_address_of spAddr) : OkD P w K mg base CX0 3 "meet_young" p_meet_young spMeetY := by
  refine T.g_meet_young.ok sc_meet_young (fun vs H Q E h => ?_) (fun f cdv A outer s H vs Q E hr h => ?_)
  · obtain ⟨a, m, o, ws, es, U, N, os, rfl, _⟩ := h; rfl
  obtain ⟨a, m, o, ws, es, U, N, os, rfl, ha, rs, oe, ltN, hN, hm, ho, lt, nd, nao, q⟩ := h
  refine ⟨_, (pss_one (ps_for PassesOwn.never rfl (pi_list (pv 0)) (pg_name (i := 3) sc_meet_young.nd rfl (Or.inl rfl)) (pss_cons (ps_set (i := 4) sc_meet_young.nd rfl (.inl rfl) (pcall Oa hr (pa_cons (pv 3) pa_nil)))
      (pss_one (ps_if (PW.pt (pw_and (pt_cmpR op_notN (pv 4) pe_non (nomark _)) (pw_and (pt_val (pcall Oy hr (pa_cons (pv 4) pa_nil))) (pw_and1 (pt_cmp (pc_dnotin (hu_of' hr) (pv 4) (pv 1))))))) (pss_cons (ps_dput (hu_of' hr) (pv 1) (pv 4) pe_bl rfl)
      (pss_one (ps_expr (pe_bm PySem.F.plainAttrs_list PySem.F.slot_list_append PySem.F.type_list_append mt_append (pv 2) (pa_cons (pv 4) pa_nil))))) pss_nil))))), ?_⟩
  have lim : (20000 : Nat) < sizeLine := lim4
  have wl : ws.length = es.length := by rw [rs.len]; unfold rowD; rw [List.length_map]
  have nam : a ≠ m := ne_ob ha hm (fun z => by cases z)
  have injX : ∀ i j, U i → U j → ixD i = ixD j → i = j := fun i j _ _ e => by unfold ixD at e; omega
  have nmo : m ≠ o := ne_ob hm ho (fun z => by cases z)
  refine ⟨_, rfl, a, rfl, ⟨ws, SqL.of ha⟩, ?_⟩
  refine for_it (walk_list (xs := ws)) (fun i σ H' => ∃ o4 o5, σ = [some (.ref a), some (.ref m), some (.ref o), o4, o5] ∧ Chg [m, o] H H' ∧ H' m = some (.dK (metK ixD (meet (yt (es.take i)) os))) ∧ H' o = some (.lst (ordV ixD (meet (yt (es.take i)) os))))
    ⟨none, none, rfl, .refl, hm, ho⟩ (fun i σ H' _ h => by
      obtain ⟨o4, o5, rfl, c, _⟩ := h
      exact SqL.of (c.keep _ _ (by simp [nam, nao]) ha)) ?_ ?_
  · rintro i x σ H1 H2 hi ⟨o4, o5, rfl, c, h1, h2⟩ ⟨rfl, hx⟩
    have hi' : i < es.length := by omega
    obtain ⟨d, hd, rd⟩ := (rs.mono c.tups).get hx
    have hd' : (es.map (Ent.d ixD))[i]? = some d := hd
    rw [List.getElem?_map, List.getElem?_eq_getElem hi'] at hd'
    have hd' : es[i].d ixD = d := Option.some.inj hd'
    subst hd'
    have oei := oe _ (List.getElem_mem hi')
    obtain ⟨os1, e1⟩ : ∃ os1, os1 = meet (yt (es.take i)) os := ⟨_, rfl⟩
    rw [← e1] at h1 h2
    have lt1 : ∀ y ∈ os1, U y := fun y hy => by
      rw [e1] at hy
      rcases meet_mem.mp hy with h | h
      · exact lt y h
      · obtain ⟨e, he, qe⟩ := of_tgs (mem_yt.mp h).1; exact (oe e (List.mem_of_mem_take he)).tg qe
    have nd1 : os1.Nodup := by rw [e1]; exact meet_nodup nd
    have l1 := nodup_le N nd1 fun y hy => ltN y (lt1 y hy)
    have st : meet (yt (es.take (i + 1))) os = meet (yt [es[i]]) os1 := by rw [take_next hi', yt_app, meet_app, e1]
    rw [yt_one] at st
    refine ⟨_, rfl, x, es[i], ixD, N, rfl, rd, oei.ok ltN, ?_⟩
    cases ht : es[i].tg with
    | none =>
      rw [ht] at st
      refine ⟨_, rfl, rfl, _, rfl, iteF ?_⟩
      exact ⟨_, _, rfl, c, by rw [st]; exact h1, by rw [st]; exact h2⟩
    | some k =>
      rw [ht] at st
      have hk := oei.tg ht
      refine ⟨_, rfl, rfl, _, rfl, iteT ?_⟩
      refine ⟨_, rfl, k, rfl, ?_⟩
      by_cases cy : k % 2 = 1
      · rw [decide_eq_true cy]
        refine ⟨_, rfl, iteT ?_⟩
        refine ⟨_, rfl, _, rfl, m, _, rfl, DGet.k (k := Sum.inl (ixD k)) h1, _, rfl, ?_⟩
        rw [metK_get injX lt1 hk]
        have st2 : meet (yt (es.take (i + 1))) os = put1 os1 k := by rw [st]; show meet (if k % 2 = 1 then [k] else []) os1 = _; rw [if_pos cy]; rfl
        by_cases hm1 : k ∈ os1
        · rw [decide_eq_true hm1]
          refine iteF ⟨_, _, rfl, c, ?_, ?_⟩
          · rw [st2]; unfold put1; rw [if_pos hm1]; exact h1
          · rw [st2]; unfold put1; rw [if_pos hm1]; exact h2
        · rw [decide_eq_false hm1]
          refine iteT ⟨_, rfl, _, rfl, m, _, rfl, .inl ⟨_, .inl (ixD k), h1, rfl, by rw [metK_len]; omega, rfl⟩, ?_⟩
          rw [metK_put injX lt1 hk hm1]
          have h2' : upd H2 m (.dK (metK ixD (os1 ++ [k]))) o = some (.lst (ordV ixD os1)) := by rw [upd_ne (Ne.symm nmo)]; exact h2
          refine ⟨_, rfl, .inl ⟨rfl, _, SqL.of h2'⟩, _, rfl, o, _, _, rfl, rfl, h2', by rw [ordV_len]; omega, ?_⟩
          refine ⟨_, _, rfl, (c.trans (.upd h1 (fun _ z => by cases z) (by simp))).trans (.upd h2' (fun _ z => by cases z) (by simp)), ?_, ?_⟩
          · rw [upd_ne nmo, upd_same, st2]; unfold put1; rw [if_neg hm1]
          · rw [upd_same, st2]; unfold put1; rw [if_neg hm1, ordV_app]; rfl
      · rw [decide_eq_false cy]
        have st2 : meet (yt (es.take (i + 1))) os = os1 := by rw [st]; show meet (if k % 2 = 1 then [k] else []) os1 = _; rw [if_neg cy]; rfl
        exact ⟨_, rfl, iteF ⟨_, _, rfl, c, by rw [st2]; exact h1, by rw [st2]; exact h2⟩⟩
  · rintro σ H1 ⟨o4, o5, rfl, c, h1, h2⟩
    rw [wl, List.take_length] at h1 h2
    exact q H1 c h1 h2
end
end D0
namespace D0
open PySem PySem.Spec PyProof.Rows L2 SX NumText
/-- the first of the young objects that are reached: by the entries, by the marked objects -/
def ryTop (G : Nat → Nd) (rs : List Nat) (es : List Ent) : List Nat := rs.foldl (fun o a => meet (yt (G a).row) o) (meet (yt es) [])
def scY (G : Nat → Nd) (a : Nat) : List Nat := yt (G a).row
def ReachY (m : MM) (rs : List Nat) (es : List Ent) (R : List Nat) : Prop := Bf (scY m.G) (ryTop m.G rs es) 0 R
theorem ryTop_next {G : Nat → Nd} {rs : List Nat} {es : List Ent} {i : Nat} (h : i < rs.length) : ryTop G (rs.take (i + 1)) es = meet (yt (G rs[i]).row) (ryTop G (rs.take i) es) := by
  unfold ryTop; rw [take_next h, List.foldl_append]; rfl
theorem yt_dom {U : Nat → Prop} {es : List Ent} (h : ∀ e ∈ es, e.okP U) : ∀ a ∈ yt es, U a := fun a ha => by
  obtain ⟨e, he, q⟩ := of_tgs (mem_yt.mp ha).1
  exact (h e he).tg q
theorem ryTop_ok {U : Nat → Prop} {G : Nat → Nd} {es : List Ent} (he : ∀ e ∈ es, e.okP U) : ∀ (rs : List Nat) , (∀ a ∈ rs, ∀ e ∈ (G a).row, e.okP U) → (ryTop G rs es).Nodup ∧ ∀ a ∈ ryTop G rs es, U a ∧ a % 2 = 1 := by
  unfold ryTop
  have h0 : (meet (yt es) []).Nodup ∧ ∀ a ∈ meet (yt es) [], U a ∧ a % 2 = 1 := ⟨meet_nodup List.Pairwise.nil, meet_dom (U := fun a => U a ∧ a % 2 = 1) (fun a ha => by cases ha) fun a ha => ⟨yt_dom he a ha, (mem_yt.mp ha).2⟩⟩
  generalize meet (yt es) [] = o at h0
  intro rs hr
  induction rs generalizing o with
  | nil => exact h0
  | cons a rs ih =>
    refine ih _ ⟨meet_nodup h0.1, meet_dom (U := fun a => U a ∧ a % 2 = 1) h0.2 fun b hb => ⟨yt_dom (hr a (List.mem_cons_self ..)) b hb, (mem_yt.mp hb).2⟩⟩ fun b hb => hr b (List.mem_cons_of_mem _ hb)
theorem ryTop_mem {G : Nat → Nd} {es : List Ent} : ∀ {rs : List Nat} {x : Nat}, x ∈ ryTop G rs es ↔ x ∈ yt es ∨ ∃ a ∈ rs, x ∈ yt (G a).row := by
  have gen : ∀ (rs o : List Nat) (x : Nat), x ∈ rs.foldl (fun o a => meet (yt (G a).row) o) o ↔ x ∈ o ∨ ∃ a ∈ rs, x ∈ yt (G a).row := by
    intro rs
    induction rs with
    | nil => intro o x; simp
    | cons a rs ih =>
      intro o x
      rw [List.foldl_cons, ih, meet_mem, or_assoc]
      constructor
      · rintro (h | h | ⟨b, hb, h⟩)
        · exact .inl h
        · exact .inr ⟨a, List.mem_cons_self .., h⟩
        · exact .inr ⟨b, List.mem_cons_of_mem _ hb, h⟩
      · rintro (h | ⟨b, hb, h⟩)
        · exact .inl h
        · rcases List.mem_cons.mp hb with rfl | hb
          · exact .inr (.inl h)
          · exact .inr (.inr ⟨b, hb, h⟩)
  intro rs x
  unfold ryTop
  rw [gen, meet_mem]
  simp
/-- the steps -/
def RyW (H : Hp) (B a m o : Addr) (o4 : Option V) (mm : MM) (R0 : List Nat) : Nat → L2.St → Hp → Prop := fun n σ H' => ∃ (os : List Nat) (k : Nat), σ = [some (.ref B), some (.ref a), some (.ref m), some (.ref o), o4, some (.int (k : Nat))] ∧ n = mm.top - k ∧
  Same H H' ∧ H' m = some (.dK (metK ixD os)) ∧ H' o = some (.lst (ordV ixD os)) ∧ (∀ x ∈ os, mm.dom x) ∧ os.Nodup ∧ ∀ R, Bf (scY mm.G) os k R → Bf (scY mm.G) R0 0 R
def spHRY (K : PySem.W.Frag) (C CT : Addr) : Sp := fun vs H Q _ => ∃ (B : Addr) (F : List Addr) (m : MM) (a : Addr) (ws : List V) (es : List Ent), vs = [.ref B, .ref a] ∧ Mem K C CT H B F m ∧ m.ok ∧
  H a = some (.lst ws) ∧ Reps H ws (rowD ixD es) ∧ (∀ e ∈ es, e.okP m.dom) ∧ ∀ p rs R H', rs.Perm m.ms → rs.Pairwise (· ≤ ·) → ReachY m rs es R → Same H H' → H p = none → H' p = some (.lst (ordV ixD R)) → Q (.ref p) H'
section
variable {P : Program} {w : World} {K : PySem.W.Frag} {mg : Str → Option Value} {base : Heap} {C CT : Addr}
theorem ok_Heap_reached_young (T : Txt K w mg) (TT : ThT K mg CT) (TB : HeT K mg C) (Orm : OkP P w K mg base C 1 "remembered" (spRemd C)) (Om : OkD P w K mg base CX0 3 "meet_young" p_meet_young spMeetY) :
    OkM P w K mg base C CX0 4 "reached_young" p_Heap_reached_young (spHRY K C CT) := by
  refine TB.g_reached_young.ok sc_Heap_reached_young (fun vs H Q E h => ?_) (fun f cdv A outer s H vs Q E hr h => ?_)
  · obtain ⟨B, F, m, a, ws, es, rfl, _⟩ := h; rfl
  obtain ⟨B, F, mm, a, ws, es, rfl, ⟨td, md, L, X, _⟩, ok, ha, rs, oe, q⟩ := h
  refine ⟨_, (pss_cons (ps_set (i := 2) sc_Heap_reached_young.nd rfl (.inl rfl) pe_dnewK)
      (pss_cons (ps_set (i := 3) sc_Heap_reached_young.nd rfl (.inl rfl) (pe_lst pa_nil))
      (pss_cons (ps_expr (pcall Om hr (pa_cons (pv 1) (pa_cons (pv 2) (pa_cons (pv 3) pa_nil)))))
      (pss_cons (ps_for PassesOwn.never rfl (pi_list (pprop Orm TB.cl hr (pv 0))) (pg_name (i := 4) sc_Heap_reached_young.nd rfl (Or.inl rfl)) (pss_one (ps_expr (pcall Om hr (pa_cons (pe_fld (pe_dget (hu_of' hr) (pe_fld (pv 0) rfl) (pv 4) (fun _ _ => rfl)) rfl) (pa_cons (pv 2) (pa_cons (pv 3) pa_nil)))))))
      (pss_cons (ps_set (i := 5) sc_Heap_reached_young.nd rfl (.inl rfl) pe_int)
      (pss_cons (ps_while PassesOwn.never (pt_cmpR op_lt (pv 5) (pe_callB call_len_seq (by rfl) T.z_len PySem.boot_len (pa_cons (pv 3) pa_nil)) (nomark _)) (pss_cons (ps_expr (pcall Om hr (pa_cons (pe_fld (pe_dget (hu_of' hr) (pe_fld (pv 0) rfl) (pe_ix ix_list (pv 3) (pv 5) (fun _ _ => rfl)) (fun _ _ => rfl)) rfl) (pa_cons (pv 2) (pa_cons (pv 3) pa_nil)))))
      (pss_one (ps_aug (i := 5) sc_Heap_reached_young.nd rfl (.inl rfl) pe_int ip_add))))
      (pss_one (ps_ret (pv 3))))))))), ?_⟩
  have Z := On.self ok
  have hlt : ∀ k, mm.dom k → k < mm.top := Z.lt
  intro m hm
  refine ⟨Nat.zero_le _, fun o ho => ?_⟩
  have s1 := same_new hm (.dK [])
  have s2 := same_new ho (.lst [])
  have S2 := s1.trans s2
  have fo : H o = none := s1.free ho
  have hm2 := s2 _ _ (upd_same (H := H) (a := m) (o := .dK []))
  have ho2 : upd (upd H m (.dK [])) o (.lst []) o = some (.lst []) := upd_same
  generalize upd (upd H m (.dK [])) o (.lst []) = H2 at S2 hm2 ho2
  have nao : a ≠ o := ne_of_none ha fo
  refine ⟨_, rfl, _, rfl, _, rfl, a, m, o, ws, es, mm.dom, mm.top, [], rfl, S2 _ _ ha, rs.mono (.same S2), oe, hlt, Z.le, hm2, ho2, (fun x h => by cases h), List.Pairwise.nil, nao, fun H3 c3 hm3 ho3 => ?_⟩
  have S3 : Same H H3 := same_chg2 S2 (fun b hb => by simp at hb; rcases hb with rfl | rfl; exact hm; exact fo) c3
  have X3 := X.same S3
  obtain ⟨dx3, hB3⟩ := X3.bk.hB
  refine ⟨_, rfl, B, dx3, _, rfl, hB3, B, dx3, td, md, _, _, mm.ms, rfl, hB3, X3.hM, fun rl p H4 perm srt s4 fp hp => ?_⟩
  have S4 := S3.trans s4
  have hm4 := s4 _ _ hm3
  have ho4 := s4 _ _ ho3
  have npm : p ≠ m := (ne_of_none hm3 fp).symm
  have npo : p ≠ o := (ne_of_none ho3 fp).symm
  have rdom : ∀ b ∈ rl, mm.dom b := fun b hb => ok.mkdom (perm.mem_iff.mp hb)
  have tops : ∀ i, (ryTop mm.G (rl.take i) es).Nodup ∧ ∀ b ∈ ryTop mm.G (rl.take i) es, mm.dom b ∧ b % 2 = 1 := fun i => ryTop_ok oe _ fun b hb => ok.clo b (rdom b (List.mem_of_mem_take hb))
  refine ⟨p, rfl, ⟨_, SqL.of hp⟩, ?_⟩
  refine for_it (walk_list (xs := ordV ixD rl)) (fun i σ H' => ∃ o4, σ = [some (.ref B), some (.ref a), some (.ref m), some (.ref o), o4, none] ∧ Same H H' ∧ H' p = some (.lst (ordV ixD rl)) ∧ H' m = some (.dK (metK ixD (ryTop mm.G (rl.take i) es))) ∧ H' o = some (.lst (ordV ixD (ryTop mm.G (rl.take i) es))))
    ⟨none, rfl, S4, hp, hm4, ho4⟩ (fun i σ H' _ h => by obtain ⟨_, _, _, h, _⟩ := h; exact SqL.of h) ?_ ?_
  · rintro i x σ H5 H6 hi ⟨o4, rfl, S5, hp5, hm5, ho5⟩ ⟨rfl, hx⟩
    rw [ordV_len] at hi
    unfold ordV at hx
    rw [List.getElem?_map, List.getElem?_eq_getElem hi] at hx
    have hx := Option.some.inj hx
    subst hx
    have X5 := X.same S5
    have da := rdom _ (List.getElem_mem hi)
    obtain ⟨x, hxL, t, dx, dx2, tv, us, hB, hg, g, r, g2, r2⟩ := X5.look da
    refine ⟨_, rfl, B, C, dx, _, .ref td, rfl, hB, TB.cl, TB.n_things, rfl, _, rfl, td, _, rfl, hg, ?_⟩
    refine ⟨x.t, CT, dx2, _, .ref x.s, rfl, g, TT.cl, TT.n_slots, rfl, _, rfl, _, rfl, ?_⟩
    refine ⟨x.s, m, o, us, (mm.G rl[i]).row, mm.dom, mm.top, ryTop mm.G (rl.take i) es, rfl, g2, r2, ok.clo _ da, hlt, Z.le, hm5, ho5, fun b hb => ((tops i).2 b hb).1, (tops i).1, ?_, fun H7 c7 hm7 ho7 => ?_⟩
    · intro z
      have : o ∈ FB B td L := by rw [← z]; exact fb_s hxL
      exact X.bk.here o this fo
    have S7 : Same H H7 := same_chg2 S5 (fun b hb => by simp at hb; rcases hb with rfl | rfl; exact hm; exact fo) c7
    refine ⟨_, rfl, S7, c7.keep _ _ (by simp [npm, npo]) hp5, ?_, ?_⟩
    · rw [ryTop_next hi]; exact hm7
    · rw [ryTop_next hi]; exact ho7
  · rintro σ H5 ⟨o4, rfl, S5, hp5, hm5, ho5⟩
    rw [ordV_len, List.take_length] at hm5 ho5
    have tp := tops rl.length
    rw [List.take_length] at tp
    refine ⟨RyW H B a m o o4 mm (ryTop mm.G rl es), ⟨_, _, 0, rfl, rfl, S5, hm5, ho5, fun b hb => (tp.2 b hb).1, tp.1, fun R h => h⟩, ?_⟩
    rintro n σ H4 ⟨os, k, rfl, rfl, S4, hm4, ho4, lt4, nd4, e4⟩
    have l4 := nodup_le mm.top nd4 fun y hy => hlt y (lt4 y hy)
    refine ⟨_, rfl, _, rfl, o, _, rfl, .inl (SqL.of ho4), _, _, rfl, rfl, _, rfl, ?_⟩
    rw [ordV_len]
    refine ite2 (fun c => ?_) (fun c => ?_)
    · have c := of_decide_eq_true c
      have hk : k < os.length := by omega
      have X4 := X.same S4
      have hx := lt4 _ (List.getElem_mem hk)
      obtain ⟨x, hxL, t, dx, dx2, tv, us, hB, hg, g, r, g2, r2⟩ := X4.look hx
      refine ⟨_, fun _ _ h => h, ?_⟩
      refine ⟨_, rfl, B, C, dx, _, .ref td, rfl, hB, TB.cl, TB.n_things, rfl, _, rfl, _, rfl, o, _, _, _, rfl, rfl, SqL.of ho4, ordV_at hk, td, _, rfl, hg, ?_⟩
      refine ⟨x.t, CT, dx2, _, .ref x.s, rfl, g, TT.cl, TT.n_slots, rfl, _, rfl, _, rfl, ?_⟩
      refine ⟨x.s, m, o, us, (mm.G os[k]).row, mm.dom, mm.top, os, rfl, g2, r2, ok.clo _ hx, hlt, Z.le, hm4, ho4, lt4, nd4, ?_, fun H5 c5 hm5 ho5 => ?_⟩
      · intro z
        have : o ∈ FB B td L := by rw [← z]; exact fb_s hxL
        exact X.bk.here o this fo
      have S5 : Same H H5 := same_chg2 S4 (fun b hb => by simp at hb; rcases hb with rfl | rfl; exact hm; exact fo) c5
      refine ⟨_, rfl, _, _, rfl, rfl, _, ?_, meet (yt (mm.G os[k]).row) os, k + 1, rfl, rfl, S5, hm5, ho5, meet_dom lt4 (yt_dom (ok.clo _ hx)), meet_nodup nd4, fun R h => e4 R (.step hk h)⟩
      omega
    · have c : ¬ ((k : Int) < (os.length : Int)) := of_decide_eq_false (by simpa using c)
      exact ⟨_, rfl, q o rl os H4 perm srt (e4 os (.stop (by omega))) S4 fo ho4⟩
end
end D0
namespace D0
open PySem PySem.Spec PyProof.Rows L2 SX NumText
def mF (td md : Addr) (y o : Nat) : List (Str × V) := [(fThings, .ref td), (fYM, .int (y : Int)), (fOM, .int (o : Int)), (fMk, .ref md)]
def newA (age : Int) (y o : Nat) : Nat := if age = 0 then 2 * y + 1 else 2 * o
def newY (age : Int) (y : Nat) : Nat := if age = 0 then y + 1 else y
def newO (age : Int) (o : Nat) : Nat := if age = 0 then o else o + 1
theorem putF_age (x : Th) (tv : V) (i : Int) : putF fAge (.int i) (thF x tv) = thF { x with age := i } tv := by
  have h1 : fKind ≠ fAge := by decide +kernel
  have h2 : fTag ≠ fAge := by decide +kernel
  have h3 : fSlots ≠ fAge := by decide +kernel
  unfold thF
  simp only [putF, if_neg h1, if_neg h2, if_neg h3, if_true]
theorem putF_ym (td md : Addr) (y o : Nat) : putF fYM (V.int ((y : Int) + 1)) (mF td md y o) = mF td md (y + 1) o := by
  unfold mF; simp only [putF, if_neg fs_ne.1, if_true]; rfl
theorem putF_om (td md : Addr) (y o : Nat) : putF fOM (V.int ((o : Int) + 1)) (mF td md y o) = mF td md y (o + 1) := by
  unfold mF; simp only [putF, if_neg fs_ne.2.1, if_neg fs_ne.2.2.2.1, if_true]; rfl
def spHPlace (C CT : Addr) : Sp := fun vs H Q _ => ∃ (B dx td md dx2 : Addr) (y o : Nat) (kvs : List (Key × V)) (x : Th) (tv : V), vs = [.ref B, .ref x.t] ∧ H B = some (.ins C dx (mF td md y o)) ∧ H td = some (.dK kvs) ∧ kvs.length ≤ 10000 ∧
  H x.t = some (.ins CT dx2 (thF x tv)) ∧ ∀ H', H' B = some (.ins C dx (mF td md (newY x.age y) (newO x.age o))) → H' td = some (.dK (putK kvs (.inl ((newA x.age y o : Nat) : Int)) (.ref x.t))) →
    H' x.t = some (.ins CT dx2 (thF { x with age := 1 } tv)) → Chg [B, td, x.t] H H' → Q (.int ((newA x.age y o : Nat) : Int)) H'
def spHRead (K : PySem.W.Frag) (C CT : Addr) : Sp := fun vs H Q _ => ∃ (B t : Addr) (F : List Addr) (m : MM) (a N : Nat) (g : Nat → Nat) (kvs : List (Key × V)), vs = [.ref B, .int (a : Int), .ref t] ∧ Mem K C CT H B F m ∧ m.ms.length ≤ 10000 ∧ m.dom a ∧ (m.G a).row.length ≤ 100 ∧ (∀ e ∈ (m.G a).row, e.ok N) ∧
  t ∉ F ∧ H t = some (.dK kvs) ∧ (∀ e ∈ (m.G a).row, ∀ k, e.tg = some k → (valV kvs (.inl (k : Int))).getD (.int (k : Int)) = .int ((g k : Nat) : Int)) ∧
  ∀ F' H', Now K C CT H B F (m.put a ((m.G a).mv g) (mvs g (m.G a).row)) F' H' → Q .non H'
theorem En.mv_ok {g : Nat → Nat} {N M : Nat} : ∀ {e : En}, e.ok N → (∀ k, e.tg = some k → g k < M) → (e.mv g).ok M
  | .ref _, _, h => h _ rfl
  | .hand _, _, h => h _ rfl
  | .oth _ _, x, _ => x
theorem Ent.mv_ok {g : Nat → Nat} {N M : Nat} : ∀ {e : Ent}, e.ok N → (∀ k, e.tg = some k → g k < M) → (e.mv g).ok M
  | .pl _, x, h => En.mv_ok x h
  | .pend _ _, x, h => En.mv_ok x h
theorem row_bound (g : Nat → Nat) : ∀ es : List Ent, ∃ M, ∀ e ∈ es, ∀ k, e.tg = some k → g k < M
  | [] => ⟨0, fun _ h => by cases h⟩
  | e :: es => by
    obtain ⟨M, h⟩ := row_bound g es
    cases q : e.tg with
    | none => exact ⟨M, fun x hx k hk => by
        rcases List.mem_cons.mp hx with rfl | hx
        · rw [q] at hk; cases hk
        · exact h x hx k hk⟩
    | some j => exact ⟨M + g j + 1, fun x hx k hk => by
        rcases List.mem_cons.mp hx with rfl | hx
        · rw [q] at hk; cases hk; omega
        · have := h x hx k hk; omega⟩
section
variable {P : Program} {w : World} {K : PySem.W.Frag} {mg : Str → Option Value} {base : Heap} {C CT : Addr}
theorem ok_Heap_place (TT : ThT K mg CT) (TB : HeT K mg C) : OkM P w K mg base C CX0 1 "place" p_Heap_place (spHPlace C CT) := by
  refine TB.g_place.ok sc_Heap_place (fun vs H Q E h => ?_) (fun f cdv A outer s H vs Q E hr h => ?_)
  · obtain ⟨B, dx, td, md, dx2, y, o, kvs, x, tv, rfl, _⟩ := h; rfl
  obtain ⟨B, dx, td, md, dx2, y, o, kvs, x, tv, rfl, hB, hD, lk, hx, q⟩ := h
  refine ⟨_, (pss_cons (ps_if (pt_cmpR op_eq (pe_fld (pv 1) rfl) pe_int (nomark _)) (pss_cons (ps_set (i := 2) sc_Heap_place.nd rfl (.inl rfl) (pe_op op_add (pe_op op_mul pe_int (pe_fld (pv 0) rfl)) pe_int))
      (pss_one (ps_fldaug (pv 0) pe_int ip_add))) (pss_cons (ps_set (i := 2) sc_Heap_place.nd rfl (.inl rfl) (pe_op op_mul pe_int (pe_fld (pv 0) rfl)))
      (pss_one (ps_fldaug (pv 0) pe_int ip_add))))
      (pss_cons (ps_fld (pv 1) pe_int rfl)
      (pss_cons (ps_dput (hu_of' hr) (pe_fld (pv 0) rfl) (pv 2) (pv 1) rfl)
      (pss_one (ps_ret (pv 2)))))), ?_⟩
  have lim := lim4
  have nBt : B ≠ x.t := ne_ob hB hx (fun z => by unfold mF at z; exact ins_ne (fs := []) z)
  have nDB : td ≠ B := ne_ob hD hB (fun z => by cases z)
  have nDt : td ≠ x.t := ne_ob hD hx (fun z => by cases z)
  have main : ∀ (H1 : Hp) (new y' o' : Nat), H1 B = some (.ins C dx (mF td md y' o')) → H1 td = some (.dK kvs) → H1 x.t = some (.ins CT dx2 (thF x tv)) → Chg [B, td, x.t] H H1 →
      (∀ H', H' B = some (.ins C dx (mF td md y' o')) → H' td = some (.dK (putK kvs (.inl (new : Int)) (.ref x.t))) → H' x.t = some (.ins CT dx2 (thF { x with age := 1 } tv)) → Chg [B, td, x.t] H H' → Q (.int (new : Int)) H') →
      let H2 := upd H1 x.t (.ins CT dx2 (putF fAge (.int 1) (thF x tv)))
      H2 B = some (.ins C dx (mF td md y' o')) ∧ H2 td = some (.dK kvs) ∧ Q (.int (new : Int)) (upd H2 td (.dK (putK kvs (.inl (new : Int)) (.ref x.t)))) := by
    intro H1 new y' o' h1 h2 h3 c hq H2
    have k1 : H2 B = some (.ins C dx (mF td md y' o')) := by show upd _ _ _ B = _; rw [upd_ne nBt]; exact h1
    have k2 : H2 td = some (.dK kvs) := by show upd _ _ _ td = _; rw [upd_ne nDt]; exact h2
    have k3 : H2 x.t = some (.ins CT dx2 (thF { x with age := 1 } tv)) := by show upd _ _ _ x.t = _; rw [upd_same, putF_age]
    refine ⟨k1, k2, hq _ (by rw [upd_ne (Ne.symm nDB)]; exact k1) upd_same (by rw [upd_ne (Ne.symm nDt)]; exact k3) ?_⟩
    exact (c.trans (.upd h3 (fun _ z => by cases z) (by simp))).trans (.upd k2 (fun _ z => by cases z) (by simp))
  refine ⟨_, rfl, x.t, CT, dx2, _, .int x.age, rfl, hx, TT.cl, TT.n_age, rfl, rfl, _, rfl, ?_⟩
  by_cases ca : x.age = 0
  · have e1 : newA x.age y o = 2 * y + 1 := if_pos ca
    have e2 : newY x.age y = y + 1 := if_pos ca
    have e3 : newO x.age o = o := if_pos ca
    rw [e1, e2, e3] at q
    rw [show decide (V.int x.age = V.int 0) = true from decide_eq_true (by rw [ca])]
    refine iteT ?_
    have et : (2 * (y : Int) + 1 : Int) = ((2 * y + 1 : Nat) : Int) := by omega
    refine ⟨_, rfl, B, C, dx, _, .int (y : Int), rfl, hB, TB.cl, TB.n_young_many, rfl, _, _, rfl, rfl, .inl ⟨by decide, by decide⟩, _, _, rfl, rfl, ?_⟩
    refine ⟨_, rfl, B, C, dx, _, .int (y : Int), rfl, hB, TB.cl, TB.n_young_many, rfl, _, _, rfl, rfl, dx, _, hB, (by show 4 < 1000; decide), ?_⟩
    obtain ⟨k1, k2, k3⟩ := main (upd H B (.ins C dx (putF fYM (V.int ((y : Int) + 1)) (mF td md y o)))) (2 * y + 1) (y + 1) o (by rw [upd_same]; show some (HO.ins C dx (putF fYM (V.int ((y : Int) + 1)) (mF td md y o))) = _; rw [putF_ym]) (by rw [upd_ne nDB]; exact hD) (by rw [upd_ne (Ne.symm nBt)]; exact hx) (.upd hB (fun _ z => by cases z) (by simp)) q
    refine ⟨_, rfl, x.t, CT, dx2, _, rfl, by rw [upd_ne (Ne.symm nBt)]; exact hx, TT.cl, TT.n_age, (by show 4 < 1000; decide), ?_⟩
    rw [← et] at k3
    refine ⟨_, rfl, _, rfl, B, C, dx, _, .ref td, rfl, k1, TB.cl, TB.n_things, rfl, _, rfl, td, _, rfl, .inl ⟨kvs, .inl (2 * (y : Int) + 1), k2, rfl, by omega, rfl⟩, ?_⟩
    exact ⟨_, rfl, k3⟩
  · have e1 : newA x.age y o = 2 * o := if_neg ca
    have e2 : newY x.age y = y := if_neg ca
    have e3 : newO x.age o = o + 1 := if_neg ca
    rw [e1, e2, e3] at q
    rw [show decide (V.int x.age = V.int 0) = false from decide_eq_false (fun z => ca (by injection z))]
    refine iteF ?_
    have et : (2 * (o : Int) : Int) = ((2 * o : Nat) : Int) := by omega
    refine ⟨_, rfl, B, C, dx, _, .int (o : Int), rfl, hB, TB.cl, TB.n_old_many, rfl, _, _, rfl, rfl, .inl ⟨by decide, by decide⟩, ?_⟩
    refine ⟨_, rfl, B, C, dx, _, .int (o : Int), rfl, hB, TB.cl, TB.n_old_many, rfl, _, _, rfl, rfl, dx, _, hB, (by show 4 < 1000; decide), ?_⟩
    obtain ⟨k1, k2, k3⟩ := main (upd H B (.ins C dx (putF fOM (V.int ((o : Int) + 1)) (mF td md y o)))) (2 * o) y (o + 1) (by rw [upd_same]; show some (HO.ins C dx (putF fOM (V.int ((o : Int) + 1)) (mF td md y o))) = _; rw [putF_om]) (by rw [upd_ne nDB]; exact hD) (by rw [upd_ne (Ne.symm nBt)]; exact hx) (.upd hB (fun _ z => by cases z) (by simp)) q
    refine ⟨_, rfl, x.t, CT, dx2, _, rfl, (by rw [upd_ne (Ne.symm nBt)]; exact hx), TT.cl, TT.n_age, (by show 4 < 1000; decide), ?_⟩
    rw [← et] at k3
    refine ⟨_, rfl, _, rfl, B, C, dx, _, .ref td, rfl, k1, TB.cl, TB.n_things, rfl, _, rfl, td, _, rfl, .inl ⟨kvs, .inl (2 * (o : Int)), k2, rfl, by omega, rfl⟩, ?_⟩
    exact ⟨_, rfl, k3⟩
end
end D0
namespace D0
open PySem PySem.Spec PyProof.Rows L2 SX NumText
section
variable {P : Program} {w : World} {K : PySem.W.Frag} {mg : Str → Option Value} {base : Heap} {C CT : Addr}
theorem ok_Heap_readdress (T : Txt K w mg) (TT : ThT K mg CT) (TB : HeT K mg C) (Ov : OkD P w K mg base CX0 2 "moved" p_moved spPMov) (Om : OkM P w K mg base C CX0 4 "remember" p_Heap_remember (spRemember C)) :
    OkM P w K mg base C CX0 5 "readdress" p_Heap_readdress (spHRead K C CT) := by
  refine TB.g_readdress.ok sc_Heap_readdress (fun vs H Q E h => ?_) (fun f cdv A outer s H vs Q E hr h => ?_)
  · obtain ⟨B, t, F, m, a, N, g, kvs, rfl, _⟩ := h; rfl
  obtain ⟨B, tb, F, m, a, N, g, kvs, rfl, X, lm, da, lr, oe, ntF, ht, hk, q⟩ := h
  refine ⟨_, (pss_cons (ps_set (i := 3) sc_Heap_readdress.nd rfl (.inl rfl) (pe_dget (hu_of' hr) (pe_fld (pv 0) rfl) (pv 1) (fun _ _ => rfl)))
      (pss_cons (ps_fld (pv 3) (pe_lc (own := [("entry", 4)]) (g := gName 4) (tt := tYes) rfl sc_Heap_readdress.nd (pi_list (pe_fld (pv 3) rfl)) (blkOk_by (own := [("entry", 4)]) (N := n_Heap_readdress) (sc := defScope s_Heap_readdress) (by decide +kernel)) (fun _ _ _ _ _ => (pg_name (i := 4) sc_Heap_readdress.nd rfl (Or.inl rfl))) (fun _ _ _ _ _ => pts_nil) (fun _ _ _ _ _ => (pcall Ov hr (pa_cons (pv 4) (pa_cons (pv 2) pa_nil))))) rfl)
      (pss_one (ps_expr (pmethE Om TB.cl hr pass0 (pv 0) (pa_cons (pv 1) (pa_cons (pe_fld (pv 3) rfl) pa_nil))))))), ?_⟩
  have lim := lim4
  have X0 := X
  obtain ⟨td, md, L, Y, hF, hmF, lv⟩ := X
  obtain ⟨x, hx, t, dx, dx2, tv, vs, hB, hg, g1, r, g2, r2⟩ := Y.look da
  refine ⟨_, rfl, B, C, dx, _, .ref td, rfl, hB, TB.cl, TB.n_things, rfl, _, rfl, td, _, rfl, hg, ?_⟩
  refine ⟨_, rfl, x.t, CT, dx2, _, .ref x.s, rfl, g1, TT.cl, TT.n_slots, rfl, x.s, rfl, ⟨vs, SqL.of g2⟩, fun l1 hl1 => ?_⟩
  have vl : vs.length = (m.G a).row.length := by rw [r2.len, rowD_len]
  refine lc_it (walk_list (xs := vs)) (fun i H' => Same H H' ∧ ∃ us, H' l1 = some (.lst us) ∧ Reps H' us (rowD (aI g) ((m.G a).row.take i)) ∧ us.length = i) ⟨same_new hl1 _, [], upd_same, .nil, rfl⟩ (fun i H' _ h => SqL.of (h.1 _ _ g2)) ?_ ?_
  · rintro j y H7 H8 hj ⟨s7, us, h7, r7, l7⟩ ⟨rfl, hy⟩
    obtain ⟨hj', rd⟩ := rows_at (r2.mono (.same s7)) hy
    refine ⟨rfl, iteT (B := True) (iteT ?_)⟩
    refine ⟨_, rfl, _, rfl, y, tb, (m.G a).row[j], ixD, aI g, N, kvs, rfl, rd, oe _ (List.getElem_mem hj'), s7 _ _ ht, fun k hk' => hk _ (List.getElem_mem hj') k hk', fun v' H9 s9 r9 => ?_⟩
    have h9 := s9 _ _ h7
    refine ⟨_, h9, by omega, same_grow (s7.trans s9) hl1, us ++ [v'], upd_same, ?_, by simp [l7]⟩
    rw [take_next hj', rowD_app]
    exact (r7.mono ((Tups.same s9).trans (.lst h9))).app (.one (r9.mono (.lst h9)))
  rintro H7 ⟨s7, us1, h7, r7, l7⟩
  rw [vl, List.take_length, ← aI_mv] at r7
  have g7 := s7 _ _ g1
  obtain ⟨y, hy⟩ : ∃ y : Th, y = { x with row := rowD ixD (mvs g (m.G a).row), s := l1 } := ⟨_, rfl⟩
  have y1 : y.key = x.key := by rw [hy]
  have y2 : y.t = x.t := by rw [hy]
  have y3 : y.s = l1 := by rw [hy]
  have y4 : y.kind = x.kind := by rw [hy]
  have y5 : y.tag = x.tag := by rw [hy]
  have y6 : y.row = rowD ixD (mvs g (m.G a).row) := by rw [hy]
  have y7 : y.age = x.age := by rw [hy]
  have ey : putF (Str.ofString "slots") (V.ref l1) (thF x tv) = thF y tv := by rw [hy]; exact putF_slots x tv l1
  refine ⟨_, rfl, x.t, CT, dx2, _, rfl, g7, TT.cl, TT.n_slots, (by show 4 < 1000; decide), ?_⟩
  rw [ey]
  have nlt : l1 ≠ x.t := fun z => by rw [z, g1] at hl1; cases hl1
  have c8 : Chg [x.t] H (upd H7 x.t (.ins CT dx2 (thF y tv))) := (Chg.same s7).trans (.upd g7 (fun _ z => by cases z) (List.mem_singleton_self _))
  have h8 : upd H7 x.t (.ins CT dx2 (thF y tv)) l1 = some (.lst us1) := by rw [upd_ne nlt]; exact h7
  have t8 : Tups H7 (upd H7 x.t (.ins CT dx2 (thF y tv))) := .at g7 (fun _ z => by cases z)
  have Z8 := Y.bk.setAll (x' := y) (vs := us1) (tv := tv) hx y1.symm y2.symm (by rw [y3]; exact hl1) c8 upd_same (by rw [y3]; exact h8) (by rw [y5, t.tag]; exact r.mono c8.tups) (by rw [y6]; exact r7.mono t8)
  have nmt : md ≠ x.t := ne_ob Y.hM g1 (fun z => by cases z)
  have hM8 := c8.keep md _ (by simpa using nmt) Y.hM
  have Y8 := Y.putT (m' := ⟨m.yn, m.on, setG m.G a ((m.G a).mv g), m.ag, m.ms⟩) (x' := y) hx t y1.symm Z8 hM8
    ⟨y1.trans t.key, by show y.kind = (setG m.G a _ a).kind; rw [setG_at, y4]; exact t.kind, by show y.tag = (setG m.G a _ a).tag; rw [setG_at, y5]; exact t.tag, by show y.row = rowD ixD (setG m.G a _ a).row; rw [setG_at, y6]; rfl, y7.trans t.age⟩ rfl rfl (fun b n => setG_ne n) (fun b _ => rfl)
  obtain ⟨dx3, hB8⟩ := Y8.bk.hB
  have hx8 : upd H7 x.t (.ins CT dx2 (thF y tv)) x.t = some (.ins CT dx2 (thF y tv)) := upd_same
  generalize upd H7 x.t (.ins CT dx2 (thF y tv)) = H8 at c8 h8 t8 Z8 hM8 Y8 hB8 hx8
  have r8 := r7.mono t8
  obtain ⟨M, hMb⟩ := row_bound g (m.G a).row
  refine ⟨_, rfl, B, dx3, _, rfl, hB8, rfl, _, rfl, _, rfl, x.t, CT, dx2, _, .ref l1, rfl, hx8, TT.cl, TT.n_slots, by rw [← y3]; rfl, ?_⟩
  refine ⟨B, dx3, td, md, l1, _, _, a, M, m.ms, us1, mvs g (m.G a).row, rfl, hB8, hM8, lm, h8, r8, fun e he => ?_, fun H' n => ?_⟩
  · obtain ⟨e0, h0, rfl⟩ := List.mem_map.mp he
    exact Ent.mv_ok (N := N) (oe e0 h0) (hMb e0 h0)
  have Y9 := Y8.noted n
  have htF : x.t ∈ F := hF _ (fb_t hx)
  obtain ⟨F', N', _⟩ := X0.now0 (m' := m.put a ((m.G a).mv g) (mvs g (m.G a).row)) Y9 ((c8.mono (G := [x.t, md]) (fun b hb => by simp at hb ⊢; exact .inl hb)).trans ((n.chg hM8).mono (G := [x.t, md]) (fun b hb => by simp at hb ⊢; exact .inr hb))) (fun b hb => by simp at hb; rcases hb with rfl | rfl <;> assumption) (fun b hb => by
    rcases FB.put hb with h | h | h
    · exact .inl (hF _ h)
    · rw [h, y2]; exact .inl htF
    · rw [h, y3]; exact .inr hl1) (.inl hmF)
  exact q F' H' N'
end
end D0
namespace D0
open PySem PySem.Spec PyProof.Rows L2 SX NumText
/-- a table of addresses -/
def kvT (h : Nat → Nat) (R : List Nat) : List (Key × V) := R.map fun (a : Nat) => (.inl (a : Int), .int ((h a : Nat) : Int))
theorem kvT_len (h : Nat → Nat) (R : List Nat) : (kvT h R).length = R.length := by unfold kvT; rw [List.length_map]
theorem kvT_get {h : Nat → Nat} : ∀ {R : List Nat} {a : Nat}, valV (kvT h R) (.inl (a : Int)) = if a ∈ R then some (.int ((h a : Nat) : Int)) else none
  | [], a => rfl
  | b :: r, a => by
    have ih := kvT_get (h := h) (R := r) (a := a)
    show valV ((Sum.inl (b : Int), V.int ((h b : Nat) : Int)) :: kvT h r) _ = _
    by_cases e : b = a
    · subst e
      rw [valV_pos rfl, if_pos (List.mem_cons_self ..)]
    · rw [valV_neg (fun z => e (by have := Sum.inl.inj z; omega)), ih]
      by_cases c : a ∈ r
      · rw [if_pos c, if_pos (List.mem_cons_of_mem _ c)]
      · rw [if_neg c, if_neg (fun z => (List.mem_cons.mp z).elim (fun q => e q.symm) c)]
theorem kvT_put {h : Nat → Nat} {R : List Nat} {a : Nat} (n : a ∉ R) : putK (kvT h R) (.inl (a : Int)) (.int ((h a : Nat) : Int)) = kvT h (R ++ [a]) := by
  rw [putK_new _ (by rw [kvT_get, if_neg n])]
  unfold kvT; rw [List.map_append]; rfl
/-- the thing behind each new address -/
def kvG (h : Nat → Nat) (tt : Nat → Addr) (R : List Nat) : List (Key × V) := R.map fun (a : Nat) => (.inl ((h a : Nat) : Int), .ref (tt a))
theorem kvG_put {h : Nat → Nat} {tt : Nat → Addr} {R : List Nat} {a : Nat} (n : ∀ b ∈ R, h b ≠ h a) : putK (kvG h tt R) (.inl ((h a : Nat) : Int)) (.ref (tt a)) = kvG h tt (R ++ [a]) := by
  unfold putK
  rw [if_neg]
  · unfold kvG; rw [List.map_append]; rfl
  · intro z
    obtain ⟨kv, h1, h2⟩ := List.any_eq_true.mp z
    obtain ⟨b, hb, rfl⟩ := List.mem_map.mp h1
    have h2 : (Sum.inl ((h b : Nat) : Int) : Key) = .inl ((h a : Nat) : Int) := of_decide_eq_true h2
    exact n b hb (by have := Sum.inl.inj h2; omega)
theorem kvG_len (h : Nat → Nat) (tt : Nat → Addr) (R : List Nat) : (kvG h tt R).length = R.length := by unfold kvG; rw [List.length_map]
def gF (R : List Nat) (a : Nat) : Nat := 2 * R.idxOf a
theorem gF_inj {R : List Nat} {a b : Nat} (h : a ∈ R) (e : gF R a = gF R b) : a = b := by
  unfold gF at e
  have e : R.idxOf a = R.idxOf b := by omega
  have h1 := List.idxOf_lt_length_of_mem h
  have h2 : R.idxOf b < R.length := by omega
  have q1 := List.getElem_idxOf h1
  have q2 := List.getElem_idxOf h2
  rw [← q1, ← q2]; congr 1
theorem gF_at {R : List Nat} (nd : R.Nodup) {i : Nat} (h : i < R.length) : gF R R[i] = 2 * i := by unfold gF; rw [nd.idxOf_getElem i h]
/-- behind a full collection that found R -/
def MM.full (m : MM) (R : List Nat) : MM := ⟨0, R.length, fun b => (m.G (R.getD (b / 2) 0)).mv (gF R), fun b => m.ag (R.getD (b / 2) 0), []⟩
theorem MM.full_dom {m : MM} {R : List Nat} {b : Nat} : (m.full R).dom b ↔ b % 2 = 0 ∧ b / 2 < R.length := by unfold MM.full MM.dom; simp only; omega
theorem full_at {m : MM} {R : List Nat} (nd : R.Nodup) {a : Nat} (h : a ∈ R) : (m.full R).dom (gF R a) ∧ (m.full R).G (gF R a) = (m.G a).mv (gF R) ∧ (m.full R).ag (gF R a) = m.ag a := by
  obtain ⟨i, hi, rfl⟩ := List.getElem_of_mem h
  have e : R.getD (gF R R[i] / 2) 0 = R[i] := by rw [gF_at nd hi, show 2 * i / 2 = i by omega, List.getD_eq_getElem?_getD, List.getElem?_eq_getElem hi]; rfl
  refine ⟨MM.full_dom.mpr (by rw [gF_at nd hi]; omega), ?_, ?_⟩
  · show (m.G (R.getD (gF R R[i] / 2) 0)).mv (gF R) = _; rw [e]
  · show m.ag (R.getD (gF R R[i] / 2) 0) = _; rw [e]
/-- moved in part -/
def MM.part (m : MM) (g : Nat → Nat) (R : List Nat) : MM := ⟨m.yn, m.on, fun b => if b ∈ R then (m.G b).mv g else m.G b, m.ag, m.ms⟩
section
variable {K : PySem.W.Frag} {C CT : Addr} {H H' H7 : Hp} {B td md : Addr} {L : List Th} {m : MM} {F : List Addr}
theorem MemL.congr {m' : MM} (X : MemL K C CT H B td md L m) (h : m'.yn = m.yn) (h2 : m'.on = m.on) (h3 : m'.ms = m.ms) (g : ∀ b, m.dom b → m'.G b = m.G b ∧ m'.ag b = m.ag b) : MemL K C CT H B td md L m' := by
  have ed : ∀ b, m'.dom b ↔ m.dom b := fun b => by unfold MM.dom; rw [h, h2]
  refine ⟨by unfold moreM; rw [h, h2]; exact X.bk, by rw [h3]; exact X.hM, X.ne, fun x hx => ?_, fun b db => ?_⟩
  · obtain ⟨b, d, t⟩ := X.to x hx
    obtain ⟨e1, e2⟩ := g b d
    exact ⟨b, (ed b).mpr d, ⟨t.key, by rw [e1]; exact t.kind, by rw [e1]; exact t.tag, by rw [e1]; exact t.row, by rw [e2]; exact t.age⟩⟩
  · have d := (ed b).mp db
    obtain ⟨x, hx, t⟩ := X.from_ b d
    obtain ⟨e1, e2⟩ := g b d
    exact ⟨x, hx, ⟨t.key, by rw [e1]; exact t.kind, by rw [e1]; exact t.tag, by rw [e1]; exact t.row, by rw [e2]; exact t.age⟩⟩
/-- a thing's slots are a new list -/
theorem MemL.resl (Y : MemL K C CT H B td md L m) {x : Th} {a l1 dx2 : Addr} {tv : V} {us : List V} {es : List Ent} (hx : x ∈ L) (t : TA m x a) (g1 : H x.t = some (.ins CT dx2 (thF x tv))) (r : Rep H tv (m.G a).tag) (s7 : Same H H7) (hl1 : H l1 = none) (h7 : H7 l1 = some (.lst us)) (r7 : Reps H7 us (rowD ixD es)) :
    ∃ y : Th, y.t = x.t ∧ y.s = l1 ∧ y.key = x.key ∧ putF (Str.ofString "slots") (.ref l1) (thF x tv) = thF y tv ∧ MemL K C CT (upd H7 x.t (.ins CT dx2 (thF y tv))) B td md (D0.putT y L) ⟨m.yn, m.on, setG m.G a ⟨(m.G a).kind, (m.G a).tag, es⟩, m.ag, m.ms⟩ ∧ Chg [x.t] H (upd H7 x.t (.ins CT dx2 (thF y tv))) := by
  have g7 := s7 _ _ g1
  obtain ⟨y, hy⟩ : ∃ y : Th, y = { x with row := rowD ixD es, s := l1 } := ⟨_, rfl⟩
  have y1 : y.key = x.key := by rw [hy]
  have y2 : y.t = x.t := by rw [hy]
  have y3 : y.s = l1 := by rw [hy]
  have y4 : y.kind = x.kind := by rw [hy]
  have y5 : y.tag = x.tag := by rw [hy]
  have y6 : y.row = rowD ixD es := by rw [hy]
  have y7 : y.age = x.age := by rw [hy]
  have ey : putF (Str.ofString "slots") (V.ref l1) (thF x tv) = thF y tv := by rw [hy]; exact putF_slots x tv l1
  have nlt : l1 ≠ x.t := fun z => by rw [z, g1] at hl1; cases hl1
  have c8 : Chg [x.t] H (upd H7 x.t (.ins CT dx2 (thF y tv))) := (Chg.same s7).trans (.upd g7 (fun _ z => by cases z) (List.mem_singleton_self _))
  have h8 : upd H7 x.t (.ins CT dx2 (thF y tv)) l1 = some (.lst us) := by rw [upd_ne nlt]; exact h7
  have t8 : Tups H7 (upd H7 x.t (.ins CT dx2 (thF y tv))) := .at g7 (fun _ z => by cases z)
  have Z8 := Y.bk.setAll (x' := y) (vs := us) (tv := tv) hx y1.symm y2.symm (by rw [y3]; exact hl1) c8 upd_same (by rw [y3]; exact h8) (by rw [y5, t.tag]; exact r.mono c8.tups) (by rw [y6]; exact r7.mono t8)
  have nmt : md ≠ x.t := ne_ob Y.hM g1 (fun z => by cases z)
  have hM8 := c8.keep md _ (by simpa using nmt) Y.hM
  exact ⟨y, y2, y3, y1, ey, Y.putT (m' := ⟨m.yn, m.on, setG m.G a ⟨(m.G a).kind, (m.G a).tag, es⟩, m.ag, m.ms⟩) (x' := y) hx t y1.symm Z8 hM8
    ⟨y1.trans t.key, by show y.kind = (setG m.G a _ a).kind; rw [setG_at, y4]; exact t.kind, by show y.tag = (setG m.G a _ a).tag; rw [setG_at, y5]; exact t.tag, by show y.row = rowD ixD (setG m.G a _ a).row; rw [setG_at, y6], y7.trans t.age⟩ rfl rfl (fun b n => setG_ne n) (fun b _ => rfl), c8⟩
/-- the things of the addresses R under new addresses -/
theorem rekey (X : MemL K C CT H B td md L m) {m' : MM} {R : List Nat} {h : Nat → Nat} {td' md' dx : Addr} {A : Nat → Th} (hA : ∀ a ∈ R, A a ∈ L ∧ TA m (A a) a) (nd : R.Nodup) (inj : ∀ a ∈ R, ∀ b ∈ R, h a = h b → a = b) (ne : md' ≠ td')
    (c : ∀ (b : Addr) (o : HO), (∃ x ∈ L, b = x.t ∨ b = x.s) → H b = some o → H' b = some o) (tu : Tups H H') (hB : H' B = some (.ins C dx ((fThings, .ref td') :: moreM m' md'))) (hD : H' td' = some (.dK (kvG h (fun a => (A a).t) R))) (hM : H' md' = some (.dK (markK m'.ms)))
    (to : ∀ a ∈ R, m'.dom (h a)) (from_ : ∀ b, m'.dom b → ∃ a ∈ R, h a = b) (g : ∀ a ∈ R, m'.G (h a) = m.G a ∧ m'.ag (h a) = m.ag a) :
    MemL K C CT H' B td' md' (R.map fun a => { A a with key := ((h a : Nat) : Int) }) m' := by
  have mem : ∀ {x : Th}, x ∈ R.map (fun a => { A a with key := ((h a : Nat) : Int) }) → ∃ a ∈ R, x = { A a with key := ((h a : Nat) : Int) } := fun hx => by
    obtain ⟨a, ha, e⟩ := List.mem_map.mp hx
    exact ⟨a, ha, e.symm⟩
  have same : ∀ a ∈ R, ∀ b ∈ R, (A a).key = (A b).key → a = b := fun a ha b hb e => by
    have h1 := (hA a ha).2.key; have h2 := (hA b hb).2.key; omega
  refine ⟨⟨⟨dx, hB⟩, ?_, fun x hx => ?_, fun x hx => ?_, ?_, fun x hx y hy e => ?_, fun x hx y hy e => ?_⟩, hM, ne, fun x hx => ?_, fun b db => ?_⟩
  · rw [hD]; unfold kvL kvG; rw [List.map_map]; rfl
  · obtain ⟨a, ha, rfl⟩ := mem hx
    obtain ⟨dx, tv, h1, h2⟩ := X.bk.hT _ (hA a ha).1
    exact ⟨dx, tv, c _ _ ⟨_, (hA a ha).1, .inl rfl⟩ h1, h2.mono tu⟩
  · obtain ⟨a, ha, rfl⟩ := mem hx
    obtain ⟨vs, h1, h2⟩ := X.bk.hS _ (hA a ha).1
    exact ⟨vs, c _ _ ⟨_, (hA a ha).1, .inr rfl⟩ h1, h2.mono tu⟩
  · rw [List.map_map]
    refine List.pairwise_map.mpr (List.Pairwise.imp_of_mem (fun {a b} ha hb n z => ?_) nd)
    have z : ((h a : Nat) : Int) = ((h b : Nat) : Int) := z
    exact n (inj a ha b hb (by omega))
  · obtain ⟨a, ha, rfl⟩ := mem hx
    obtain ⟨b, hb, rfl⟩ := mem hy
    have := same a ha b hb (X.bk.nt _ (hA a ha).1 _ (hA b hb).1 e)
    rw [this]
  · obtain ⟨a, ha, rfl⟩ := mem hx
    obtain ⟨b, hb, rfl⟩ := mem hy
    have := same a ha b hb (X.bk.ns _ (hA a ha).1 _ (hA b hb).1 e)
    rw [this]
  · obtain ⟨a, ha, rfl⟩ := mem hx
    obtain ⟨t, e1, e2⟩ := (⟨(hA a ha).2, g a ha⟩ : _ ∧ _ ∧ _)
    exact ⟨h a, to a ha, ⟨rfl, by rw [e1]; exact t.kind, by rw [e1]; exact t.tag, by rw [e1]; exact t.row, by rw [e2]; exact t.age⟩⟩
  · obtain ⟨a, ha, rfl⟩ := from_ b db
    obtain ⟨t, e1, e2⟩ := (⟨(hA a ha).2, g a ha⟩ : _ ∧ _ ∧ _)
    exact ⟨_, List.mem_map.mpr ⟨a, ha, rfl⟩, ⟨rfl, by rw [e1]; exact t.kind, by rw [e1]; exact t.tag, by rw [e1]; exact t.row, by rw [e2]; exact t.age⟩⟩
end
end D0
namespace D0
open PySem PySem.Spec PyProof.Rows L2 SX NumText
theorem pf_th (td td' md : Addr) (y o : Nat) : putF fThings (V.ref td') (mF td md y o) = mF td' md y o := by unfold mF; simp only [putF, if_true]
theorem pf_ym (td md : Addr) (y o y' : Nat) : putF fYM (V.int (y' : Int)) (mF td md y o) = mF td md y' o := by unfold mF; simp only [putF, if_neg fs_ne.1, if_true]
theorem pf_om (td md : Addr) (y o o' : Nat) : putF fOM (V.int (o' : Int)) (mF td md y o) = mF td md y o' := by unfold mF; simp only [putF, if_neg fs_ne.2.1, if_neg fs_ne.2.2.2.1, if_true]
theorem pf_mk (td md md' : Addr) (y o : Nat) : putF fMk (V.ref md') (mF td md y o) = mF td md' y o := by unfold mF; simp only [putF, if_neg fs_ne.2.2.1, if_neg fs_ne.2.2.2.2.1, if_neg fs_ne.2.2.2.2.2, if_true]
theorem MemL.pick {K : PySem.W.Frag} {C CT : Addr} {H : Hp} {B td md : Addr} {L : List Th} {m : MM} (X : MemL K C CT H B td md L m) : ∃ A : Nat → Th, ∀ a, m.dom a → A a ∈ L ∧ TA m (A a) a := by
  refine Classical.axiomOfChoice (r := fun a x => m.dom a → x ∈ L ∧ TA m x a) fun a => ?_
  by_cases d : m.dom a
  · obtain ⟨x, h1, h2⟩ := X.from_ a d
    exact ⟨x, fun _ => ⟨h1, h2⟩⟩
  · exact ⟨⟨0, 0, 0, [], .non, [], 0⟩, fun h => absurd h d⟩
theorem part_out {m : MM} {g : Nat → Nat} {R : List Nat} {b : Nat} (h : b ∉ R) : (m.part g R).G b = m.G b := if_neg h
theorem part_in {m : MM} {g : Nat → Nat} {R : List Nat} {b : Nat} (h : b ∈ R) : (m.part g R).G b = (m.G b).mv g := if_pos h
theorem MemL.offK {K : PySem.W.Frag} {C CT : Addr} {H : Hp} {B td md k : Addr} {L : List Th} {m : MM} {kvs : List (Key × V)} (X : MemL K C CT H B td md L m) (h : H k = some (.dK kvs)) (n : k ≠ td) : k ∉ FB B td L := fun z => by
  rcases fb_cases z with e | e | ⟨x, hx, e⟩ | ⟨x, hx, e⟩
  · obtain ⟨dx, g⟩ := X.bk.hB; rw [← e, h] at g; cases g
  · exact n e
  · obtain ⟨dx, tv, g, _⟩ := X.bk.hT x hx; rw [← e, h] at g; cases g
  · obtain ⟨vs, g, _⟩ := X.bk.hS x hx; rw [← e, h] at g; cases g
theorem Mem.now1 {K : PySem.W.Frag} {C CT : Addr} {H H' : Hp} {B td md : Addr} {L' : List Th} {m m' : MM} {F : List Addr} (X : Mem K C CT H B F m) (Y : MemL K C CT H' B td md L' m') (c : Chg F H H') (hL : ∀ b ∈ FB B td L', b ∈ F ∨ H b = none) (hm : md ∈ F ∨ H md = none) :
    ∃ F', Now K C CT H B F m' F' H' ∧ (∀ p, H' p = none → p ∉ F') ∧ ∀ b ∈ F', b ∈ F ∨ b = md ∨ b ∈ FB B td L' := by
  have lv : ∀ b ∈ F ++ (md :: FB B td L'), H' b ≠ none := fun b hb => by
    rcases List.mem_append.mp hb with hb | hb
    · obtain ⟨_, _, _, _, _, _, l⟩ := X
      exact fun z => l b hb (c.live b z)
    · rcases List.mem_cons.mp hb with rfl | hb
      · rw [Y.hM]; exact fun z => nomatch z
      · exact Y.bk.here b hb
  refine ⟨F ++ (md :: FB B td L'), ⟨⟨td, md, L', Y, fun b hb => List.mem_append_right _ (List.mem_cons_of_mem _ hb), List.mem_append_right _ (List.mem_cons_self ..), lv⟩, c, fun b hb => ?_, fun b hb => List.mem_append_left _ hb⟩, fun p hp z => lv p z hp, fun b hb => ?_⟩
  · rcases List.mem_append.mp hb with hb | hb
    · exact .inl hb
    · rcases List.mem_cons.mp hb with rfl | hb
      · exact hm
      · exact hL b hb
  · rcases List.mem_append.mp hb with hb | hb
    · exact .inl hb
    · exact .inr (List.mem_cons.mp hb)
def spHAll (K : PySem.W.Frag) (C CT : Addr) : Sp := fun vs H Q _ => ∃ (B : Addr) (F : List Addr) (m : MM) (a : Addr) (ws : List V) (es : List Ent), vs = [.ref B, .ref a] ∧ Mem K C CT H B F m ∧ m.ok ∧
  H a = some (.lst ws) ∧ Reps H ws (rowD ixD es) ∧ (∀ e ∈ es, e.okP m.dom) ∧ ∀ t R F' H', Reach m.G es R → Now K C CT H B F (m.full R) F' H' → H' t = some (.dK (kvT (gF R) R)) → H t = none → t ∉ F' → Q (.ref t) H'
/-- the state of its loop -/
structure AllW (K : PySem.W.Frag) (C CT : Addr) (H : Hp) (B td md p t kd : Addr) (F : List Addr) (m : MM) (R : List Nat) (tt : Nat → Addr) (i : Nat) (H' : Hp) : Prop where
  ex : ∃ L, MemL K C CT H' B td md L (m.part (gF R) (R.take i)) ∧ (∀ x ∈ L, ∀ a : Nat, x.key = (a : Int) → x.t = tt a) ∧ (∀ x ∈ L, x.t ∈ F) ∧ ∀ x ∈ L, x.s ∈ F ∨ H x.s = none
  chg : Chg F H H'
  hp : H' p = some (.lst (ordV ixD R))
  ht : H' t = some (.dK (kvT (gF R) R))
  hk : H' kd = some (.dK (kvG (gF R) tt (R.take i)))
section
variable {P : Program} {w : World} {K : PySem.W.Frag} {mg : Str → Option Value} {base : Heap} {C CT : Addr}
theorem ok_Heap_move_all (T : Txt K w mg) (TT : ThT K mg CT) (TB : HeT K mg C) (Orh : OkM P w K mg base C CX0 4 "reach" p_Store_reach (spHReach K C CT)) (Ov : OkD P w K mg base CX0 2 "moved" p_moved spPMov) :
    OkM P w K mg base C CX0 5 "move_all" p_Heap_move_all (spHAll K C CT) := by
  refine TB.g_move_all.ok sc_Heap_move_all (fun vs H Q E h => ?_) (fun f cdv A outer s H vs Q E hr h => ?_)
  · obtain ⟨B, F, m, a, ws, es, rfl, _⟩ := h; rfl
  obtain ⟨B, F, m, a, ws, es, rfl, X, ok, ha, rs, oe, q⟩ := h
  refine ⟨_, (pss_cons (ps_set (i := 2) sc_Heap_move_all.nd rfl (.inl rfl) (pmethE Orh TB.cl hr pass0 (pv 0) (pa_cons (pv 1) pa_nil)))
      (pss_cons (ps_set (i := 4) sc_Heap_move_all.nd rfl (.inr rfl) (pe_dc (own := [("number", 7), ("address", 3)]) (g := gTup K 2 (gCons (gName 7) (gCons (gName 3) gNil))) (tt := tYes) rfl sc_Heap_move_all.nd (pi_enum rfl T.z_enumerate (pa_cons (pv 2) pa_nil)) (blkOk_by (own := [("number", 7), ("address", 3)]) (N := n_Heap_move_all) (sc := defScope s_Heap_move_all) (by decide +kernel))
      (fun _ _ _ _ _ => pg_tup rfl (pgs_cons (pg_name (i := 7) sc_Heap_move_all.nd rfl (Or.inl rfl)) (pgs_cons (pg_name (i := 3) sc_Heap_move_all.nd rfl (Or.inl rfl)) pgs_nil))) (fun _ _ _ _ _ => pts_nil) (fun _ _ _ _ _ => (pv 3)) (fun _ _ _ _ _ => (pe_op op_mul pe_int (pv 7)))))
      (pss_cons (ps_set (i := 5) sc_Heap_move_all.nd rfl (.inl rfl) pe_dnewK)
      (pss_cons (ps_for PassesOwn.never rfl (pi_list (pv 2)) (pg_name (i := 3) sc_Heap_move_all.nd rfl (Or.inl rfl)) (pss_cons (ps_set (i := 6) sc_Heap_move_all.nd rfl (.inl rfl) (pe_dget (hu_of' hr) (pe_fld (pv 0) rfl) (pv 3) (fun _ _ => rfl)))
      (pss_cons (ps_fld (pv 6) (pe_lc (own := [("entry", 8)]) (g := gName 8) (tt := tYes) rfl sc_Heap_move_all.nd (pi_list (pe_fld (pv 6) rfl)) (blkOk_by (own := [("entry", 8)]) (N := n_Heap_move_all) (sc := defScope s_Heap_move_all) (by decide +kernel)) (fun _ _ _ _ _ => (pg_name (i := 8) sc_Heap_move_all.nd rfl (Or.inl rfl))) (fun _ _ _ _ _ => pts_nil) (fun _ _ _ _ _ => (pcall Ov hr (pa_cons (pv 8) (pa_cons (pv 4) pa_nil))))) rfl)
      (pss_one (ps_dput (hu_of' hr) (pv 5) (pe_dget (hu_of' hr) (pv 4) (pv 3) (fun _ _ => rfl)) (pv 6) rfl)))))
      (pss_cons (ps_fld (pv 0) (pv 5) rfl)
      (pss_cons (ps_fld (pv 0) pe_int rfl)
      (pss_cons (ps_fld (pv 0) (pe_callB call_len_seq (by rfl) T.z_len PySem.boot_len (pa_cons (pv 2) pa_nil)) rfl)
      (pss_cons (ps_fld (pv 0) pe_dnewK rfl)
      (pss_one (ps_ret (pv 4))))))))))), ?_⟩
  have lim := lim4
  have X0 := X
  obtain ⟨td, md, L, Y, hF, hmF, lv⟩ := X
  obtain ⟨dx0, hB0⟩ := Y.bk.hB
  have Z := On.self ok
  have idI : ∀ es : List Ent, rowD (aI id) es = rowD ixD es := fun es => rfl
  refine ⟨_, rfl, B, dx0, _, rfl, hB0, rfl, _, rfl, B, F, m, id, m.G, m.dom, m.top, a, ws, es, rfl, X0, Z, ha, rs, oe, fun p R H1 eR s1 fp hp => ?_⟩
  have CL := eR.cl Z.clo oe
  have lR := nodup_le m.top CL.nd fun y hy => Z.lt y (CL.dom y hy)
  have lT := Z.le
  have hp : H1 p = some (.lst (ordV ixD R)) := hp
  -- the table
  refine ⟨_, rfl, p, _, rfl, SqL.of hp, fun t ht => ?_⟩
  have ft : H t = none := s1.free ht
  refine dc_it (walk_enum (xs := ordV ixD R)) (fun i H' => Same H H' ∧ H' p = some (.lst (ordV ixD R)) ∧ H' t = some (.dK (kvT (gF R) (R.take i)))) ⟨s1.trans (same_new ht _), by rw [upd_ne (ne_of_none hp ht)]; exact hp, upd_same⟩ (fun i H' _ h => SqL.of h.2.1) ?_ ?_
  · rintro i x H2 H3 hi ⟨s2, h2, h3⟩ ⟨T0, x0, y0, rfl, hT0, rfl, e1, e2⟩
    rw [ordV_len] at hi
    have e2' : (ordV ixD R)[i]? = some y0 := e2
    unfold ordV at e2'
    rw [List.getElem?_map, List.getElem?_eq_getElem hi] at e2'
    have e2' := Option.some.inj e2'
    have e1 := Option.some.inj e1
    subst e1; subst e2'
    have s3 := same_new hT0 (.tup [V.int (i : Nat), V.int (ixD R[i])])
    refine ⟨T0, _, rfl, SqT.of upd_same, rfl, _, _, rfl, _, _, rfl, rfl, ?_⟩
    refine ⟨rfl, iteT (B := True) (iteT ?_)⟩
    refine ⟨_, rfl, _, rfl, _, _, rfl, rfl, .inl ⟨by decide, by decide⟩, _, .inl (ixD R[i]), rfl, s3 _ _ h3, by rw [kvT_len, List.length_take]; omega, same_grow (s2.trans s3) ft, ?_, ?_⟩
    · rw [upd_ne (ne_ob (s3 _ _ h2) (s3 _ _ h3) (fun z => by cases z))]; exact s3 _ _ h2
    · rw [upd_same]
      have nm : R[i] ∉ R.take i := fun z => by
        obtain ⟨j, hj, e⟩ := List.getElem_of_mem z
        rw [List.getElem_take] at e
        have := (List.getElem_inj CL.nd).mp e
        rw [List.length_take] at hj; omega
      have := kvT_put (h := gF R) nm
      rw [gF_at CL.nd hi] at this
      rw [take_next hi, ← this]
      congr 3
  rintro H2 ⟨s2, hp2, ht2⟩
  rw [ordV_len, List.take_length] at ht2
  intro kd hkd
  have fk : H kd = none := s2.free hkd
  obtain ⟨A0, hA0⟩ := Y.pick
  have ntk : t ≠ kd := ne_of_none ht2 hkd
  have npk : p ≠ kd := ne_of_none hp2 hkd
  have nF : ∀ b, H b = none → b ∉ F := fun b h => X0.fresh h
  have S3 := s2.trans (same_new hkd (.dK []))
  refine ⟨_, rfl, p, rfl, ⟨_, SqL.of (by rw [upd_ne npk]; exact hp2)⟩, ?_⟩
  refine for_it (walk_list (xs := ordV ixD R)) (fun i σ H' => ∃ o3 o6, σ = [some (.ref B), some (.ref a), some (.ref p), o3, some (.ref t), some (.ref kd), o6, none, none] ∧ AllW K C CT H B td md p t kd F m R (fun a => (A0 a).t) i H')
    ⟨_, none, rfl, ⟨L, (Y.same S3).congr rfl rfl rfl (fun b _ => ⟨part_out (by simp), rfl⟩), fun x hx b e => ?_, fun x hx => hF _ (fb_t hx), fun x hx => .inl (hF _ (fb_s hx))⟩, .same S3, by rw [upd_ne npk]; exact hp2, by rw [upd_ne ntk]; exact ht2, upd_same⟩ (fun i σ H' _ h => by
      obtain ⟨_, _, rfl, W⟩ := h; exact SqL.of W.hp) ?_ ?_
  · obtain ⟨c, d, tc⟩ := Y.to x hx
    have : c = b := by have := tc.key.symm.trans e; omega
    subst this
    have h0 := hA0 c d
    rw [key_inj Y.bk.nk hx h0.1 (by rw [tc.key, h0.2.key])]
  · rintro i x σ H5 H6 hi ⟨o3, o6, rfl, W⟩ ⟨rfl, hx⟩
    rw [ordV_len] at hi
    unfold ordV at hx
    rw [List.getElem?_map, List.getElem?_eq_getElem hi] at hx
    have hx := Option.some.inj hx
    subst hx
    obtain ⟨⟨L1, Y1, tt1, tF1, sF1⟩, c1, hp1, ht1, hk1⟩ := W
    have dR := CL.dom _ (List.getElem_mem hi)
    have nm : R[i] ∉ R.take i := fun z => by
      obtain ⟨j, hj, e⟩ := List.getElem_of_mem z
      rw [List.getElem_take] at e
      have := (List.getElem_inj CL.nd).mp e
      rw [List.length_take] at hj; omega
    have dP : (m.part (gF R) (R.take i)).dom R[i] := dR
    obtain ⟨x, hxL, tx, dx, dx2, tv, vs, hB, hg, g, r, g2, r2⟩ := Y1.look dP
    have eG : (m.part (gF R) (R.take i)).G R[i] = m.G R[i] := part_out nm
    rw [eG] at r r2
    refine ⟨_, rfl, B, C, dx, _, .ref td, rfl, hB, TB.cl, TB.n_things, rfl, _, rfl, td, _, rfl, hg, ?_⟩
    refine ⟨_, rfl, x.t, CT, dx2, _, .ref x.s, rfl, g, TT.cl, TT.n_slots, rfl, x.s, rfl, ⟨vs, SqL.of g2⟩, fun l1 hl1 => ?_⟩
    have rowlen := (ok.nd _ dR).2
    have vl : vs.length = (m.G R[i]).row.length := by rw [r2.len, rowD_len]
    refine lc_it (walk_list (xs := vs)) (fun j H' => Same H6 H' ∧ ∃ us, H' l1 = some (.lst us) ∧ Reps H' us (rowD (aI (gF R)) ((m.G R[i]).row.take j)) ∧ us.length = j) ⟨same_new hl1 _, [], upd_same, .nil, rfl⟩ (fun j H' _ h => SqL.of (h.1 _ _ g2)) ?_ ?_
    · rintro j y H7 H8 hj ⟨s7, us, h7, r7, l7⟩ ⟨rfl, hy⟩
      obtain ⟨hj', rd⟩ := rows_at (r2.mono (.same s7)) hy
      have eok := ok.clo _ dR _ (List.getElem_mem hj')
      refine ⟨rfl, iteT (B := True) (iteT ?_)⟩
      refine ⟨_, rfl, _, rfl, y, t, (m.G R[i]).row[j], ixD, aI (gF R), m.top, _, rfl, rd, eok.ok Z.lt, s7 _ _ ht1, fun k hk' => ?_, fun v' H9 s9 r9 => ?_⟩
      · have : k ∈ R := CL.clo _ (List.getElem_mem hi) _ (mem_tgs (List.getElem_mem hj') hk')
        show (valV (kvT (gF R) R) (.inl (k : Int))).getD _ = _
        rw [kvT_get, if_pos this]; rfl
      have h9 := s9 _ _ h7
      refine ⟨_, h9, by omega, same_grow (s7.trans s9) hl1, us ++ [v'], upd_same, ?_, by simp [l7]⟩
      rw [take_next hj', rowD_app]
      exact (r7.mono ((Tups.same s9).trans (.lst h9))).app (.one (r9.mono (.lst h9)))
    rintro H7 ⟨s7, us1, h7, r7, l7⟩
    rw [vl, List.take_length, ← aI_mv] at r7
    obtain ⟨y, y1, y2, y3, ey, Y8, c8⟩ := Y1.resl (es := mvs (gF R) (m.G R[i]).row) hxL tx g (by rw [eG]; exact r) s7 hl1 h7 r7
    refine ⟨_, rfl, x.t, CT, dx2, _, rfl, s7 _ _ g, TT.cl, TT.n_slots, (by show 4 < 1000; decide), ?_⟩
    rw [ey]
    have fl1 : H l1 = none := c1.live l1 hl1
    have xtF := tF1 x hxL
    have kp : ∀ {b : Addr} {o : HO}, H b = none → H6 b = some o → upd H7 x.t (.ins CT dx2 (thF y tv)) b = some o := fun {b o} h1 h2 => c8.keep b o (by simp; exact fun z => nF b h1 (by rw [z]; exact xtF)) h2
    have hp8 := kp fp hp1
    have ht8 := kp ft ht1
    have hk8 := kp fk hk1
    have c18 : Chg F H (upd H7 x.t (.ins CT dx2 (thF y tv))) := c1.trans (c8.mono (fun b hb => by rw [List.mem_singleton.mp hb]; exact xtF))
    have Y9 : MemL K C CT (upd H7 x.t (.ins CT dx2 (thF y tv))) B td md (putT y L1) (m.part (gF R) (R.take (i + 1))) := Y8.congr rfl rfl rfl fun b _ => ⟨by
      have tk := take_next hi
      show (m.part (gF R) (R.take (i + 1))).G b = setG (m.part (gF R) (R.take i)).G R[i] _ b
      by_cases e : b = R[i]
      · subst e
        rw [setG_at, part_in (by rw [tk]; exact List.mem_append_right _ (List.mem_singleton_self _)), eG]; rfl
      · rw [setG_ne e]
        by_cases c : b ∈ R.take i
        · rw [part_in c, part_in (by rw [tk]; exact List.mem_append_left _ c)]
        · rw [part_out c, part_out (by rw [tk]; exact fun z => (List.mem_append.mp z).elim c (fun q => e (List.mem_singleton.mp q)))], rfl⟩
    generalize upd H7 x.t (.ins CT dx2 (thF y tv)) = H8 at Y8 c8 hp8 ht8 hk8 c18 Y9
    have et : x.t = (A0 R[i]).t := tt1 x hxL R[i] tx.key
    have hg8 : DGet H8 t (.int (R[i] : Int)) (some (.int ((gF R R[i] : Nat) : Int))) := by
      have := DGet.k (k := Sum.inl (R[i] : Int)) ht8
      rw [kvT_get, if_pos (List.getElem_mem hi)] at this; exact this
    refine ⟨_, rfl, _, rfl, _, rfl, _, rfl, t, _, rfl, hg8, kd, _, rfl, .inl ⟨_, .inl ((gF R R[i] : Nat) : Int), hk8, rfl, by rw [kvG_len, List.length_take]; omega, rfl⟩, ?_⟩
    have ep := kvG_put (h := gF R) (tt := fun a => (A0 a).t) (R := R.take i) (a := R[i]) fun b hb e => nm (by rw [← gF_inj (List.mem_of_mem_take hb) e]; exact hb)
    rw [et]
    rw [ep, ← take_next hi]
    have tdF : td ∈ F := hF _ (by simp [FB])
    have off := Y9.offK hk8 (fun z => nF kd fk (by rw [z]; exact tdF))
    have cK : Chg [kd] H8 (upd H8 kd (.dK (kvG (gF R) (fun a => (A0 a).t) (R.take (i + 1))))) := .upd hk8 (fun _ z => by cases z) (List.mem_singleton_self _)
    refine ⟨_, _, rfl, ⟨_, Y9.frame cK (fun b hb z => off (by rw [← List.mem_singleton.mp z]; exact hb)) (fun z => nF kd fk (by rw [← List.mem_singleton.mp z]; exact hmF)), fun z hz b e => ?_, fun z hz => ?_, fun z hz => ?_⟩, c18.trans2 cK (fun b hb => .inr (by rw [List.mem_singleton.mp hb]; exact fk)), ?_, ?_, upd_same⟩
    · rcases mem_putT hz with rfl | ⟨hz, _⟩
      · rw [y1]; exact tt1 x hxL b (by rw [← y3]; exact e)
      · exact tt1 z hz b e
    · rcases mem_putT hz with rfl | ⟨hz, _⟩
      · rw [y1]; exact xtF
      · exact tF1 z hz
    · rcases mem_putT hz with rfl | ⟨hz, _⟩
      · rw [y2]; exact .inr fl1
      · exact sF1 z hz
    · rw [upd_ne npk]; exact hp8
    · rw [upd_ne ntk]; exact ht8
  · rintro σ H5 ⟨o3, o6, rfl, W⟩
    rw [ordV_len] at W
    obtain ⟨⟨L5, Y5, tt5, tF5, sF5⟩, c5, hp5, ht5, hk5⟩ := W
    rw [List.take_length] at Y5 hk5
    obtain ⟨dx5, hB5⟩ := Y5.bk.hB
    have hB5 : H5 B = some (.ins C dx5 (mF td md m.yn m.on)) := hB5
    refine ⟨_, rfl, _, rfl, B, C, dx5, _, rfl, hB5, TB.cl, TB.n_things, (by show 4 < 1000; decide), ?_⟩
    rw [show putF (Str.ofString "things") (V.ref kd) (mF td md m.yn m.on) = mF kd md m.yn m.on from pf_th ..]
    refine ⟨_, rfl, B, C, dx5, _, rfl, upd_same, TB.cl, TB.n_young_many, (by show 4 < 1000; decide), ?_⟩
    rw [upd_upd, show putF (Str.ofString "young_many") (V.int 0) (mF kd md m.yn m.on) = mF kd md 0 m.on from pf_ym ..]
    have nBF : B ∈ F := hF _ (by simp [FB])
    have npB : p ≠ B := fun z => nF p fp (by rw [z]; exact nBF)
    have ntB : t ≠ B := fun z => nF t ft (by rw [z]; exact nBF)
    have nkB : kd ≠ B := fun z => nF kd fk (by rw [z]; exact nBF)
    refine ⟨_, rfl, p, _, rfl, .inl (SqL.of (by rw [upd_ne npB]; exact hp5)), ?_⟩
    rw [ordV_len]
    refine ⟨_, rfl, B, C, dx5, _, rfl, upd_same, TB.cl, TB.n_old_many, (by show 4 < 1000; decide), ?_⟩
    rw [upd_upd, show putF (Str.ofString "old_many") (V.int (R.length : Nat)) (mF kd md 0 m.on) = mF kd md 0 R.length from pf_om ..]
    intro md' hmd'
    have nmB : md' ≠ B := fun z => by rw [z, upd_same] at hmd'; cases hmd'
    refine ⟨_, rfl, B, C, dx5, _, rfl, (by rw [upd_ne (Ne.symm nmB), upd_same]), TB.cl, TB.n_marked, (by show 4 < 1000; decide), ?_⟩
    rw [show putF (Str.ofString "marked") (V.ref md') (mF kd md 0 R.length) = mF kd md' 0 R.length from pf_mk ..]
    have hmd5 : H5 md' = none := by rw [upd_ne nmB] at hmd'; exact hmd'
    have hmd0 : H md' = none := c5.live _ hmd5
    obtain ⟨A5, hA5⟩ := Y5.pick
    have nkm : md' ≠ kd := fun z => by rw [z, hk5] at hmd5; cases hmd5
    have ntm : t ≠ md' := fun z => by rw [← z, ht5] at hmd5; cases hmd5
    have fin : ∀ {b : Addr} {o : HO}, b ≠ B → H5 b = some o → upd (upd (upd H5 B (.ins C dx5 (mF kd md 0 R.length))) md' (.dK [])) B (.ins C dx5 (mF kd md' 0 R.length)) b = some o := fun {b o} n h => by
      rw [upd_ne n, upd_ne (fun z => by rw [z, hmd5] at h; cases h), upd_ne n]; exact h
    have c9 : Chg F H5 (upd (upd (upd H5 B (.ins C dx5 (mF kd md 0 R.length))) md' (.dK [])) B (.ins C dx5 (mF kd md' 0 R.length))) := by
      have c1 : Chg F H5 (upd H5 B (.ins C dx5 (mF kd md 0 R.length))) := .upd hB5 (fun _ z => by cases z) nBF
      have c2 : Chg F H5 (upd (upd H5 B (.ins C dx5 (mF kd md 0 R.length))) md' (.dK [])) := c1.trans (.new hmd')
      exact c2.trans (.upd (o := .ins C dx5 (mF kd md 0 R.length)) (by rw [upd_ne (Ne.symm nmB), upd_same]) (fun _ z => by cases z) nBF)
    have hB9 : upd (upd (upd H5 B (.ins C dx5 (mF kd md 0 R.length))) md' (.dK [])) B (.ins C dx5 (mF kd md' 0 R.length)) B = some (.ins C dx5 (mF kd md' 0 R.length)) := upd_same
    have hM9 : upd (upd (upd H5 B (.ins C dx5 (mF kd md 0 R.length))) md' (.dK [])) B (.ins C dx5 (mF kd md' 0 R.length)) md' = some (.dK []) := by rw [upd_ne nmB, upd_same]
    have hD9 := fin nkB hk5
    have ht9 := fin ntB ht5
    generalize upd (upd (upd H5 B (.ins C dx5 (mF kd md 0 R.length))) md' (.dK [])) B (.ins C dx5 (mF kd md' 0 R.length)) = H9 at fin c9 hB9 hM9 hD9 ht9 ⊢
    have ek : kvG (gF R) (fun a => (A0 a).t) R = kvG (gF R) (fun a => (A5 a).t) R := by
      unfold kvG
      refine List.map_congr_left fun b hb => ?_
      have h1 := hA5 b (CL.dom b hb)
      have := tt5 _ h1.1 b h1.2.key
      show (_, V.ref (A0 b).t) = (_, V.ref (A5 b).t)
      rw [this]
    rw [ek] at hD9
    have Y9 := rekey (m' := m.full R) (h := gF R) (A := A5) (md' := md') (td' := kd) Y5 (fun b hb => hA5 b (CL.dom b hb)) CL.nd (fun b hb c _ e => gF_inj hb e) nkm
      (fun b o hb h => fin (fun z => by
        obtain ⟨x, hx, e | e⟩ := hb
        · obtain ⟨dxx, tvx, g, _⟩ := Y5.bk.hT x hx
          rw [← e, z, hB5] at g
          exact ins_ne (td := td) (more := moreM m md) (C := C) (dx := dx5) (x := x) (fs := []) (Option.some.inj g)
        · obtain ⟨vs, g, _⟩ := Y5.bk.hS x hx
          rw [← e, z, hB5] at g; cases g) h) c9.tups hB9 hD9 hM9 (fun b hb => (full_at CL.nd hb).1) (fun b hb => by
        obtain ⟨e1, e2⟩ := MM.full_dom.mp hb
        exact ⟨R[b / 2], List.getElem_mem e2, by rw [gF_at CL.nd e2]; omega⟩) (fun b hb => by
        rw [part_in hb]; exact (full_at CL.nd hb).2)
    have c10 := c5.trans c9
    obtain ⟨F', N, _, fr⟩ := X0.now1 (m' := m.full R) Y9 c10 (fun b hb => by
      rcases fb_cases hb with rfl | rfl | ⟨x, hx, rfl⟩ | ⟨x, hx, rfl⟩
      · exact .inl nBF
      · exact .inr fk
      · obtain ⟨c, hc, rfl⟩ := List.mem_map.mp hx
        exact .inl (show (A5 c).t ∈ F from tF5 _ (hA5 c (CL.dom c hc)).1)
      · obtain ⟨c, hc, rfl⟩ := List.mem_map.mp hx
        exact (show (A5 c).s ∈ F ∨ H (A5 c).s = none from sF5 _ (hA5 c (CL.dom c hc)).1)) (.inr hmd0)
    have htl : t ∉ F' := fun z => by
      rcases fr t z with h | h | h
      · exact nF t ft h
      · exact ntm h
      · exact Y9.offK ht9 ntk h
    exact ⟨_, rfl, q t R F' H9 eR N ht9 ft htl⟩
end
end D0
namespace D0
open PySem PySem.Spec PyProof.Rows L2 SX NumText
theorem optV_oV (t : Option Nat) : optV ixD t = ND.oV (t.map fun (a : Nat) => (a : Int)) := by cases t <;> rfl
def spHFaults0 (K : PySem.W.Frag) (C CT : Addr) : Sp := fun vs H Q _ => ∃ (B : Addr) (F : List Addr) (m : MM) (a : Addr) (ws : List V) (es : List Ent), vs = [.ref B, .ref a] ∧ Mem K C CT H B F m ∧ m.ok ∧
  H a = some (.lst ws) ∧ Reps H ws (rowD ixD es) ∧ (∀ e ∈ es, e.okP m.dom) ∧ es.length ≤ 1000 ∧ ∀ p H', Same H H' → H p = none → H' p = some (.lst []) → Q (.ref p) H'
section
variable {P : Program} {w : World} {K : PySem.W.Frag} {mg : Str → Option Value} {base : Heap} {C CT : Addr}
theorem ok_Heap_faults (T : Txt K w mg) (TT : ThT K mg CT) (TB : HeT K mg C) (Oa : OkD P w K mg base CX0 2 "address_of" p_address_of spAddr) (Oy : OkD P w K mg base CX0 1 "is_young" p_is_young spYoung) (Ony : OkD P w K mg base CX0 3 "refers_to_young" p_refers_to_young spRefers) :
    OkM P w K mg base C CX0 4 "faults" p_Heap_faults (spHFaults0 K C CT) := by
  refine TB.g_faults.ok sc_Heap_faults (fun vs H Q E h => ?_) (fun f cdv A outer s H vs Q E hr h => ?_)
  · obtain ⟨B, F, m, a, ws, es, rfl, _⟩ := h; rfl
  obtain ⟨B, F, m, a, ws, es, rfl, X, ok, ha, rs, oe, le, q⟩ := h
  refine ⟨_, (pss_cons (ps_set (i := 2) sc_Heap_faults.nd rfl (.inl rfl) (pe_callTy call_list_of (by rfl) T.z_list PyProof.Rows.boot_list (pa_cons (pv 1) pa_nil)))
      (pss_cons (ps_set (i := 3) sc_Heap_faults.nd rfl (.inl rfl) (pe_lst pa_nil))
      (pss_cons (ps_for PassesOwn.never rfl (pi_list (pe_callB cr_sortedI (by rfl) T.z_sorted (by decide +kernel) (pa_cons (pe_callTy (call_list_dK rfl) (by rfl) T.z_list PyProof.Rows.boot_list (pa_cons (pe_fld (pv 0) rfl) pa_nil)) pa_nil))) (pg_name (i := 4) sc_Heap_faults.nd rfl (Or.inl rfl))
      (pss_cons (ps_set (i := 5) sc_Heap_faults.nd rfl (.inl rfl) (pe_fld (pe_dget (hu_of' hr) (pe_fld (pv 0) rfl) (pv 4) (fun _ _ => rfl)) rfl))
      (pss_cons (ps_expr (pe_bm PySem.F.plainAttrs_list PySem.F.slot_list_extend PySem.F.type_list_extend mt_extend (pv 2) (pa_cons (pv 5) pa_nil)))
      (pss_one (ps_if (PW.pt (pw_and (pt_not (pt_val (pcall Oy hr (pa_cons (pv 4) pa_nil)))) (pw_and (pt_cmp (pc_dnotin (hu_of' hr) (pv 4) (pe_fld (pv 0) rfl))) (pw_and1 (pt_val (pcall Ony hr (pa_cons (pv 5) pa_nil))))))) (pss_one (ps_expr (pe_bm PySem.F.plainAttrs_list PySem.F.slot_list_append PySem.F.type_list_append mt_append (pv 3) (pa_cons (pv 4) pa_nil)))) pss_nil)))))
      (pss_cons (ND.ps_dcO (i := 6) (own := [("entry", 9)]) (g := gName 9) (hu_of' hr) rfl sc_Heap_faults.nd rfl rfl rfl (pi_list (pv 2)) (blkOk_by (own := [("entry", 9)]) (N := n_Heap_faults) (sc := defScope s_Heap_faults) (by decide +kernel)) (fun _ _ _ _ _ => (pg_name (i := 9) sc_Heap_faults.nd rfl (Or.inl rfl))) (fun _ _ _ _ _ => (pcall Oa hr (pa_cons (pv 9) pa_nil))) (fun _ _ _ _ _ => pe_bl))
      (pss_cons (ps_lock (ps_setLc (i := 7) (own := [("address", 4)]) (g := gName 4) rfl sc_Heap_faults.nd rfl rfl rfl (ND.pi_O (pv 6)) (blkOk_by (own := [("address", 4)]) (N := n_Heap_faults) (sc := defScope s_Heap_faults) (by decide +kernel)) (fun _ _ _ _ _ => (pg_name (i := 4) sc_Heap_faults.nd rfl (Or.inl rfl)))
      (fun _ _ _ _ _ => pts_one (PW.pt (pw_and (pt_cmpR op_notN (pv 4) pe_non (nomark _)) (pw_and1 (pt_cmp (pc_dnotin (hu_of' hr) (pv 4) (show PE _ _ (tFld K (tVar 0) (Str.ofString "things")) from (pe_fld (pv 0) rfl)))))))) (fun _ _ _ _ _ => (pv 4))))
      (pss_cons (ps_setLc (i := 8) (own := [("address", 4)]) (g := gName 4) (tt := tYes) rfl sc_Heap_faults.nd rfl rfl rfl (pi_list (pe_callB cr_sortedI (by rfl) T.z_sorted (by decide +kernel) (pa_cons (pv 7) pa_nil))) (blkOk_by (own := [("address", 4)]) (N := n_Heap_faults) (sc := defScope s_Heap_faults) (by decide +kernel)) (fun _ _ _ _ _ => (pg_name (i := 4) sc_Heap_faults.nd rfl (Or.inl rfl))) (fun _ _ _ _ _ => pts_nil) (fun _ _ _ _ _ => (pe_tup (pa_cons pe_str (pa_cons (pv 4) pa_nil)))))
      (pss_one (ps_ret (pe_op op_cat (pv 8) (pe_lc (own := [("address", 4)]) (g := gName 4) (tt := tYes) rfl sc_Heap_faults.nd (pi_list (pv 3)) (blkOk_by (own := [("address", 4)]) (N := n_Heap_faults) (sc := defScope s_Heap_faults) (by decide +kernel)) (fun _ _ _ _ _ => (pg_name (i := 4) sc_Heap_faults.nd rfl (Or.inl rfl))) (fun _ _ _ _ _ => pts_nil) (fun _ _ _ _ _ => (pe_tup (pa_cons pe_str (pa_cons (pv 4) pa_nil)))))))))))))), ?_⟩
  have lim : 1000000 < sizeLine := by rw [sizeLine_eq]; decide
  have X0 := X
  obtain ⟨td, md, L, Y, hF, hmF, lv⟩ := X
  have Z := On.self ok
  refine ⟨_, rfl, a, ws, rfl, .inl (SqL.of ha), fun p2 hp2 => ?_⟩
  refine ⟨Nat.zero_le _, fun p3 hp3 => ?_⟩
  have s1 := same_new hp2 (.lst ws)
  have s2 := s1.trans (same_new hp3 (.lst []))
  have n23 : p2 ≠ p3 := fun z => by rw [z, upd_same] at hp3; cases hp3
  have h2 : upd (upd H p2 (.lst ws)) p3 (.lst []) p2 = some (.lst ws) := by rw [upd_ne n23, upd_same]
  have h3 : upd (upd H p2 (.lst ws)) p3 (.lst []) p3 = some (.lst []) := upd_same
  have f3 : H p3 = none := s1.free hp3
  generalize upd (upd H p2 (.lst ws)) p3 (.lst []) = H2 at s2 h2 h3
  have Y2 := Y.same s2
  obtain ⟨dx, hB⟩ := Y2.bk.hB
  refine ⟨_, rfl, B, C, dx, _, .ref td, rfl, hB, TB.cl, TB.n_things, rfl, td, _, rfl, Y2.bk.hD, fun l hl => ?_⟩
  have el : (kvL L).map (fun kv => kV kv.1) = (L.map Th.key).map V.int := by unfold kvL; rw [List.map_map, List.map_map]; rfl
  rw [el]
  refine ⟨l, _, rfl, SqL.of upd_same, fun ns p4 perm srt hp4 => ?_⟩
  have s3 := (same_new hl (.lst ((L.map Th.key).map V.int))).trans (same_new hp4 (.lst (ns.map V.int)))
  have S4 := s2.trans s3
  have h24 := s3 _ _ h2
  have h34 := s3 _ _ h3
  have h44 : upd (upd H2 l (.lst ((L.map Th.key).map V.int))) p4 (.lst (ns.map V.int)) p4 = some (.lst (ns.map V.int)) := upd_same
  have f4 : H p4 = none := s2.free (Same.free (same_new hl _) hp4)
  have n24 : p4 ≠ p2 := fun z => by rw [z] at hp4; exact absurd (same_new hl _ _ _ h2) (by rw [hp4]; exact fun z => nomatch z)
  have n34 : p4 ≠ p3 := fun z => by rw [z] at hp4; exact absurd (same_new hl _ _ _ h3) (by rw [hp4]; exact fun z => nomatch z)
  generalize upd (upd H2 l (.lst ((L.map Th.key).map V.int))) p4 (.lst (ns.map V.int)) = H4 at s3 S4 h24 h34 h44
  have nl : ns.length ≤ 4000 := by
    rw [perm.length_eq, List.length_map]
    have := Y.len; have := Z.le; omega
  refine ⟨p4, rfl, ⟨_, SqL.of h44⟩, ?_⟩
  refine for_it (walk_list (xs := ns.map V.int)) (fun i σ H' => ∃ o4 o5, σ = [some (.ref B), some (.ref a), some (.ref p2), some (.ref p3), o4, o5, none, none, none, none] ∧ Same H H' ∧ H' p4 = some (.lst (ns.map V.int)) ∧ H' p3 = some (.lst []) ∧
      ∃ vs2 es2, H' p2 = some (.lst vs2) ∧ Reps H' vs2 (rowD ixD es2) ∧ (∀ e ∈ es2, e.okP m.dom) ∧ es2.length ≤ 1000 + 100 * i)
    ⟨none, none, rfl, S4, h44, h34, ws, es, h24, rs.mono (.same S4), oe, by omega⟩ (fun i σ H' _ h => by obtain ⟨_, _, _, _, h, _⟩ := h; exact SqL.of h) ?_ ?_
  · rintro i x σ H5 H6 hi ⟨o4, o5, rfl, S5, h45, h35, vs2, es2, h25, r25, oe2, le2⟩ ⟨rfl, hx⟩
    rw [List.length_map] at hi
    rw [List.getElem?_map, List.getElem?_eq_getElem hi] at hx
    have hx := Option.some.inj hx
    subst hx
    obtain ⟨x, hxL, ex⟩ := List.mem_map.mp (perm.mem_iff.mp (List.getElem_mem hi))
    obtain ⟨b, db, tb⟩ := Y.to x hxL
    rw [← ex, tb.key]
    have Y5 := Y.same S5
    obtain ⟨x, hxL, t, dx, dx2, tv, us, hB, hg, g, r, g2, r2⟩ := Y5.look db
    refine ⟨_, rfl, B, C, dx, _, .ref td, rfl, hB, TB.cl, TB.n_things, rfl, _, rfl, td, _, rfl, hg, ?_⟩
    refine ⟨x.t, CT, dx2, _, .ref x.s, rfl, g, TT.cl, TT.n_slots, rfl, ?_⟩
    have lu : us.length ≤ 100 := by rw [r2.len, rowD_len]; exact (ok.nd b db).2
    have lv2 : vs2.length = es2.length := by rw [r25.len, rowD_len]
    refine ⟨_, rfl, .inl ⟨rfl, _, SqL.of h25⟩, _, rfl, p2, x.s, vs2, us, rfl, rfl, h25, g2, by omega, ?_⟩
    have c6 : Chg [p2] H6 (upd H6 p2 (.lst (vs2 ++ us))) := .upd h25 (fun _ z => by cases z) (List.mem_singleton_self _)
    have S6 : Same H (upd H6 p2 (.lst (vs2 ++ us))) := fun c o hc => by rw [upd_ne (ne_of_none hc hp2)]; exact S5 _ _ hc
    have h36 : upd H6 p2 (.lst (vs2 ++ us)) p3 = some (.lst []) := by rw [upd_ne (Ne.symm n23)]; exact h35
    have h46 : upd H6 p2 (.lst (vs2 ++ us)) p4 = some (.lst (ns.map V.int)) := by rw [upd_ne n24]; exact h45
    have h26 : upd H6 p2 (.lst (vs2 ++ us)) p2 = some (.lst (vs2 ++ us)) := upd_same
    have r26 : Reps (upd H6 p2 (.lst (vs2 ++ us))) (vs2 ++ us) (rowD ixD (es2 ++ (m.G b).row)) := by rw [rowD_app]; exact (r25.app r2).mono c6.tups
    have oe6 : ∀ e ∈ es2 ++ (m.G b).row, e.okP m.dom := fun e he => by
      rcases List.mem_append.mp he with h | h
      · exact oe2 e h
      · exact ok.clo b db e h
    have le6 : (es2 ++ (m.G b).row).length ≤ 1000 + 100 * (i + 1) := by rw [List.length_append]; have := (ok.nd b db).2; omega
    have Y6 := Y.same S6
    have g6 : upd H6 p2 (.lst (vs2 ++ us)) x.s = some (.lst us) := by rw [upd_ne (fun z => by rw [z] at g2; have := Y.bk.here x.s (fb_s hxL); exact this (by rw [z]; exact hp2))]; exact g2
    have r6 := r2.mono c6.tups
    generalize upd H6 p2 (.lst (vs2 ++ us)) = H7 at c6 S6 h36 h46 h26 r26 Y6 g6 r6
    obtain ⟨dx7, hB7⟩ := Y6.bk.hB
    refine ⟨_, rfl, b, rfl, ?_⟩
    by_cases cy : b % 2 = 1
    · rw [decide_eq_true cy]
      exact ⟨_, rfl, iteF ⟨_, _, rfl, S6, h46, h36, _, _, h26, r26, oe6, le6⟩⟩
    · rw [decide_eq_false cy]
      refine ⟨_, rfl, iteT ?_⟩
      refine ⟨_, rfl, _, rfl, B, C, dx7, _, .ref md, rfl, hB7, TB.cl, TB.n_marked, rfl, md, _, rfl, DGet.k (k := Sum.inl (b : Int)) Y6.hM, _, rfl, ?_⟩
      rw [markK_get]
      by_cases cm : b ∈ m.ms
      · rw [decide_eq_true cm]
        exact iteF ⟨_, _, rfl, S6, h46, h36, _, _, h26, r26, oe6, le6⟩
      · rw [decide_eq_false cm]
        refine iteT ⟨_, rfl, x.s, us, (m.G b).row, m.top, rfl, g6, r6, fun e he => (ok.clo b db e he).ok Z.lt, ?_⟩
        have ny : anyY (m.G b).row = false := by
          cases y : anyY (m.G b).row with
          | false => rfl
          | true => exact absurd (ok.mky b (by omega) (by rcases db with d | d; omega; exact d.2) y) cm
        rw [ny]
        exact ⟨_, rfl, iteF ⟨_, _, rfl, S6, h46, h36, _, _, h26, r26, oe6, le6⟩⟩
  · rintro σ H5 ⟨o4, o5, rfl, S5, h45, h35, vs2, es2, h25, r25, oe2, le2⟩
    rw [List.length_map] at le2
    have lv2 : vs2.length = es2.length := by rw [r25.len, rowD_len]
    refine ⟨_, rfl, p2, rfl, ⟨_, SqL.of h25⟩, fun d hd => ?_⟩
    refine ND.dcO_it (walk_list (xs := vs2)) (fun i H' => Same H5 H' ∧ ∃ ks, H' d = some (ND.nD d ks) ∧ ks.length ≤ i ∧ ∀ k ∈ ks, ∀ c, k = some c → ∃ n, m.dom n ∧ c = ((n : Nat) : Int)) ⟨same_new hd _, [], upd_same, Nat.le_refl _, fun k h => by cases h⟩ (fun i H' _ h => SqL.of (h.1 _ _ h25)) ?_ ?_
    · rintro i x H6 H7 hi ⟨S6, ks, hk, lk, dk⟩ ⟨rfl, hx⟩
      obtain ⟨hi', rd⟩ := rows_at (r25.mono (.same S6)) hx
      have eok := oe2 _ (List.getElem_mem hi')
      refine ⟨rfl, _, rfl, x, es2[i], ixD, m.top, rfl, rd, eok.ok Z.lt, ks, es2[i].tg.map fun (a : Nat) => (a : Int), optV_oV _, rfl, hk, by omega, same_grow S6 hd, _, upd_same, ?_, fun k hk c e => ?_⟩
      · have := ND.addK_len ks (es2[i].tg.map fun (a : Nat) => (a : Int)); omega
      · unfold ND.addK at hk
        split at hk
        · exact dk k hk c e
        · rcases List.mem_append.mp hk with hk | hk
          · exact dk k hk c e
          · rw [List.mem_singleton.mp hk] at e
            obtain ⟨n, hn, rfl⟩ := Option.map_eq_some_iff.mp e
            exact ⟨n, eok.tg hn, rfl⟩
    rintro H6 ⟨S6, ks, hk, lk, dk⟩
    have fd : H d = none := S5.free hd
    refine ⟨d, ND.nD d ks, hk, True.intro, fun od => ?_⟩
    have c6 : Chg [d] H6 (upd H6 d (.frz od (ND.nD d ks))) := .upd hk (fun _ z => by cases z) (List.mem_singleton_self _)
    have off : ∀ {b : Addr} {o : HO}, H b = some o → upd H6 d (.frz od (ND.nD d ks)) b = some o := fun {b o} h => by rw [upd_ne (ne_of_none h fd)]; exact S6 _ _ (S5 _ _ h)
    have Y7 : MemL K C CT (upd H6 d (.frz od (ND.nD d ks))) B td md L m := Y.same fun b o h => off h
    have h37 : upd H6 d (.frz od (ND.nD d ks)) p3 = some (.lst []) := by rw [upd_ne (ne_of_none h35 hd)]; exact S6 _ _ h35
    have hdd : upd H6 d (.frz od (ND.nD d ks)) d = some (.frz od (ND.nD d ks)) := upd_same
    have SS : ∀ b o, b ≠ d → H6 b = some o → upd H6 d (.frz od (ND.nD d ks)) b = some o := fun b o n h => by rw [upd_ne n]; exact h
    generalize upd H6 d (.frz od (ND.nD d ks)) = H7 at c6 off Y7 h37 hdd SS
    refine ⟨_, rfl, d, od, ks, rfl, hdd, fun p7 hp7 => ?_⟩
    refine lc_it ND.walk_O (fun i H' => Same H7 H' ∧ H' p7 = some (.lst [])) ⟨same_new hp7 _, upd_same⟩ (fun i H' _ h => h.1 _ _ hdd) ?_ ?_
    · rintro i x H8 H9 hi ⟨S8, h8⟩ ⟨rfl, k, hk', rfl⟩
      refine ⟨rfl, ?_⟩
      cases k with
      | none =>
        refine ⟨_, rfl, rfl, _, rfl, iteF ?_⟩
        exact ⟨S8, h8⟩
      | some c =>
        obtain ⟨n, dn, rfl⟩ := dk _ (List.mem_of_getElem? hk') c rfl
        have Y8 := Y7.same S8
        obtain ⟨x, hxL, t, dx8, dx9, tv, us, hB8, hg8, _⟩ := Y8.look dn
        refine ⟨_, rfl, rfl, _, rfl, iteT ?_⟩
        refine ⟨_, rfl, _, rfl, B, C, dx8, _, .ref td, rfl, hB8, TB.cl, TB.n_things, rfl, td, _, rfl, hg8, _, rfl, ?_⟩
        exact iteF ⟨S8, h8⟩
    rintro H8 ⟨S8, h8⟩
    refine ⟨S8 _ _ hdd, ?_⟩
    have n7d : p7 ≠ d := fun z => by rw [z, hdd] at hp7; cases hp7
    have S9 : Same H (upd H8 d (ND.nD d ks)) := fun b o h => by rw [upd_ne (ne_of_none h fd)]; exact S8 _ _ (off h)
    have h79 : upd H8 d (ND.nD d ks) p7 = some (.lst []) := by rw [upd_ne n7d]; exact h8
    have h39 : upd H8 d (ND.nD d ks) p3 = some (.lst []) := by rw [upd_ne (ne_of_none h35 hd)]; exact S8 _ _ h37
    generalize upd H8 d (ND.nD d ks) = H9 at S9 h79 h39
    refine ⟨_, rfl, p7, [], rfl, SqL.of h79, fun ns' p8 perm' _ hp8 => ?_⟩
    obtain rfl := perm'.eq_nil
    have s10 := same_new hp8 (.lst (([] : List Int).map V.int))
    refine ⟨p8, rfl, ⟨[], SqL.of upd_same⟩, fun p9 hp9 => ?_⟩
    have S10 := S9.trans s10
    have h310 := s10 _ _ h39
    have h810 : upd H9 p8 (.lst (([] : List Int).map V.int)) p8 = some (.lst []) := upd_same
    have f9 : H p9 = none := S10.free hp9
    generalize upd H9 p8 (.lst (([] : List Int).map V.int)) = H10 at S10 h310 h810 hp9 ⊢
    refine lc_it (walk_list (xs := ([] : List V))) (fun i H' => Same H10 H' ∧ H' p9 = some (.lst [])) ⟨same_new hp9 _, upd_same⟩ (fun i H' _ h => SqL.of (h.1 _ _ h810)) (fun i x H' H'' hi _ _ => absurd hi (Nat.not_lt_zero _)) ?_
    rintro H11 ⟨S11, h911⟩
    refine ⟨_, rfl, _, rfl, p3, rfl, ⟨[], SqL.of (S11 _ _ h310)⟩, fun p10 hp10 => ?_⟩
    refine lc_it (walk_list (xs := ([] : List V))) (fun i H' => Same H11 H' ∧ H' p10 = some (.lst [])) ⟨same_new hp10 _, upd_same⟩ (fun i H' _ h => SqL.of (h.1 _ _ (S11 _ _ h310))) (fun i x H' H'' hi _ _ => absurd hi (Nat.not_lt_zero _)) ?_
    rintro H12 ⟨S12, h1012⟩
    refine ⟨p9, p10, [], [], rfl, rfl, S12 _ _ h911, h1012, Nat.zero_le _, fun p hp => ?_⟩
    have S13 := S10.trans (S11.trans S12)
    exact q p _ (S13.trans (same_new hp _)) (S13.free hp) upd_same
end
end D0
namespace D0
open PySem PySem.Spec PyProof.Rows L2 SX NumText
/-- the counters and the new addresses of what is placed -/
def cY (ag : Nat → Int) : List Nat → Nat → Nat
  | [], y => y
  | a :: r, y => cY ag r (newY (ag a) y)
def cO (ag : Nat → Int) : List Nat → Nat → Nat
  | [], o => o
  | a :: r, o => cO ag r (newO (ag a) o)
def nws (ag : Nat → Int) : List Nat → Nat → Nat → List Nat
  | [], _, _ => []
  | a :: r, y, o => newA (ag a) y o :: nws ag r (newY (ag a) y) (newO (ag a) o)
theorem cY_app (ag : Nat → Int) : ∀ (a b : List Nat) (y : Nat), cY ag (a ++ b) y = cY ag b (cY ag a y)
  | [], _, _ => rfl
  | _ :: r, b, y => cY_app ag r b _
theorem cO_app (ag : Nat → Int) : ∀ (a b : List Nat) (o : Nat), cO ag (a ++ b) o = cO ag b (cO ag a o)
  | [], _, _ => rfl
  | _ :: r, b, o => cO_app ag r b _
theorem nws_app (ag : Nat → Int) : ∀ (a b : List Nat) (y o : Nat), nws ag (a ++ b) y o = nws ag a y o ++ nws ag b (cY ag a y) (cO ag a o)
  | [], _, _, _ => rfl
  | _ :: r, b, y, o => congrArg _ (nws_app ag r b _ _)
theorem nws_len (ag : Nat → Int) : ∀ (a : List Nat) (y o : Nat), (nws ag a y o).length = a.length
  | [], _, _ => rfl
  | _ :: r, y, o => congrArg Nat.succ (nws_len ag r _ _)
theorem new_cases (i : Int) (y o : Nat) : (newA i y o = 2 * y + 1 ∧ newY i y = y + 1 ∧ newO i o = o) ∨ (newA i y o = 2 * o ∧ newY i y = y ∧ newO i o = o + 1) := by
  unfold newA newY newO
  by_cases c : i = 0
  · rw [if_pos c, if_pos c, if_pos c]; exact .inl ⟨rfl, rfl, rfl⟩
  · rw [if_neg c, if_neg c, if_neg c]; exact .inr ⟨rfl, rfl, rfl⟩
theorem nws_mem {ag : Nat → Int} : ∀ {R : List Nat} {y o b : Nat}, y ≤ cY ag R y ∧ o ≤ cO ag R o ∧ cY ag R y + cO ag R o = y + o + R.length ∧ (b ∈ nws ag R y o ↔ (b % 2 = 1 ∧ 2 * y ≤ b ∧ b < 2 * cY ag R y) ∨ (b % 2 = 0 ∧ 2 * o ≤ b ∧ b < 2 * cO ag R o))
  | [], y, o, b => by
    unfold nws cY cO
    refine ⟨Nat.le_refl _, Nat.le_refl _, rfl, ?_⟩
    constructor
    · intro h; cases h
    · intro h; omega
  | a :: r, y, o, b => by
    obtain ⟨h1, h2, h3, h4⟩ := nws_mem (ag := ag) (R := r) (y := newY (ag a) y) (o := newO (ag a) o) (b := b)
    unfold nws cY cO
    rw [List.mem_cons, h4, List.length_cons]
    have nc := new_cases (ag a) y o
    generalize newA (ag a) y o = a' at nc ⊢
    generalize newY (ag a) y = y' at nc h1 h2 h3 h4 ⊢
    generalize newO (ag a) o = o' at nc h1 h2 h3 h4 ⊢
    clear h4
    rcases nc with ⟨rfl, rfl, rfl⟩ | ⟨rfl, rfl, rfl⟩
    · refine ⟨by omega, by omega, by omega, ?_⟩
      constructor
      · intro h; omega
      · intro h; omega
    · refine ⟨by omega, by omega, by omega, ?_⟩
      constructor
      · intro h; omega
      · intro h; omega
theorem nws_nodup {ag : Nat → Int} : ∀ {R : List Nat} {y o : Nat}, (nws ag R y o).Nodup
  | [], _, _ => List.Pairwise.nil
  | a :: r, y, o => by
    refine List.nodup_cons.mpr ⟨fun h => ?_, nws_nodup⟩
    have h4 := (nws_mem (ag := ag) (R := r) (y := newY (ag a) y) (o := newO (ag a) o) (b := newA (ag a) y o)).2.2.2.mp h
    rcases new_cases (ag a) y o with ⟨e1, e2, e3⟩ | ⟨e1, e2, e3⟩
    · rw [e1, e2, e3] at h4; omega
    · rw [e1, e2, e3] at h4; omega
theorem nws_next {ag : Nat → Int} {R : List Nat} {y o i : Nat} (h : i < R.length) : nws ag (R.take (i + 1)) y o = nws ag (R.take i) y o ++ [newA (ag R[i]) (cY ag (R.take i) y) (cO ag (R.take i) o)] := by
  rw [take_next h, nws_app]; rfl
theorem cY_next {ag : Nat → Int} {R : List Nat} {y i : Nat} (h : i < R.length) : cY ag (R.take (i + 1)) y = newY (ag R[i]) (cY ag (R.take i) y) := by rw [take_next h, cY_app]; rfl
theorem cO_next {ag : Nat → Int} {R : List Nat} {o i : Nat} (h : i < R.length) : cO ag (R.take (i + 1)) o = newO (ag R[i]) (cO ag (R.take i) o) := by rw [take_next h, cO_app]; rfl
/-- where what is reached goes -/
def MM.nw (m : MM) (R : List Nat) : List Nat := nws m.ag R 0 m.on
def gY (m : MM) (R : List Nat) (a : Nat) : Nat := if a ∈ R then (m.nw R).getD (R.idxOf a) 0 else a
def oldY (m : MM) (R : List Nat) (b : Nat) : Nat := if b ∈ m.nw R then R.getD ((m.nw R).idxOf b) 0 else b
theorem nw_len (m : MM) (R : List Nat) : (m.nw R).length = R.length := nws_len ..
theorem nw_at {m : MM} {R : List Nat} {i : Nat} (h : i < R.length) : (m.nw R)[i]'(by rw [nw_len]; exact h) = newA (m.ag R[i]) (cY m.ag (R.take i) 0) (cO m.ag (R.take i) m.on) := by
  have e : m.nw R = nws m.ag (R.take (i + 1)) 0 m.on ++ nws m.ag (R.drop (i + 1)) (cY m.ag (R.take (i + 1)) 0) (cO m.ag (R.take (i + 1)) m.on) := by
    unfold MM.nw; rw [← nws_app, List.take_append_drop]
  have e2 : (m.nw R)[i]? = some (newA (m.ag R[i]) (cY m.ag (R.take i) 0) (cO m.ag (R.take i) m.on)) := by
    have l : (nws m.ag (R.take i) 0 m.on).length = i := by rw [nws_len, List.length_take]; omega
    rw [e, nws_next h, List.append_assoc, List.getElem?_append_right (by omega), l]
    simp
  rw [List.getElem?_eq_getElem (by rw [nw_len]; exact h)] at e2
  exact Option.some.inj e2
theorem gY_at {m : MM} {R : List Nat} (nd : R.Nodup) {i : Nat} (h : i < R.length) : gY m R R[i] = (m.nw R)[i]'(by rw [nw_len]; exact h) := by
  unfold gY
  rw [if_pos (List.getElem_mem h), nd.idxOf_getElem i h, List.getD_eq_getElem?_getD, List.getElem?_eq_getElem (by rw [nw_len]; exact h)]; rfl
theorem oldY_at {m : MM} {R : List Nat} {i : Nat} (h : i < R.length) : oldY m R ((m.nw R)[i]'(by rw [nw_len]; exact h)) = R[i] := by
  unfold oldY
  have nd : (m.nw R).Nodup := nws_nodup
  rw [if_pos (List.getElem_mem _), nd.idxOf_getElem i (by rw [nw_len]; exact h), List.getD_eq_getElem?_getD, List.getElem?_eq_getElem h]; rfl
theorem gY_out {m : MM} {R : List Nat} {a : Nat} (h : a ∉ R) : gY m R a = a := if_neg h
theorem oldY_out {m : MM} {R : List Nat} {b : Nat} (h : b ∉ m.nw R) : oldY m R b = b := if_neg h
theorem nw_in {m : MM} {R : List Nat} {b : Nat} : b ∈ m.nw R ↔ (b % 2 = 1 ∧ b < 2 * cY m.ag R 0) ∨ (b % 2 = 0 ∧ 2 * m.on ≤ b ∧ b < 2 * cO m.ag R m.on) := by
  have h := (nws_mem (ag := m.ag) (R := R) (y := 0) (o := m.on) (b := b)).2.2.2
  unfold MM.nw; rw [h]; constructor <;> intro h <;> omega
theorem gY_mem {m : MM} {R : List Nat} (nd : R.Nodup) {a : Nat} (h : a ∈ R) : gY m R a ∈ m.nw R ∧ oldY m R (gY m R a) = a := by
  obtain ⟨i, hi, rfl⟩ := List.getElem_of_mem h
  rw [gY_at nd hi]
  exact ⟨List.getElem_mem _, oldY_at hi⟩
theorem oldY_mem {m : MM} {R : List Nat} (nd : R.Nodup) {b : Nat} (h : b ∈ m.nw R) : oldY m R b ∈ R ∧ gY m R (oldY m R b) = b := by
  obtain ⟨i, hi, rfl⟩ := List.getElem_of_mem h
  have hi' : i < R.length := by rw [nw_len] at hi; exact hi
  rw [oldY_at hi']
  exact ⟨List.getElem_mem _, gY_at nd hi'⟩
/-- before the readdressing -/
def MM.yg0 (m : MM) (R : List Nat) : MM := ⟨cY m.ag R 0, cO m.ag R m.on, fun b => m.G (oldY m R b), fun b => if b ∈ m.nw R then 1 else m.ag b, []⟩
def MM.ygM (m : MM) (R cs : List Nat) : List Nat := cs.foldl (fun ms b => note b (mvs (gY m R) (m.G (oldY m R b)).row) ms) []
/-- when those of cs are readdressed -/
def MM.ygP (m : MM) (R cs : List Nat) : MM := ⟨cY m.ag R 0, cO m.ag R m.on, fun b => if b ∈ cs then (m.G (oldY m R b)).mv (gY m R) else m.G (oldY m R b), fun b => if b ∈ m.nw R then 1 else m.ag b, m.ygM R cs⟩
/-- behind a young collection -/
def MM.young (m : MM) (R rs : List Nat) : MM := ⟨cY m.ag R 0, cO m.ag R m.on, fun b => (m.G (oldY m R b)).mv (gY m R), fun b => if b ∈ m.nw R then 1 else m.ag b, m.ygM R (rs ++ m.nw R)⟩
theorem MM.yg_dom {m m' : MM} {R : List Nat} (h1 : m'.yn = cY m.ag R 0) (h2 : m'.on = cO m.ag R m.on) {b : Nat} : m'.dom b ↔ b ∈ m.nw R ∨ (b % 2 = 0 ∧ b < 2 * m.on) := by
  have h := (nws_mem (ag := m.ag) (R := R) (y := 0) (o := m.on) (b := b)).2.1
  unfold MM.dom; rw [nw_in, h1, h2]
  constructor <;> intro h <;> omega
section
variable {K : PySem.W.Frag} {C CT : Addr} {H H' : Hp} {B td md : Addr} {L : List Th} {m : MM} {F : List Addr}
/-- things under new addresses, with other ages -/
theorem rekey2 (X : MemL K C CT H B td md L m) {m' : MM} {R : List Nat} {h : Nat → Nat} {ag : Nat → Int} {td' md' dx : Addr} {A : Nat → Th} (hA : ∀ a ∈ R, A a ∈ L ∧ TA m (A a) a) (nd : R.Nodup) (inj : ∀ a ∈ R, ∀ b ∈ R, h a = h b → a = b) (ne : md' ≠ td')
    (cT : ∀ a ∈ R, ∃ dx tv, H' (A a).t = some (.ins CT dx (thF { A a with age := ag a } tv)) ∧ Rep H' tv (A a).tag) (cS : ∀ a ∈ R, ∃ vs, H' (A a).s = some (.lst vs) ∧ Reps H' vs (A a).row)
    (hB : H' B = some (.ins C dx ((fThings, .ref td') :: moreM m' md'))) (hD : H' td' = some (.dK (kvG h (fun a => (A a).t) R))) (hM : H' md' = some (.dK (markK m'.ms)))
    (to : ∀ a ∈ R, m'.dom (h a)) (from_ : ∀ b, m'.dom b → ∃ a ∈ R, h a = b) (g : ∀ a ∈ R, m'.G (h a) = m.G a ∧ m'.ag (h a) = ag a) :
    MemL K C CT H' B td' md' (R.map fun a => { A a with key := ((h a : Nat) : Int), age := ag a }) m' := by
  have mem : ∀ {x : Th}, x ∈ R.map (fun a => { A a with key := ((h a : Nat) : Int), age := ag a }) → ∃ a ∈ R, x = { A a with key := ((h a : Nat) : Int), age := ag a } := fun hx => by
    obtain ⟨a, ha, e⟩ := List.mem_map.mp hx
    exact ⟨a, ha, e.symm⟩
  have same : ∀ a ∈ R, ∀ b ∈ R, (A a).key = (A b).key → a = b := fun a ha b hb e => by
    have h1 := (hA a ha).2.key; have h2 := (hA b hb).2.key; omega
  refine ⟨⟨⟨dx, hB⟩, ?_, fun x hx => ?_, fun x hx => ?_, ?_, fun x hx y hy e => ?_, fun x hx y hy e => ?_⟩, hM, ne, fun x hx => ?_, fun b db => ?_⟩
  · rw [hD]; unfold kvL kvG; rw [List.map_map]; rfl
  · obtain ⟨a, ha, rfl⟩ := mem hx
    exact cT a ha
  · obtain ⟨a, ha, rfl⟩ := mem hx
    exact cS a ha
  · rw [List.map_map]
    refine List.pairwise_map.mpr (List.Pairwise.imp_of_mem (fun {a b} ha hb n z => ?_) nd)
    have z : ((h a : Nat) : Int) = ((h b : Nat) : Int) := z
    exact n (inj a ha b hb (by omega))
  · obtain ⟨a, ha, rfl⟩ := mem hx
    obtain ⟨b, hb, rfl⟩ := mem hy
    rw [same a ha b hb (X.bk.nt _ (hA a ha).1 _ (hA b hb).1 e)]
  · obtain ⟨a, ha, rfl⟩ := mem hx
    obtain ⟨b, hb, rfl⟩ := mem hy
    rw [same a ha b hb (X.bk.ns _ (hA a ha).1 _ (hA b hb).1 e)]
  · obtain ⟨a, ha, rfl⟩ := mem hx
    obtain ⟨t, e1, e2⟩ := (⟨(hA a ha).2, g a ha⟩ : _ ∧ _ ∧ _)
    exact ⟨h a, to a ha, ⟨rfl, by rw [e1]; exact t.kind, by rw [e1]; exact t.tag, by rw [e1]; exact t.row, by rw [e2]⟩⟩
  · obtain ⟨a, ha, rfl⟩ := from_ b db
    obtain ⟨t, e1, e2⟩ := (⟨(hA a ha).2, g a ha⟩ : _ ∧ _ ∧ _)
    exact ⟨_, List.mem_map.mpr ⟨a, ha, rfl⟩, ⟨rfl, by rw [e1]; exact t.kind, by rw [e1]; exact t.tag, by rw [e1]; exact t.row, by rw [e2]⟩⟩
end
theorem dropK_kvL (L : List Th) (k : Int) : dropK (kvL L) (.inl k) = kvL (L.filter fun x => decide (x.key ≠ k)) := by
  unfold dropK kvL
  rw [List.filter_map]
  congr 1
  refine List.filter_congr fun x _ => ?_
  show decide ((Sum.inl x.key : Key) ≠ .inl k) = decide (x.key ≠ k)
  rw [decide_eq_decide]
  exact ⟨fun h z => h (by rw [z]), fun h z => h (Sum.inl.inj z)⟩
end D0
namespace D0
open PySem PySem.Spec PyProof.Rows L2 SX NumText
def spHYg (K : PySem.W.Frag) (C CT : Addr) : Sp := fun vs H Q _ => ∃ (B : Addr) (F : List Addr) (m : MM) (a : Addr) (ws : List V) (es : List Ent), vs = [.ref B, .ref a] ∧ Mem K C CT H B F m ∧ m.ok ∧
  H a = some (.lst ws) ∧ Reps H ws (rowD ixD es) ∧ (∀ e ∈ es, e.okP m.dom) ∧ ∀ t rl rs R F' H', rl.Perm m.ms → rl.Pairwise (· ≤ ·) → rs.Perm m.ms → rs.Pairwise (· ≤ ·) → ReachY m rl es R → Now K C CT H B F (m.young R rs) F' H' → H' t = some (.dK (kvT (gY m R) R)) → H t = none → t ∉ F' → Q (.ref t) H'
/-- what is kept when i young things are deleted -/
def kpt (i : Nat) (x : Th) : Bool := decide (x.key % 2 = 0 ∨ 2 * (i : Int) ≤ x.key)
def evs (L : List Th) : List Th := L.filter fun x => decide (x.key % 2 = 0)
/-- the state of the placing -/
structure PlW (C CT : Addr) (H : Hp) (B td md p c p5 t dx : Addr) (F : List Addr) (m : MM) (R rs : List Nat) (Ev : List Th) (A : Nat → Th) (i : Nat) (H' : Hp) : Prop where
  chg : Chg F H H'
  hB : H' B = some (.ins C dx (mF td md (cY m.ag (R.take i) 0) (cO m.ag (R.take i) m.on)))
  hD : H' td = some (.dK (kvL Ev ++ kvG (gY m R) (fun a => (A a).t) (R.take i)))
  ht : H' t = some (.dK (kvT (gY m R) (R.take i)))
  hp : H' p = some (.lst (ordV ixD R))
  hc : H' c = some (.lst (R.map fun a => V.ref (A a).t))
  h5 : H' p5 = some (.lst (ordV ixD (rs ++ (m.nw R).take i)))
  cT : ∀ a, m.dom a → ∃ dx tv, H' (A a).t = some (.ins CT dx (thF { A a with age := if a ∈ R.take i then 1 else m.ag a } tv)) ∧ Rep H' tv (A a).tag
  cS : ∀ a, m.dom a → ∃ vs, H' (A a).s = some (.lst vs) ∧ Reps H' vs (A a).row
theorem Now.trans {K : PySem.W.Frag} {C CT B : Addr} {H H1 H2 : Hp} {F F1 F2 : List Addr} {m1 m2 : MM} (x : Now K C CT H B F m1 F1 H1) (y : Now K C CT H1 B F1 m2 F2 H2) : Now K C CT H B F m2 F2 H2 :=
  ⟨y.mem, x.chg.trans2 y.chg x.new, fun b hb => by
    rcases y.new b hb with h | h
    · exact x.new b h
    · exact .inr (x.chg.live b h), fun b hb => y.sub b (x.sub b hb)⟩
theorem Now.out {K : PySem.W.Frag} {C CT B : Addr} {H H1 : Hp} {F F1 : List Addr} {m1 : MM} (x : Now K C CT H B F m1 F1 H1) {b : Addr} {o : HO} (h : H b = some o) (n : b ∉ F) : b ∉ F1 ∧ H1 b = some o :=
  ⟨fun z => (x.new b z).elim n (fun k => by rw [h] at k; cases k), x.chg.keep b o n h⟩
theorem Now.congr {K : PySem.W.Frag} {C CT B : Addr} {H H1 : Hp} {F F1 : List Addr} {m m' : MM} (x : Now K C CT H B F m F1 H1) (h : m'.yn = m.yn) (h2 : m'.on = m.on) (h3 : m'.ms = m.ms) (g : ∀ b, m.dom b → m'.G b = m.G b ∧ m'.ag b = m.ag b) : Now K C CT H B F m' F1 H1 := by
  obtain ⟨⟨td, md, L, Y, r⟩, c, n, s⟩ := x
  exact ⟨⟨td, md, L, Y.congr h h2 h3 g, r⟩, c, n, s⟩
theorem ygM_next {m : MM} {R cs : List Nat} {i : Nat} (h : i < cs.length) : m.ygM R (cs.take (i + 1)) = note cs[i] (mvs (gY m R) (m.G (oldY m R cs[i])).row) (m.ygM R (cs.take i)) := by
  unfold MM.ygM; rw [take_next h, List.foldl_append]; rfl
theorem note_len (a : Nat) (es : List Ent) (ms : List Nat) : (note a es ms).length ≤ ms.length + 1 := by
  unfold note put1
  split
  · split
    · omega
    · simp
  · omega
theorem ygM_len {m : MM} {R cs : List Nat} : ∀ i, i ≤ cs.length → (m.ygM R (cs.take i)).length ≤ i
  | 0, _ => by unfold MM.ygM; simp
  | i + 1, h => by
    rw [ygM_next h]
    have := ygM_len (m := m) (R := R) (cs := cs) i (by omega)
    have := note_len cs[i] (mvs (gY m R) (m.G (oldY m R cs[i])).row) (m.ygM R (cs.take i))
    omega
theorem kvG_app (h : Nat → Nat) (tt : Nat → Addr) (a b : List Nat) : kvG h tt (a ++ b) = kvG h tt a ++ kvG h tt b := List.map_append
theorem Mem.congr {K : PySem.W.Frag} {C CT : Addr} {H : Hp} {B : Addr} {F : List Addr} {m m' : MM} (X : Mem K C CT H B F m) (h : m'.yn = m.yn) (h2 : m'.on = m.on) (h3 : m'.ms = m.ms) (g : ∀ b, m.dom b → m'.G b = m.G b ∧ m'.ag b = m.ag b) : Mem K C CT H B F m' := by
  obtain ⟨td, md, L, Y, r⟩ := X
  exact ⟨td, md, L, Y.congr h h2 h3 g, r⟩
theorem not_take {R : List Nat} (nd : R.Nodup) {i : Nat} (hi : i < R.length) : R[i] ∉ R.take i := fun z => by
  obtain ⟨j, hj, e⟩ := List.getElem_of_mem z
  rw [List.getElem_take] at e
  have := (List.getElem_inj nd).mp e
  rw [List.length_take] at hj; omega
section
variable {P : Program} {w : World} {K : PySem.W.Frag} {mg : Str → Option Value} {base : Heap} {C CT : Addr}
theorem ok_Heap_move_young (T : Txt K w mg) (TT : ThT K mg CT) (TB : HeT K mg C) (Ory : OkM P w K mg base C CX0 4 "reached_young" p_Heap_reached_young (spHRY K C CT)) (Orm : OkP P w K mg base C 1 "remembered" (spRemd C))
    (Opl : OkM P w K mg base C CX0 1 "place" p_Heap_place (spHPlace C CT)) (Ord : OkM P w K mg base C CX0 5 "readdress" p_Heap_readdress (spHRead K C CT)) : OkM P w K mg base C CX0 6 "move_young" p_Heap_move_young (spHYg K C CT) := by
  refine TB.g_move_young.ok sc_Heap_move_young (fun vs H Q E h => ?_) (fun f cdv A outer s H vs Q E hr h => ?_)
  · obtain ⟨B, F, m, a, ws, es, rfl, _⟩ := h; rfl
  obtain ⟨B, F, m, a, ws, es, rfl, X, ok, ha, rs, oe, q⟩ := h
  refine ⟨_, (pss_cons (ps_set (i := 2) sc_Heap_move_young.nd rfl (.inl rfl) (pmethE Ory TB.cl hr pass0 (pv 0) (pa_cons (pv 1) pa_nil)))
      (pss_cons (ps_setLc (i := 4) (own := [("address", 3)]) (g := gName 3) (tt := tYes) rfl sc_Heap_move_young.nd rfl rfl rfl (pi_list (pv 2)) (blkOk_by (own := [("address", 3)]) (N := n_Heap_move_young) (sc := defScope s_Heap_move_young) (by decide +kernel)) (fun _ _ _ _ _ => (pg_name (i := 3) sc_Heap_move_young.nd rfl (Or.inl rfl))) (fun _ _ _ _ _ => pts_nil)
      (fun _ _ _ _ _ => (show PE _ _ (tDGet (tFld K (tVar 0) (Str.ofString "things")) (tVar 3)) from (pe_dget (hu_of' hr) (pe_fld (pv 0) rfl) (pv 3) (fun _ _ => rfl)))))
      (pss_cons (ps_set (i := 5) sc_Heap_move_young.nd rfl (.inl rfl) (pprop Orm TB.cl hr (pv 0)))
      (pss_cons (ps_for PassesOwn.never rfl (pi_range1 rfl T.z_range (pa_cons (pe_fld (pv 0) rfl) pa_nil)) (pg_name (i := 6) sc_Heap_move_young.nd rfl (Or.inl rfl)) (pss_one (ps_ddel (pe_fld (pv 0) rfl) (pe_op op_add (pe_op op_mul pe_int (pv 6)) pe_int))))
      (pss_cons (ps_fld (pv 0) pe_int rfl)
      (pss_cons (ps_set (i := 7) sc_Heap_move_young.nd rfl (.inl rfl) pe_dnewK)
      (pss_cons (ps_for PassesOwn.never rfl (pi_zip rfl T.z_zip (pa_cons (pv 2) (pa_cons (pv 4) pa_nil))) (pg_tup rfl (pgs_cons (pg_name (i := 3) sc_Heap_move_young.nd rfl (Or.inl rfl)) (pgs_cons (pg_name (i := 8) sc_Heap_move_young.nd rfl (Or.inl rfl)) pgs_nil)))
      (pss_cons (ps_dput (hu_of' hr) (pv 7) (pv 3) (pmethE Opl TB.cl hr pass0 (pv 0) (pa_cons (pv 8) pa_nil)) rfl)
      (pss_one (ps_expr (pe_bm PySem.F.plainAttrs_list PySem.F.slot_list_append PySem.F.type_list_append mt_append (pv 5) (pa_cons (pe_dget (hu_of' hr) (pv 7) (pv 3) (fun _ _ => rfl)) pa_nil))))))
      (pss_cons (ps_fld (pv 0) pe_dnewK rfl)
      (pss_cons (ps_for PassesOwn.never rfl (pi_list (pv 5)) (pg_name (i := 3) sc_Heap_move_young.nd rfl (Or.inl rfl)) (pss_one (ps_expr (pmethE Ord TB.cl hr pass0 (pv 0) (pa_cons (pv 3) (pa_cons (pv 7) pa_nil))))))
      (pss_one (ps_ret (pv 7)))))))))))), ?_⟩
  have lim := lim4
  have X0 := X
  obtain ⟨td, md, L, Y, hF, hmF, lv⟩ := X
  obtain ⟨dx0, hB0⟩ := Y.bk.hB
  have Z := On.self ok
  obtain ⟨A, hA⟩ := Y.pick
  have nF : ∀ b, H b = none → b ∉ F := fun b h => X0.fresh h
  have mle := ok.le
  refine ⟨_, rfl, B, dx0, _, rfl, hB0, rfl, _, rfl, B, F, m, a, ws, es, rfl, X0, ok, ha, rs, oe, fun p rl R H1 perm srt eR s1 fp hp => ?_⟩
  have rdom : ∀ b ∈ rl, m.dom b := fun b hb => ok.mkdom (perm.mem_iff.mp hb)
  have top := ryTop_ok (U := m.dom) (G := m.G) oe rl fun b hb => ok.clo b (rdom b hb)
  have CL := Bf.cl (U := fun a => m.dom a ∧ a % 2 = 1) (sc := scY m.G) (fun x hx y hy => ⟨yt_dom (ok.clo x hx.1) y hy, (mem_yt.mp hy).2⟩) eR top.1 top.2 (fun j x hj => absurd hj (Nat.not_lt_zero j))
  have lR := nodup_le m.top CL.nd fun y hy => Z.lt y (CL.dom y hy).1
  have lT := Z.le
  have lms : m.ms.length ≤ m.top := nodup_le m.top ok.mkn fun y hy => Z.lt y (ok.mkdom hy)
  -- copied
  refine ⟨_, rfl, p, rfl, ⟨_, SqL.of hp⟩, fun c hc => ?_⟩
  have tA : ∀ {x : Th} {b : Nat}, x ∈ L → TA m x b → m.dom b → x = A b := fun {x b} hx t d => key_inj Y.bk.nk hx (hA b d).1 (by rw [t.key, (hA b d).2.key])
  refine lc_it (walk_list (xs := ordV ixD R)) (fun i H' => Same H1 H' ∧ H' c = some (.lst ((R.take i).map fun a => V.ref (A a).t))) ⟨same_new hc _, upd_same⟩ (fun i H' _ h => SqL.of (h.1 _ _ hp)) ?_ ?_
  · rintro i x H2 H3 hi ⟨s2, h2⟩ ⟨rfl, hx⟩
    rw [ordV_len] at hi
    unfold ordV at hx
    rw [List.getElem?_map, List.getElem?_eq_getElem hi] at hx
    have hx := Option.some.inj hx
    subst hx
    have d := (CL.dom _ (List.getElem_mem hi)).1
    obtain ⟨x, hxL, t, dx, dx2, tv, us, hB, hg, _⟩ := (Y.same (s1.trans s2)).look d
    refine ⟨rfl, iteT (B := True) (iteT ?_)⟩
    refine ⟨_, rfl, B, C, dx, _, .ref td, rfl, hB, TB.cl, TB.n_things, rfl, _, rfl, td, _, rfl, hg, ?_⟩
    refine ⟨_, h2, by rw [List.length_map, List.length_take]; omega, same_grow s2 hc, ?_⟩
    rw [upd_same, take_next hi, List.map_append, tA hxL t d]; rfl
  rintro H2 ⟨s2, hc2⟩
  rw [ordV_len, List.take_length] at hc2
  have S2 := s1.trans s2
  have hp2 := s2 _ _ hp
  have fc : H c = none := s1.free hc
  -- changed
  have Y2 := Y.same S2
  obtain ⟨dx, hB2⟩ := Y2.bk.hB
  refine ⟨_, rfl, B, dx, _, rfl, hB2, B, dx, td, md, _, _, m.ms, rfl, hB2, Y2.hM, fun r5 p5 H3 perm5 srt5 s3 fp5 hp5 => ?_⟩
  have S3 := S2.trans s3
  have hp3 := s3 _ _ hp2
  have hc3 := s3 _ _ hc2
  have f5 : H p5 = none := S2.free fp5
  have Y3 := Y.same S3
  obtain ⟨dx3, hB3⟩ := Y3.bk.hB
  -- deletes
  refine ⟨_, rfl, B, C, dx3, _, .int (m.yn : Nat), rfl, hB3, TB.cl, TB.n_young_many, rfl, _, rfl, by omega, by omega, ?_⟩
  have tdF : td ∈ F := hF _ (by simp [FB])
  have BF : B ∈ F := hF _ (by simp [FB])
  have ntB : td ≠ B := ne_ob Y.bk.hD hB0 (fun z => by cases z)
  refine for_it (walk_range (lo := 0) (n := m.yn)) (fun i σ H' => ∃ o6, σ = [some (.ref B), some (.ref a), some (.ref p), none, some (.ref c), some (.ref p5), o6, none, none] ∧ Chg [td] H3 H' ∧ H' td = some (.dK (kvL (L.filter (kpt i))))) ⟨none, rfl, .refl, ?_⟩ (fun _ _ _ _ _ => trivial) ?_ ?_
  · rw [Y3.bk.hD, List.filter_eq_self.mpr fun x hx => ?_]
    obtain ⟨b, _, tb⟩ := Y.to x hx
    unfold kpt; rw [tb.key]; exact decide_eq_true (by omega)
  · rintro i x σ H4 H5 hi ⟨o6, rfl, c4, h4⟩ ⟨rfl, rfl⟩
    have hB4 := c4.keep B _ (by simp [Ne.symm ntB]) hB3
    have d1 : m.dom (2 * i + 1) := .inl ⟨by omega, by omega⟩
    obtain ⟨x, hxL, t⟩ := Y.from_ _ d1
    have ek : (2 * (0 + (i : Int)) + 1 : Int) = x.key := by rw [t.key]; omega
    refine ⟨_, rfl, B, C, dx3, _, .ref td, rfl, hB4, TB.cl, TB.n_things, rfl, _, rfl, _, _, rfl, rfl, .inl ⟨by decide, by decide⟩, _, _, rfl, rfl, td, _, .inl (2 * (0 + (i : Int)) + 1), rfl, h4, rfl, ?_, ?_⟩
    · rw [ek, kvL_get ((Y.bk.nk.sublist ((List.filter_sublist).map Th.key))) (List.mem_filter.mpr ⟨hxL, by unfold kpt; rw [← ek]; exact decide_eq_true (by omega)⟩)]; rfl
    · refine ⟨_, rfl, c4.trans (.upd h4 (fun _ z => by cases z) (List.mem_singleton_self _)), ?_⟩
      rw [upd_same, dropK_kvL, List.filter_filter]
      congr 3
      refine List.filter_congr fun y _ => ?_
      unfold kpt
      rw [Bool.eq_iff_iff, Bool.and_eq_true, decide_eq_true_iff, decide_eq_true_iff, decide_eq_true_iff]
      omega
  rintro σ H4 ⟨o6, rfl, c4, h4⟩
  have eEv : L.filter (kpt m.yn) = evs L := List.filter_congr fun x hx => by
    obtain ⟨b, db, tb⟩ := Y.to x hx
    unfold kpt
    rw [decide_eq_decide, tb.key]
    rcases db with d | d <;> omega
  rw [eEv] at h4
  have hB4 : H4 B = some (.ins C dx3 (mF td md m.yn m.on)) := c4.keep B _ (by simp [Ne.symm ntB]) hB3
  refine ⟨_, rfl, B, C, dx3, _, rfl, hB4, TB.cl, TB.n_young_many, (by show 4 < 1000; decide), ?_⟩
  rw [show putF (Str.ofString "young_many") (V.int 0) (mF td md m.yn m.on) = mF td md 0 m.on from pf_ym ..]
  intro t ht
  have c5 : Chg F H (upd (upd H4 B (.ins C dx3 (mF td md 0 m.on))) t (.dK [])) := (((Chg.same S3).trans (c4.mono (fun b hb => by rw [List.mem_singleton.mp hb]; exact tdF))).trans (.upd hB4 (fun _ z => by cases z) BF)).trans (.new ht)
  have ft : H t = none := (((Chg.same S3).trans (c4.mono (G := F) (fun b hb => by rw [List.mem_singleton.mp hb]; exact tdF))).trans (.upd hB4 (fun _ z => by cases z) BF)).live t ht
  have kp6 : ∀ {b : Addr} {o : HO}, b ≠ td → b ≠ B → H3 b = some o → upd (upd H4 B (.ins C dx3 (mF td md 0 m.on))) t (.dK []) b = some o := fun {b o} n1 n2 h => by
    have h' : upd H4 B (.ins C dx3 (mF td md 0 m.on)) b = some o := by rw [upd_ne n2]; exact c4.keep b o (by simp [n1]) h
    rw [upd_ne (ne_of_none h' ht)]; exact h'
  have nt1 : t ≠ td := fun z => by rw [z, upd_ne ntB, h4] at ht; cases ht
  have nt2 : t ≠ B := fun z => by rw [z, upd_same] at ht; cases ht
  have nn : ∀ b, H b = none → b ≠ td ∧ b ≠ B := fun b h => ⟨fun z => nF b h (by rw [z]; exact tdF), fun z => nF b h (by rw [z]; exact BF)⟩
  have hp6 := kp6 (nn p fp).1 (nn p fp).2 hp3
  have hc6 := kp6 (nn c fc).1 (nn c fc).2 hc3
  have h56 := kp6 (nn p5 f5).1 (nn p5 f5).2 hp5
  have hB6 : upd (upd H4 B (.ins C dx3 (mF td md 0 m.on))) t (.dK []) B = some (.ins C dx3 (mF td md 0 m.on)) := by rw [upd_ne (Ne.symm nt2), upd_same]
  have hD6 : upd (upd H4 B (.ins C dx3 (mF td md 0 m.on))) t (.dK []) td = some (.dK (kvL (evs L))) := by rw [upd_ne (Ne.symm nt1), upd_ne ntB]; exact h4
  have ht6 : upd (upd H4 B (.ins C dx3 (mF td md 0 m.on))) t (.dK []) t = some (.dK []) := upd_same
  generalize upd (upd H4 B (.ins C dx3 (mF td md 0 m.on))) t (.dK []) = H6 at c5 kp6 hp6 hc6 h56 hB6 hD6 ht6 ⊢
  have nAt : ∀ b, m.dom b → (A b).t ≠ td ∧ (A b).t ≠ B := fun b d => by
    obtain ⟨dxx, tvx, g, _⟩ := Y.bk.hT _ (hA b d).1
    exact ⟨ne_ob g Y.bk.hD (fun z => by cases z), ne_ob g hB0 (fun z => (ins_ne (td := td) (more := moreM m md) (C := C) (dx := dx0) (x := A b) (fs := [])) z.symm)⟩
  refine ⟨_, rfl, _, rfl, p, c, _, _, rfl, SqL.of hp6, SqL.of hc6, ?_⟩
  refine for_it (walk_zip (xs := ordV ixD R) (ys := R.map fun a => V.ref (A a).t) (n := R.length) (by rw [ordV_len, List.length_map, Nat.min_self])) (fun i σ H' => ∃ o3 o8, σ = [some (.ref B), some (.ref a), some (.ref p), o3, some (.ref c), some (.ref p5), o6, some (.ref t), o8] ∧ PlW C CT H B td md p c p5 t dx3 F m R r5 (evs L) A i H')
    ⟨_, _, rfl, c5, hB6, by rw [hD6]; exact congrArg (fun l => some (HO.dK l)) (List.append_nil _).symm, by rw [ht6]; rfl, hp6, hc6, by rw [h56, List.take_zero, List.append_nil], fun b d => ?_, fun b d => ?_⟩ (fun i σ H' _ h => by obtain ⟨_, _, _, W⟩ := h; exact ⟨SqL.of W.hp, SqL.of W.hc⟩) ?_ ?_
  · obtain ⟨dxx, tvx, g, r⟩ := Y.bk.hT _ (hA b d).1
    refine ⟨dxx, tvx, ?_, r.mono c5.tups⟩
    have ea : (if b ∈ R.take 0 then (1 : Int) else m.ag b) = (A b).age := by rw [if_neg (by simp)]; exact (hA b d).2.age.symm
    rw [ea]
    exact kp6 (nAt b d).1 (nAt b d).2 (S3 _ _ g)
  · obtain ⟨vs, g, r⟩ := Y.bk.hS _ (hA b d).1
    exact ⟨vs, kp6 (ne_ob g Y.bk.hD (fun z => by cases z)) (ne_ob g hB0 (fun z => by cases z)) (S3 _ _ g), r.mono c5.tups⟩
  · rintro i x σ H7 H8 hi ⟨o3, o8, rfl, W⟩ ⟨T0, x0, y0, rfl, hT0, rfl, e1, e2⟩
    obtain ⟨c7, hB7, hD7, ht7, hp7, hc7, h57, cT7, cS7⟩ := W
    have e1 : (R.map fun a => V.int (ixD a))[i]? = some x0 := e1
    have e2 : (R.map fun a => V.ref (A a).t)[i]? = some y0 := e2
    rw [List.getElem?_map, List.getElem?_eq_getElem hi] at e1
    rw [List.getElem?_map, List.getElem?_eq_getElem hi] at e2
    have e1 := Option.some.inj e1
    have e2 := Option.some.inj e2
    subst e1; subst e2
    have s8 := same_new hT0 (.tup [V.int (ixD R[i]), V.ref (A R[i]).t])
    refine ⟨T0, _, rfl, SqT.of upd_same, rfl, _, _, rfl, _, _, rfl, rfl, ?_⟩
    have nm := not_take CL.nd hi
    obtain ⟨dR, oR⟩ := CL.dom _ (List.getElem_mem hi)
    obtain ⟨dx2, tv, hx7, rx7⟩ := cT7 _ dR
    have gi : gY m R R[i] = newA (m.ag R[i]) (cY m.ag (R.take i) 0) (cO m.ag (R.take i) m.on) := by rw [gY_at CL.nd hi, nw_at hi]
    obtain ⟨x, hx⟩ : ∃ x : Th, x = { A R[i] with age := if R[i] ∈ R.take i then 1 else m.ag R[i] } := ⟨_, rfl⟩
    have x1 : x.t = (A R[i]).t := by rw [hx]
    have x2 : x.age = m.ag R[i] := by rw [hx]; exact if_neg nm
    rw [← hx, ← x1] at hx7
    have hx8 := s8 _ _ hx7
    have hB8 := s8 _ _ hB7
    have hD8 := s8 _ _ hD7
    have ht8 := s8 _ _ ht7
    have h58 := s8 _ _ h57
    generalize upd H7 T0 (.tup [V.int (ixD R[i]), V.ref (A R[i]).t]) = H8 at s8 hx8 hB8 hD8 ht8 h58 ⊢
    have lE : (evs L).length ≤ 4000 := by
      have := Y.len
      have := List.length_filter_le (fun x : Th => decide (x.key % 2 = 0)) L
      unfold evs; omega
    have nwi : gY m R R[i] ∈ m.nw R := (gY_mem CL.nd (List.getElem_mem hi)).1
    have hkey : ∀ y ∈ evs L, y.key ≠ ((gY m R R[i] : Nat) : Int) := fun y hy e => by
      obtain ⟨hyL, hye⟩ := List.mem_filter.mp hy
      have hye := of_decide_eq_true hye
      obtain ⟨b, db, tb⟩ := Y.to y hyL
      rw [tb.key] at e hye
      have := nw_in.mp nwi
      rcases db with d | d <;> omega
    have hkv : ∀ b ∈ R.take i, gY m R b ≠ gY m R R[i] := fun b hb e => by
      have h1 := (gY_mem (m := m) CL.nd (List.mem_of_mem_take hb)).2
      rw [e, (gY_mem (m := m) CL.nd (List.getElem_mem hi)).2] at h1
      exact nm (by rw [h1]; exact hb)
    have hput : putK (kvL (evs L) ++ kvG (gY m R) (fun a => (A a).t) (R.take i)) (.inl ((gY m R R[i] : Nat) : Int)) (.ref (A R[i]).t) = kvL (evs L) ++ kvG (gY m R) (fun a => (A a).t) (R.take (i + 1)) := by
      rw [take_next hi, kvG_app, ← List.append_assoc]
      unfold putK
      rw [if_neg]
      · rfl
      · intro z
        obtain ⟨kv, h1, h2⟩ := List.any_eq_true.mp z
        have h2 := of_decide_eq_true h2
        rcases List.mem_append.mp h1 with h1 | h1
        · obtain ⟨y, hy, rfl⟩ := List.mem_map.mp h1
          exact hkey y hy (Sum.inl.inj h2)
        · obtain ⟨b, hb, rfl⟩ := List.mem_map.mp h1
          exact hkv b hb (by have := Sum.inl.inj h2; omega)
    refine ⟨_, rfl, B, dx3, _, rfl, hB8, rfl, _, rfl, B, dx3, td, md, dx2, _, _, _, x, tv, by rw [x1]; rfl, hB8, hD8, by rw [List.length_append, kvL_len, kvG_len, List.length_take]; omega, hx8, fun H9 hB9 hD9 hx9 c9 => ?_⟩
    rw [x2] at hB9 hD9
    rw [← gi, x1, hput] at hD9
    rw [x2, ← gi]
    have xF : ∀ b, m.dom b → (A b).t ∈ F ∧ (A b).s ∈ F := fun b d => ⟨hF _ (fb_t (hA b d).1), hF _ (fb_s (hA b d).1)⟩
    have tF : t ∉ F := nF t ft
    have p5F : p5 ∉ F := nF p5 f5
    have inE : ∀ b ∈ [B, td, x.t], b ∈ F := fun b hb => by
      simp at hb
      rcases hb with rfl | rfl | rfl
      · exact BF
      · exact tdF
      · rw [x1]; exact (xF _ dR).1
    have ht9 := c9.keep t _ (fun z => tF (inE t z)) ht8
    have h59 := c9.keep p5 _ (fun z => p5F (inE p5 z)) h58
    refine ⟨_, rfl, _, rfl, t, _, rfl, .inl ⟨_, .inl (R[i] : Int), ht9, rfl, by rw [kvT_len, List.length_take]; omega, rfl⟩, ?_⟩
    rw [kvT_put nm, ← take_next hi]
    have nt5 : t ≠ p5 := ne_ob ht9 h59 (fun z => by cases z)
    have h510 : upd H9 t (.dK (kvT (gY m R) (R.take (i + 1)))) p5 = some (.lst (ordV ixD (r5 ++ (m.nw R).take i))) := by rw [upd_ne (Ne.symm nt5)]; exact h59
    have hg : DGet (upd H9 t (.dK (kvT (gY m R) (R.take (i + 1))))) t (.int (R[i] : Int)) (some (.int ((gY m R R[i] : Nat) : Int))) := by
      have := DGet.k (k := Sum.inl (R[i] : Int)) (upd_same (H := H9) (a := t) (o := HO.dK (kvT (gY m R) (R.take (i + 1)))))
      rw [kvT_get, if_pos (by rw [take_next hi]; exact List.mem_append_right _ (List.mem_singleton_self _))] at this
      exact this
    refine ⟨_, rfl, .inl ⟨rfl, _, SqL.of h510⟩, _, rfl, _, rfl, t, _, rfl, hg, p5, _, _, rfl, rfl, h510, by rw [ordV_len, List.length_append, List.length_take, perm5.length_eq]; omega, ?_⟩
    have hi' : i < (m.nw R).length := by rw [nw_len]; exact hi
    have e5 : ordV ixD (r5 ++ (m.nw R).take i) ++ [V.int ((gY m R R[i] : Nat) : Int)] = ordV ixD (r5 ++ (m.nw R).take (i + 1)) := by
      rw [take_next hi', ← List.append_assoc, ordV_app ixD (r5 ++ (m.nw R).take i), ← gY_at CL.nd hi]; rfl
    rw [e5]
    have k11 : ∀ {b : Addr} {o : HO}, b ≠ t → b ≠ p5 → H9 b = some o → upd (upd H9 t (.dK (kvT (gY m R) (R.take (i + 1))))) p5 (.lst (ordV ixD (r5 ++ (m.nw R).take (i + 1)))) b = some o := fun n1 n2 h => by rw [upd_ne n2, upd_ne n1]; exact h
    have c9' : Chg F H H9 := (c7.trans (.same s8)).trans (c9.mono inE)
    have c10 : Chg F H (upd H9 t (.dK (kvT (gY m R) (R.take (i + 1))))) := c9'.trans2 (Chg.upd (F := [t]) ht9 (fun _ z => by cases z) (List.mem_singleton_self _)) (fun b hb => .inr (by rw [List.mem_singleton.mp hb]; exact ft))
    have c11 : Chg F H (upd (upd H9 t (.dK (kvT (gY m R) (R.take (i + 1))))) p5 (.lst (ordV ixD (r5 ++ (m.nw R).take (i + 1))))) := c10.trans2 (Chg.upd (F := [p5]) h510 (fun _ z => by cases z) (List.mem_singleton_self _)) (fun b hb => .inr (by rw [List.mem_singleton.mp hb]; exact f5))
    have t11 : Tups H8 (upd (upd H9 t (.dK (kvT (gY m R) (R.take (i + 1))))) p5 (.lst (ordV ixD (r5 ++ (m.nw R).take (i + 1))))) := c9.tups.trans ((Tups.at ht9 (fun _ z => by cases z)).trans (.at h510 (fun _ z => by cases z)))
    have nFt : ∀ b ∈ F, b ≠ t := fun b hb z => tF (by rw [← z]; exact hb)
    have nF5 : ∀ b ∈ F, b ≠ p5 := fun b hb z => p5F (by rw [← z]; exact hb)
    have tk := take_next hi
    have off : ∀ b, H b = none → b ∉ [B, td, x.t] := fun b h z => nF b h (inE b z)
    refine ⟨_, _, rfl, ⟨c11, ?_, k11 (nFt td tdF) (nF5 td tdF) hD9, ?_, ?_, ?_, upd_same, fun b d => ?_, fun b d => ?_⟩⟩
    · rw [cY_next hi, cO_next hi]; exact k11 (nFt B BF) (nF5 B BF) hB9
    · rw [upd_ne nt5, upd_same]
    · exact k11 (ne_ob hp7 ht7 (fun z => by cases z)) (ne_of_none hp2 fp5) (c9.keep p _ (off p fp) (s8 _ _ hp7))
    · exact k11 (ne_ob hc7 ht7 (fun z => by cases z)) (ne_of_none hc2 fp5) (c9.keep c _ (off c fc) (s8 _ _ hc7))
    · by_cases e : b = R[i]
      · subst e
        refine ⟨dx2, tv, ?_, ?_⟩
        · rw [if_pos (by rw [tk]; exact List.mem_append_right _ (List.mem_singleton_self _))]
          have : thF { x with age := 1 } tv = thF { A R[i] with age := 1 } tv := by rw [hx]
          rw [← this]
          exact k11 (nFt _ (xF _ dR).1) (nF5 _ (xF _ dR).1) (by rw [← x1]; exact hx9)
        · exact (rx7.mono (.same s8)).mono t11
      · obtain ⟨dxb, tvb, g, r⟩ := cT7 b d
        refine ⟨dxb, tvb, ?_, (r.mono (.same s8)).mono t11⟩
        have ea : (if b ∈ R.take (i + 1) then (1 : Int) else m.ag b) = if b ∈ R.take i then 1 else m.ag b := by
          by_cases c : b ∈ R.take i
          · rw [if_pos c, if_pos (by rw [tk]; exact List.mem_append_left _ c)]
          · rw [if_neg c, if_neg (by rw [tk]; exact fun z => (List.mem_append.mp z).elim c fun q => e (List.mem_singleton.mp q))]
        rw [ea]
        refine k11 (nFt _ (xF b d).1) (nF5 _ (xF b d).1) (c9.keep _ _ (fun z => ?_) (s8 _ _ g))
        simp at z
        rcases z with z | z | z
        · exact (nAt b d).2 z
        · exact (nAt b d).1 z
        · rw [x1] at z
          have := Y.bk.nt _ (hA b d).1 _ (hA _ dR).1 z
          have h1 := (hA b d).2.key; have h2 := (hA _ dR).2.key
          exact e (by omega)
    · obtain ⟨vs, g, r⟩ := cS7 b d
      refine ⟨vs, k11 (nFt _ (xF b d).2) (nF5 _ (xF b d).2) (c9.keep _ _ (fun z => ?_) (s8 _ _ g)), (r.mono (.same s8)).mono t11⟩
      simp at z
      rcases z with z | z | z
      · rw [z, hB7] at g; cases g
      · rw [z, hD7] at g; cases g
      · rw [z, hx7] at g; cases g
  rintro σ H7 ⟨o3, o8, rfl, W⟩
  have W := W
  obtain ⟨c7, hB7, hD7, ht7, hp7, hc7, h57, cT7, cS7⟩ := W
  rw [List.take_length] at hB7 hD7 ht7
  have ln := nw_len m R
  rw [show (m.nw R).take R.length = m.nw R by rw [← ln, List.take_length]] at h57
  intro md' hmd'
  have fmd : H md' = none := c7.live _ hmd'
  have nmB : B ≠ md' := ne_of_none hB7 hmd'
  refine ⟨_, rfl, B, C, dx3, _, rfl, (by rw [upd_ne nmB]; exact hB7), TB.cl, TB.n_marked, (by show 4 < 1000; decide), ?_⟩
  rw [show putF (Str.ofString "marked") (V.ref md') (mF td md (cY m.ag R 0) (cO m.ag R m.on)) = mF td md' (cY m.ag R 0) (cO m.ag R m.on) from pf_mk ..]
  have tF : t ∉ F := nF t ft
  have p5F : p5 ∉ F := nF p5 f5
  have xF : ∀ b, m.dom b → (A b).t ∈ F ∧ (A b).s ∈ F := fun b d => ⟨hF _ (fb_t (hA b d).1), hF _ (fb_s (hA b d).1)⟩
  have c9 : Chg F H (upd (upd H7 md' (.dK [])) B (.ins C dx3 (mF td md' (cY m.ag R 0) (cO m.ag R m.on)))) := (c7.trans (.new hmd')).trans (.upd (o := .ins C dx3 (mF td md (cY m.ag R 0) (cO m.ag R m.on))) (by rw [upd_ne nmB]; exact hB7) (fun _ z => by cases z) BF)
  have t9 : Tups H7 (upd (upd H7 md' (.dK [])) B (.ins C dx3 (mF td md' (cY m.ag R 0) (cO m.ag R m.on)))) := (Tups.new hmd').trans (.at (o := .ins C dx3 (mF td md (cY m.ag R 0) (cO m.ag R m.on))) (by rw [upd_ne nmB]; exact hB7) (fun _ z => by cases z))
  have k9 : ∀ {b : Addr} {o : HO}, b ≠ B → H7 b = some o → upd (upd H7 md' (.dK [])) B (.ins C dx3 (mF td md' (cY m.ag R 0) (cO m.ag R m.on))) b = some o := fun n h => by rw [upd_ne n, upd_ne (ne_of_none h hmd')]; exact h
  have hB9 : upd (upd H7 md' (.dK [])) B (.ins C dx3 (mF td md' (cY m.ag R 0) (cO m.ag R m.on))) B = some (.ins C dx3 (mF td md' (cY m.ag R 0) (cO m.ag R m.on))) := upd_same
  have hM9 : upd (upd H7 md' (.dK [])) B (.ins C dx3 (mF td md' (cY m.ag R 0) (cO m.ag R m.on))) md' = some (.dK []) := by rw [upd_ne (Ne.symm nmB), upd_same]
  have hD9 := k9 ntB hD7
  have ht9 := k9 (nn t ft).2 ht7
  have h59 := k9 (nn p5 f5).2 h57
  have nmd : md' ≠ td := fun z => by rw [z, hD7] at hmd'; cases hmd'
  have nmt : md' ≠ t := fun z => by rw [z, ht7] at hmd'; cases hmd'
  have nm5 : md' ≠ p5 := fun z => by rw [z, h57] at hmd'; cases hmd'
  generalize upd (upd H7 md' (.dK [])) B (.ins C dx3 (mF td md' (cY m.ag R 0) (cO m.ag R m.on))) = H9 at c9 t9 k9 hB9 hM9 hD9 ht9 h59 ⊢
  -- the things under their new addresses
  obtain ⟨D, eD⟩ : ∃ D, D = (evs L).map (fun x => x.key.toNat) ++ R := ⟨_, rfl⟩
  have inEv : ∀ b, b ∈ (evs L).map (fun x => x.key.toNat) ↔ b % 2 = 0 ∧ b < 2 * m.on := fun b => by
    constructor
    · intro h
      obtain ⟨x, hx, rfl⟩ := List.mem_map.mp h
      obtain ⟨hxL, he⟩ := List.mem_filter.mp hx
      have he := of_decide_eq_true he
      obtain ⟨b, db, tb⟩ := Y.to x hxL
      rw [tb.key] at he ⊢
      rcases db with d | d <;> simp <;> omega
    · intro h
      obtain ⟨x, hx, tb⟩ := Y.from_ b (.inr h)
      exact List.mem_map.mpr ⟨x, List.mem_filter.mpr ⟨hx, decide_eq_true (by rw [tb.key]; omega)⟩, by rw [tb.key]; rfl⟩
  have inD : ∀ b, b ∈ D ↔ (b % 2 = 0 ∧ b < 2 * m.on) ∨ b ∈ R := fun b => by rw [eD, List.mem_append, inEv]
  have Rodd : ∀ b ∈ R, m.dom b ∧ b % 2 = 1 := CL.dom
  have dD : ∀ b ∈ D, m.dom b := fun b hb => ((inD b).mp hb).elim .inr fun h => (Rodd b h).1
  have evR : ∀ b, b % 2 = 0 → b ∉ R := fun b e h => by have := (Rodd b h).2; omega
  have evN : ∀ b, b % 2 = 0 ∧ b < 2 * m.on → b ∉ m.nw R := fun b e h => by have := nw_in.mp h; omega
  have ndD : D.Nodup := by
    rw [eD]
    refine List.nodup_append.mpr ⟨nodup_int (l := (evs L).map Th.key) (Y.bk.nk.sublist ((List.filter_sublist).map Th.key)) ?_ |> fun h => by rw [List.map_map] at h; exact h, CL.nd, fun b hb c hc e => ?_⟩
    · intro k hk
      obtain ⟨x, hx, rfl⟩ := List.mem_map.mp hk
      obtain ⟨b, _, tb⟩ := Y.to x (List.mem_filter.mp hx).1
      exact ⟨b, tb.key⟩
    · subst e
      exact evR b ((inEv b).mp hb).1 hc
  have gD : ∀ b ∈ D, (b ∈ R ∧ gY m R b ∈ m.nw R ∧ oldY m R (gY m R b) = b) ∨ ((b % 2 = 0 ∧ b < 2 * m.on) ∧ b ∉ R ∧ gY m R b = b) := fun b hb => by
    rcases (inD b).mp hb with h | h
    · exact .inr ⟨h, evR b h.1, gY_out (evR b h.1)⟩
    · exact .inl ⟨h, gY_mem CL.nd h⟩
  have eDk : kvL (evs L) ++ kvG (gY m R) (fun a => (A a).t) R = kvG (gY m R) (fun a => (A a).t) D := by
    rw [eD, kvG_app]
    congr 1
    unfold kvL kvG
    rw [List.map_map]
    refine List.map_congr_left fun x hx => ?_
    obtain ⟨hxL, he⟩ := List.mem_filter.mp hx
    have he := of_decide_eq_true he
    obtain ⟨b, db, tb⟩ := Y.to x hxL
    have e1 : x.key.toNat = b := by rw [tb.key]; rfl
    show ((.inl x.key : Key), V.ref x.t) = (.inl ((gY m R x.key.toNat : Nat) : Int), V.ref (A x.key.toNat).t)
    rw [e1, gY_out (evR b (by rw [tb.key] at he; omega)), ← tA hxL tb db, tb.key]
  rw [eDk] at hD9
  have Y9 := rekey2 (m' := m.yg0 R) (h := gY m R) (A := A) (ag := fun b => if b ∈ R then 1 else m.ag b) (R := D) (md' := md') (td' := td) Y (fun b hb => hA b (dD b hb)) ndD (fun b hb c hc e => by
      rcases gD b hb with ⟨h1, h2, h3⟩ | ⟨h1, h2, h3⟩ <;> rcases gD c hc with ⟨k1, k2, k3⟩ | ⟨k1, k2, k3⟩
      · rw [← h3, ← k3, e]
      · rw [e, k3] at h2; exact absurd h2 (evN c k1)
      · rw [← e, h3] at k2; exact absurd k2 (evN b h1)
      · rw [← h3, ← k3]; exact e) nmd (fun b hb => by
      obtain ⟨dxb, tvb, g, r⟩ := cT7 b (dD b hb)
      rw [List.take_length] at g
      exact ⟨dxb, tvb, k9 (nAt b (dD b hb)).2 g, r.mono t9⟩) (fun b hb => by
      obtain ⟨vs, g, r⟩ := cS7 b (dD b hb)
      exact ⟨vs, k9 (fun z => by rw [z, hB7] at g; cases g) g, r.mono t9⟩) hB9 hD9 hM9 (fun b hb => by
      rcases gD b hb with ⟨h1, h2, h3⟩ | ⟨h1, h2, h3⟩
      · exact (MM.yg_dom rfl rfl).mpr (.inl h2)
      · rw [h3]; exact (MM.yg_dom rfl rfl).mpr (.inr h1)) (fun b db => by
      rcases (MM.yg_dom rfl rfl).mp db with h | h
      · exact ⟨oldY m R b, (inD _).mpr (.inr (oldY_mem CL.nd h).1), (oldY_mem CL.nd h).2⟩
      · exact ⟨b, (inD _).mpr (.inl h), gY_out (evR b h.1)⟩) (fun b hb => by
      rcases gD b hb with ⟨h1, h2, h3⟩ | ⟨h1, h2, h3⟩
      · exact ⟨by show m.G (oldY m R (gY m R b)) = _; rw [h3], by show (if gY m R b ∈ m.nw R then (1 : Int) else _) = if b ∈ R then 1 else _; rw [if_pos h2, if_pos h1]⟩
      · rw [h3]
        exact ⟨by show m.G (oldY m R b) = _; rw [oldY_out (evN b h1)], by show (if b ∈ m.nw R then (1 : Int) else _) = if b ∈ R then 1 else _; rw [if_neg (evN b h1), if_neg h2]⟩)
  obtain ⟨F5, N5, _, fr5⟩ := X0.now1 (m' := m.yg0 R) Y9 c9 (fun b hb => by
    rcases fb_cases hb with rfl | rfl | ⟨x, hx, rfl⟩ | ⟨x, hx, rfl⟩
    · exact .inl BF
    · exact .inl tdF
    · obtain ⟨b', hb', rfl⟩ := List.mem_map.mp hx
      exact .inl (show (A b').t ∈ F from (xF b' (dD b' hb')).1)
    · obtain ⟨b', hb', rfl⟩ := List.mem_map.mp hx
      exact .inl (show (A b').s ∈ F from (xF b' (dD b' hb')).2)) (.inr fmd)
  have tF5 : t ∉ F5 := fun z => by
    rcases fr5 t z with h | h | h
    · exact tF h
    · exact nmt h.symm
    · exact Y9.offK ht9 nt1 h
  have pF5 : p5 ∉ F5 := fun z => by
    rcases fr5 p5 z with h | h | h
    · exact p5F h
    · exact nm5 h.symm
    · rcases fb_cases h with h | h | ⟨x, hx, h⟩ | ⟨x, hx, h⟩
      · rw [h, hB9] at h59; cases h59
      · rw [h, hD9] at h59; cases h59
      · obtain ⟨b, hb, rfl⟩ := List.mem_map.mp hx
        exact p5F (by rw [h]; exact (xF b (dD b hb)).1)
      · obtain ⟨b, hb, rfl⟩ := List.mem_map.mp hx
        exact p5F (by rw [h]; exact (xF b (dD b hb)).2)
  -- readdressed
  obtain ⟨cs, ecs⟩ : ∃ cs, cs = r5 ++ m.nw R := ⟨_, rfl⟩
  rw [← ecs] at h59
  have r5ev : ∀ b ∈ r5, b % 2 = 0 ∧ b < 2 * m.on := fun b hb => ok.mkd b (perm5.mem_iff.mp hb)
  have csnd : cs.Nodup := by
    rw [ecs]
    exact List.nodup_append.mpr ⟨perm5.nodup_iff.mpr ok.mkn, nws_nodup, fun b hb c hc e => evN b (r5ev b hb) (by rw [e]; exact hc)⟩
  have csd : ∀ b ∈ cs, b ∈ m.nw R ∨ (b % 2 = 0 ∧ b < 2 * m.on) := fun b hb => by
    rw [ecs] at hb
    rcases List.mem_append.mp hb with h | h
    · exact .inr (r5ev b h)
    · exact .inl h
  have oldD : ∀ b, b ∈ m.nw R ∨ (b % 2 = 0 ∧ b < 2 * m.on) → m.dom (oldY m R b) := fun b h => by
    rcases h with h | h
    · exact (Rodd _ (oldY_mem CL.nd h).1).1
    · rw [oldY_out (evN b h)]; exact .inr h
  have csl : cs.length ≤ 8000 := by rw [ecs, List.length_append, perm5.length_eq, nw_len]; omega
  refine ⟨_, rfl, p5, rfl, ⟨_, SqL.of h59⟩, ?_⟩
  refine for_it (walk_list (xs := ordV ixD cs)) (fun i σ H' => ∃ o3, σ = [some (.ref B), some (.ref a), some (.ref p), o3, some (.ref c), some (.ref p5), o6, some (.ref t), o8] ∧ ∃ F', Now K C CT H B F (m.ygP R (cs.take i)) F' H' ∧ t ∉ F' ∧ p5 ∉ F' ∧ H' t = some (.dK (kvT (gY m R) R)) ∧ H' p5 = some (.lst (ordV ixD cs)))
    ⟨_, rfl, F5, N5.congr rfl rfl rfl (fun b _ => ⟨if_neg (t := (m.G (oldY m R b)).mv (gY m R)) (e := m.G (oldY m R b)) (show b ∉ cs.take 0 from fun z => by rw [List.take_zero] at z; cases z), rfl⟩), tF5, pF5, ht9, h59⟩ (fun i σ H' _ h => by obtain ⟨_, _, _, _, _, _, _, h⟩ := h; exact SqL.of h) ?_ ?_
  · rintro i x σ H10 H11 hi ⟨o3, rfl, F', N', tF', pF', ht', h5'⟩ ⟨rfl, hx⟩
    rw [ordV_len] at hi
    unfold ordV at hx
    rw [List.getElem?_map, List.getElem?_eq_getElem hi] at hx
    have hx := Option.some.inj hx
    subst hx
    have hb := csd _ (List.getElem_mem hi)
    have nm := not_take csnd hi
    have eG : (m.ygP R (cs.take i)).G cs[i] = m.G (oldY m R cs[i]) := if_neg nm
    have od := oldD _ hb
    have nd' := N'.mem
    obtain ⟨td', md2, L', Y', _⟩ := nd'
    obtain ⟨dx', hB'⟩ := Y'.bk.hB
    refine ⟨_, rfl, B, dx', _, rfl, hB', rfl, _, rfl, _, rfl, B, t, F', m.ygP R (cs.take i), cs[i], m.top, gY m R, _, rfl, N'.mem, ?_, (MM.yg_dom rfl rfl).mpr hb, by rw [eG]; exact (ok.nd _ od).2, fun e he => ?_, tF', ht', fun e he k hk => ?_, fun F'' H'' N'' => ?_⟩
    · have := ygM_len (m := m) (R := R) (cs := cs) i (by omega)
      show (m.ygM R (cs.take i)).length ≤ 10000
      omega
    · rw [eG] at he
      exact (ok.clo _ od e he).ok Z.lt
    · rw [kvT_get]
      by_cases ck : k ∈ R
      · rw [if_pos ck]; rfl
      · rw [if_neg ck, gY_out ck]; rfl
    · refine ⟨_, rfl, F'', (N'.trans N'').congr rfl rfl ?_ (fun b' _ => ⟨?_, rfl⟩), (N''.out ht' tF').1, (N''.out h5' pF').1, (N''.out ht' tF').2, (N''.out h5' pF').2⟩
      · show m.ygM R (cs.take (i + 1)) = note cs[i] (mvs (gY m R) ((m.ygP R (cs.take i)).G cs[i]).row) (m.ygM R (cs.take i))
        rw [ygM_next hi, eG]
      · show (if b' ∈ cs.take (i + 1) then _ else _) = setG (m.ygP R (cs.take i)).G cs[i] _ b'
        have tk := take_next hi
        by_cases e : b' = cs[i]
        · subst e
          rw [setG_at, eG, if_pos (by rw [tk]; exact List.mem_append_right _ (List.mem_singleton_self _))]
        · rw [setG_ne e]
          show _ = if b' ∈ cs.take i then _ else _
          by_cases cc : b' ∈ cs.take i
          · rw [if_pos cc, if_pos (by rw [tk]; exact List.mem_append_left _ cc)]
          · rw [if_neg cc, if_neg (by rw [tk]; exact fun z => (List.mem_append.mp z).elim cc (fun q => e (List.mem_singleton.mp q)))]
  · rintro σ H10 ⟨o3, rfl, F', N', tF', pF', ht', h5'⟩
    rw [ordV_len, List.take_length] at N'
    refine ⟨_, rfl, q t rl r5 R F' H10 perm srt perm5 srt5 eR (N'.congr rfl rfl (by show m.ygM R (r5 ++ m.nw R) = m.ygM R cs; rw [ecs]) (fun b db => ⟨?_, rfl⟩)) ht' ft tF'⟩
    show (m.G (oldY m R b)).mv (gY m R) = if b ∈ cs then _ else _
    by_cases cb : b ∈ cs
    · rw [if_pos cb]
    · rw [if_neg cb]
      rcases (MM.yg_dom rfl rfl).mp db with h | h
      · exact absurd (by rw [ecs]; exact List.mem_append_right _ h) cb
      · rw [oldY_out (evN b h)]
        have ny : anyY (m.G b).row = false := by
          cases y : anyY (m.G b).row with
          | false => rfl
          | true => exact absurd (by rw [ecs]; exact List.mem_append_left _ (perm5.mem_iff.mpr (ok.mky b h.1 h.2 y))) cb
        have : mvs (gY m R) (m.G b).row = (m.G b).row := mvs_same fun e he k hk => gY_out fun kR => by
          have := anyY_true.mpr ⟨k, mem_tgs he hk, (Rodd k kR).2⟩
          rw [ny] at this; cases this
        unfold Nd.mv
        rw [this]
end
end D0
namespace D0
open PySem PySem.Spec PyProof.Rows L2 SX NumText
/-- what a collection does to a memory -/
structure Moved (m m' : MM) (g : Nat → Nat) (S : Nat → Prop) (es : List Ent) : Prop where
  ok : m'.ok
  dom : ∀ a, S a → m.dom a
  clo : ∀ a, S a → ∀ e ∈ (m.G a).row, e.okP S
  top : ∀ e ∈ es, e.okP S
  to : ∀ a, S a → m'.dom (g a)
  at_ : ∀ a, S a → m'.G (g a) = (m.G a).mv g
  inj : ∀ a b, S a → S b → g a = g b → a = b
theorem mvs_len (g : Nat → Nat) (es : List Ent) : (mvs g es).length = es.length := by unfold mvs; rw [List.length_map]
theorem dom_count {m : MM} {R : List Nat} (nd : R.Nodup) (h : ∀ a ∈ R, m.dom a) : R.length ≤ m.yn + m.on := by
  have := nodup_le (m.yn + m.on) (l := R.map fun a => if a % 2 = 1 then a / 2 else m.yn + a / 2) (List.pairwise_map.mpr (List.Pairwise.imp_of_mem (fun {a b} ha hb n z => ?_) nd)) fun x hx => ?_
  · simpa using this
  · have h1 := h a ha; have h2 := h b hb
    unfold MM.dom at h1 h2
    by_cases c1 : a % 2 = 1 <;> by_cases c2 : b % 2 = 1
    · rw [if_pos c1, if_pos c2] at z; omega
    · rw [if_pos c1, if_neg c2] at z; omega
    · rw [if_neg c1, if_pos c2] at z; omega
    · rw [if_neg c1, if_neg c2] at z; omega
  · obtain ⟨a, ha, rfl⟩ := List.mem_map.mp hx
    have h1 := h a ha
    unfold MM.dom at h1
    split <;> omega
theorem full_moved {m : MM} (h : m.ok) {es : List Ent} {R : List Nat} (r : Reach m.G es R) (he : ∀ e ∈ es, e.okP m.dom) : Moved m (m.full R) (gF R) (· ∈ R) es := by
  have CL := r.cl h.clo he
  have rows : ∀ a ∈ R, ∀ e ∈ (m.G a).row, e.okP (· ∈ R) := fun a ha e hm => (h.clo a (CL.dom a ha) e hm).and fun k hk => CL.clo a ha k (mem_tgs hm hk)
  have gd : ∀ a, a ∈ R → (m.full R).dom (gF R a) := fun a ha => (full_at CL.nd ha).1
  have of : ∀ b, (m.full R).dom b → ∃ a ∈ R, gF R a = b := fun b hb => by
    obtain ⟨e1, e2⟩ := MM.full_dom.mp hb
    exact ⟨R[b / 2], List.getElem_mem e2, by rw [gF_at CL.nd e2]; omega⟩
  refine ⟨⟨fun b hb => ?_, fun b hb => ?_, fun a ha => (by cases ha), List.Pairwise.nil, fun b h1 h2 h3 => ?_, ?_⟩, CL.dom, rows, fun e hm => (he e hm).and fun k hk => CL.top k (mem_tgs hm hk), gd, fun a ha => (full_at CL.nd ha).2.1, fun a b ha _ e => gF_inj ha e⟩
  · obtain ⟨a, ha, rfl⟩ := of b hb
    rw [(full_at CL.nd ha).2.1]
    intro e hm
    obtain ⟨e0, h0, rfl⟩ := List.mem_map.mp hm
    exact (rows a ha e0 h0).mv gd
  · obtain ⟨a, ha, rfl⟩ := of b hb
    rw [(full_at CL.nd ha).2.1]
    obtain ⟨n1, n2⟩ := h.nd a (CL.dom a ha)
    exact ⟨n1, by show (mvs _ _).length ≤ 100; rw [mvs_len]; exact n2⟩
  · obtain ⟨a, ha, rfl⟩ := of b (.inr ⟨h1, h2⟩)
    rw [(full_at CL.nd ha).2.1] at h3
    obtain ⟨k, hk, ko⟩ := anyY_true.mp h3
    have hk : k ∈ tgs (mvs (gF R) (m.G a).row) := hk
    rw [mvs_tgs] at hk
    obtain ⟨j, _, rfl⟩ := List.mem_map.mp hk
    unfold gF at ko; omega
  · have := dom_count CL.nd CL.dom
    have := h.le
    show 0 + R.length ≤ 2000
    omega
theorem ygM_mem {m : MM} {R : List Nat} : ∀ {cs : List Nat} {b : Nat}, b ∈ m.ygM R cs ↔ b ∈ cs ∧ b % 2 = 0 ∧ anyY (mvs (gY m R) (m.G (oldY m R b)).row) = true := by
  have gen : ∀ (cs ms : List Nat) (b : Nat), b ∈ cs.foldl (fun ms b => note b (mvs (gY m R) (m.G (oldY m R b)).row) ms) ms ↔ b ∈ ms ∨ (b ∈ cs ∧ b % 2 = 0 ∧ anyY (mvs (gY m R) (m.G (oldY m R b)).row) = true) := by
    intro cs
    induction cs with
    | nil => intro ms b; simp
    | cons c cs ih =>
      intro ms b
      rw [List.foldl_cons, ih, note_mem, List.mem_cons]
      constructor
      · rintro ((h | ⟨rfl, h⟩) | h)
        · exact .inl h
        · exact .inr ⟨.inl rfl, h⟩
        · exact .inr ⟨.inr h.1, h.2⟩
      · rintro (h | ⟨rfl | h, h2⟩)
        · exact .inl (.inl h)
        · exact .inl (.inr ⟨rfl, h2⟩)
        · exact .inr ⟨h, h2⟩
  intro cs b
  unfold MM.ygM
  rw [gen]; simp
theorem ygM_nodup {m : MM} {R cs : List Nat} : (m.ygM R cs).Nodup := by
  unfold MM.ygM
  have gen : ∀ (cs ms : List Nat), ms.Nodup → (cs.foldl (fun ms b => note b (mvs (gY m R) (m.G (oldY m R b)).row) ms) ms).Nodup := by
    intro cs
    induction cs with
    | nil => intro ms h; exact h
    | cons c cs ih => intro ms h; exact ih _ (note_nodup h)
  exact gen cs [] List.Pairwise.nil
def kept (m : MM) (R : List Nat) (a : Nat) : Prop := (a % 2 = 0 ∧ a < 2 * m.on) ∨ a ∈ R
theorem young_moved {m : MM} (h : m.ok) {es : List Ent} {rl rs R : List Nat} (pl : rl.Perm m.ms) (ps : rs.Perm m.ms) (r : ReachY m rl es R) (he : ∀ e ∈ es, e.okP m.dom) : Moved m (m.young R rs) (gY m R) (kept m R) es := by
  have rdom : ∀ b ∈ rl, m.dom b := fun b hb => h.mkdom (pl.mem_iff.mp hb)
  have tp := ryTop_ok (U := m.dom) (G := m.G) he rl fun b hb => h.clo b (rdom b hb)
  have CL := Bf.cl (U := fun a => m.dom a ∧ a % 2 = 1) (sc := scY m.G) (fun x hx y hy => ⟨yt_dom (h.clo x hx.1) y hy, (mem_yt.mp hy).2⟩) r tp.1 tp.2 (fun j x hj => absurd hj (Nat.not_lt_zero j))
  have Rodd : ∀ b ∈ R, m.dom b ∧ b % 2 = 1 := CL.dom
  have evR : ∀ b, b % 2 = 0 → b ∉ R := fun b e hb => by have := (Rodd b hb).2; omega
  have evN : ∀ b, b % 2 = 0 ∧ b < 2 * m.on → b ∉ m.nw R := fun b e hb => by have := nw_in.mp hb; omega
  have kd : ∀ a, kept m R a → m.dom a := fun a k => k.elim .inr fun h => (Rodd a h).1
  have odd : ∀ k, m.dom k → (k % 2 = 1 → k ∈ R) → kept m R k := fun k d f => by
    rcases d with d | d
    · exact .inr (f d.1)
    · exact .inl d
  have rows : ∀ a, kept m R a → ∀ e ∈ (m.G a).row, e.okP (kept m R) := fun a ka e hm => (h.clo a (kd a ka) e hm).and fun k hk => odd k ((h.clo a (kd a ka) e hm).tg hk) fun ko => by
    rcases ka with ka | ka
    · have : anyY (m.G a).row = true := anyY_true.mpr ⟨k, mem_tgs hm hk, ko⟩
      exact CL.top k (ryTop_mem.mpr (.inr ⟨a, pl.mem_iff.mpr (h.mky a ka.1 ka.2 this), mem_yt.mpr ⟨mem_tgs hm hk, ko⟩⟩))
    · exact CL.clo a ka k (mem_yt.mpr ⟨mem_tgs hm hk, ko⟩)
  have gd : ∀ a, kept m R a → (m.young R rs).dom (gY m R a) ∧ oldY m R (gY m R a) = a := fun a ka => by
    rcases ka with ka | ka
    · rw [gY_out (evR a ka.1)]
      exact ⟨(MM.yg_dom rfl rfl).mpr (.inr ka), oldY_out (evN a ka)⟩
    · obtain ⟨h1, h2⟩ := gY_mem (m := m) CL.nd ka
      exact ⟨(MM.yg_dom rfl rfl).mpr (.inl h1), h2⟩
  have of : ∀ b, (m.young R rs).dom b → kept m R (oldY m R b) ∧ gY m R (oldY m R b) = b := fun b hb => by
    rcases (MM.yg_dom rfl rfl).mp hb with k | k
    · obtain ⟨h1, h2⟩ := oldY_mem (m := m) CL.nd k
      exact ⟨.inr h1, h2⟩
    · rw [oldY_out (evN b k), gY_out (evR b k.1)]
      exact ⟨.inl k, rfl⟩
  have lR : R.length ≤ m.yn := by
    have := nodup_le m.yn (l := R.map fun a => a / 2) (List.pairwise_map.mpr (List.Pairwise.imp_of_mem (fun {a b} ha hb n z => by
      have h1 := (Rodd a ha).2; have h2 := (Rodd b hb).2; omega) CL.nd)) fun x hx => by
      obtain ⟨a, ha, rfl⟩ := List.mem_map.mp hx
      have h1 := Rodd a ha
      rcases h1.1 with d | d <;> omega
    simpa using this
  refine ⟨⟨fun b hb => ?_, fun b hb => ?_, fun b hb => ?_, ygM_nodup, fun b h1 h2 h3 => ?_, ?_⟩, kd, rows, fun e hm => (he e hm).and fun k hk => odd k ((he e hm).tg hk) fun ko => CL.top k (ryTop_mem.mpr (.inl (mem_yt.mpr ⟨mem_tgs hm hk, ko⟩))), fun a ka => (gd a ka).1, fun a ka => ?_, fun a b ha hb e => ?_⟩
  · obtain ⟨k, _⟩ := of b hb
    intro e hm
    obtain ⟨e0, h0, rfl⟩ := List.mem_map.mp (show e ∈ mvs (gY m R) (m.G (oldY m R b)).row from hm)
    exact (rows _ k e0 h0).mv fun c kc => (gd c kc).1
  · obtain ⟨k, _⟩ := of b hb
    obtain ⟨n1, n2⟩ := h.nd _ (kd _ k)
    exact ⟨n1, by show (mvs _ _).length ≤ 100; rw [mvs_len]; exact n2⟩
  · obtain ⟨hc, he0, _⟩ := ygM_mem.mp (show b ∈ m.ygM R (rs ++ m.nw R) from hb)
    refine ⟨he0, ?_⟩
    show b < 2 * cO m.ag R m.on
    rcases List.mem_append.mp hc with k | k
    · have := h.mkd b (ps.mem_iff.mp k)
      have := (nws_mem (ag := m.ag) (R := R) (y := 0) (o := m.on) (b := b)).2.1
      omega
    · have := nw_in.mp k; omega
  · refine ygM_mem.mpr ⟨?_, h1, h3⟩
    rcases (MM.yg_dom (m := m) (m' := m.young R rs) (R := R) rfl rfl (b := b)).mp (.inr ⟨h1, h2⟩) with k | k
    · exact List.mem_append_right _ k
    · refine List.mem_append_left _ (ps.mem_iff.mpr (h.mky b k.1 k.2 ?_))
      have h3 : anyY (mvs (gY m R) (m.G (oldY m R b)).row) = true := h3
      rw [oldY_out (evN b k)] at h3
      obtain ⟨c, hc, co⟩ := anyY_true.mp h3
      rw [mvs_tgs] at hc
      obtain ⟨j, hj, rfl⟩ := List.mem_map.mp hc
      refine anyY_true.mpr ⟨j, hj, ?_⟩
      by_cases jR : j ∈ R
      · exact (Rodd j jR).2
      · rw [gY_out jR] at co; exact co
  · have := (nws_mem (ag := m.ag) (R := R) (y := 0) (o := m.on) (b := 0)).2.2.1
    have := h.le
    show cY m.ag R 0 + cO m.ag R m.on ≤ 2000
    omega
  · show (m.G (oldY m R (gY m R a))).mv (gY m R) = _
    rw [(gd a ka).2]
  · rw [← (gd a ha).2, ← (gd b hb).2, e]
end D0
namespace D0
open PySem PySem.Spec PyProof.Rows L2 SX NumText
/-- o.m(e, .., k = v, ..) -/
theorem pe_methKw {X : Cx} {CX : CXT} {k n : Nat} {C f : Addr} {fd : FuncData} {ps ks : List Str} {sp : Sp} {E : XK} {m : Str} {o e : Expr} {es : List Expr} {kws : List Keyword} {pos apos : Pos} {ta : TE} {t tk : L2.TA} {g : List Value → List Value → List Value} {gV : List V → List V → List V} {pl : Sem Bool}
    (ho : PE X o ta) (c : Cls X.K C) (hm : Meth X.K C m f) (F : FnOk X.prog X.w X.K X.mg X.base CX k f fd ps sp) (hr : Room k X.A) (hb : KBn X.K fd ps (n + 1) ks g gV) (hx : Passes CX X E) (ha : PA X (e :: es) t) (hkw : PK X kws tk)
    (hall : (backToKw pos (keywordEach kws X.env)).all (·.1.isSome) = true := by rfl) (hks : (backToKw pos (keywordEach kws X.env)).filterMap (·.1) = ks := by rfl) (he : starEach (e :: es) X.env = (false, eval e X.env) :: starEach es X.env := by rfl)
    (hpl : ((backTo pos (starEach (e :: es) X.env)).any (·.1) || (backToKw pos (keywordEach kws X.env)).any (·.1.isNone)) = false := by rfl)
    (ht : eval (.Call (.Attribute o m apos) (e :: es) kws pos) X.env = (do
      let ov ← eval o X.env
      standAt apos.atName
      let (f, first) ← holding [ov] (getMethod ov m pl)
      callWith pos f first (backTo pos (starEach (e :: es) X.env)) (backToKw pos (keywordEach kws X.env))) := by rfl) :
    PE X (.Call (.Attribute o m apos) (e :: es) kws pos) (fun σ H Q => ta σ H fun x H1 => ∃ a dx fs, x = .ref a ∧ H1 a = some (.ins C dx fs) ∧ fs.lookup m = none ∧ t σ H1 fun vs H2 => tk σ H2 fun zs H3 => vs.length = n ∧ zs.length = ks.length ∧ sp (gV (.ref a :: vs) zs) H3 Q E) := by
  refine ⟨fun pins s σ H Q I h => PySem.W.methodCall_KW (pl := pl) (thn (ho.run pins s σ H _ I h) fun u s1 ⟨x, H1, I1, rx, a, dx, fs, ex, ea, l, q⟩ => ?_) ht⟩
  subst ex
  obtain rfl : u = Value.ref a := rx
  refine getmeth_ok I1 ea c hm l (PySem.W.callWith_KW (first := [.ref a]) (h₀ := X.base) I1.ok.mod.kin hm.kp hall (thn (ha.run pos pins s1 σ H1 _ I1 q) fun us s2 ⟨vs, H2, I2, r, q2⟩ => ?_) hpl he)
  refine thn (hkw.run pos pins s2 σ H2 _ I2 q2) fun ws s3 ⟨zs, H3, I3, rz, l1, l2, q3⟩ => ⟨I3.kIn, ?_⟩
  rw [hks]
  exact run_fnN (us := .ref a :: us) (vs := .ref a :: vs) F hr hb hx I3 (.cons rfl r) rz (congrArg Nat.succ l1) l2 q3
/-- the def of collect, with its defaults -/
theorem fund_ok {P : Program} {w : World} {K : PySem.W.Frag} {mg : Str → Option Value} {base : Heap} {x qual : Str} {st : Stmt} {dvs : List V} {f : Addr} {fd : FuncData} {N ps : List Str} {k : Nat} {sp : Sp} (F : FunD K x qual (defArgs st) (defBody st) (defScope st) dvs [] f fd) (S : FnScope N ps (defScope st)) (len : ∀ vs H Q E, sp vs H Q E → vs.length = ps.length)
    (hbody : ∀ (cdv : Value) (A : Around) (outer : List Env) (s : Shared) (H : Hp) (vs : List V) (Q : VK) (E : XK), Room k (A.deeper (envOfC qual (defScope st) s.heap.objs.size f cdv)) → sp vs H Q E →
      ∃ t, PSs (cxOf CX0 P w K mg base N qual (defScope st) f cdv A outer s H E).nox (defBody st) t ∧ t { nx := fun _ H' => Q .non H', rt := Q } (L2.start N vs) H) : FnOk P w K mg base CX0 (k + 1) f fd ps sp :=
  F.ok S len fun cdv A outer s H vs Q E hr h => by
    obtain ⟨t, ht, q⟩ := hbody cdv A outer s H vs Q E hr h
    exact ⟨t, ht.nox, q⟩
/-- what a collection was -/
def HowFull (m : MM) (es : List Ent) (m' : MM) (g : Nat → Nat) : Prop := ∃ R, Reach m.G es R ∧ m' = m.full R ∧ g = gF R
def HowYoung (m : MM) (es : List Ent) (m' : MM) (g : Nat → Nat) : Prop := ∃ rl rs R, rl.Perm m.ms ∧ rl.Pairwise (· ≤ ·) ∧ rs.Perm m.ms ∧ rs.Pairwise (· ≤ ·) ∧ ReachY m rl es R ∧ m' = m.young R rs ∧ g = gY m R
def spHCol (K : PySem.W.Frag) (C CT : Addr) : Sp := fun vs H Q _ => ∃ (B : Addr) (F : List Addr) (m : MM) (a : Addr) (ws : List V) (es : List Ent) (full : Bool), vs = [.ref B, .ref a, .bl full] ∧ Mem K C CT H B F m ∧ m.ok ∧
  H a = some (.lst ws) ∧ Reps H ws (rowD ixD es) ∧ (∀ e ∈ es, e.okP m.dom) ∧ es.length ≤ 1000 ∧ a ∉ F ∧ ∀ p us m' g S F' H', Moved m m' g S es → (full = true → HowFull m es m' g) → (full = false → HowYoung m es m' g) → Now K C CT H B F m' F' H' → H' p = some (.lst us) → Reps H' us (rowD ixD (mvs g es)) → H p = none → p ∉ F' → Q (.ref p) H'
section
variable {P : Program} {w : World} {K : PySem.W.Frag} {mg : Str → Option Value} {base : Heap} {C CT : Addr}
theorem ok_Heap_collect (T : Txt K w mg) (TB : HeT K mg C) (Oal : OkM P w K mg base C CX0 5 "move_all" p_Heap_move_all (spHAll K C CT)) (Oyg : OkM P w K mg base C CX0 6 "move_young" p_Heap_move_young (spHYg K C CT)) (Ov : OkD P w K mg base CX0 2 "moved" p_moved spPMov) :
    ∃ f fd, Meth K C "collect" f ∧ FnOk P w K mg base CX0 7 f fd p_Heap_collect (spHCol K C CT) ∧ Binds K fd p_Heap_collect [] ∧ (∃ t, RelV (.bl false) t ∧ Binds K fd p_Heap_collect [t]) ∧ KBn K fd p_Heap_collect 2 ["full"] (fun us ws => us ++ ws) (fun vs zs => vs ++ zs) := by
  obtain ⟨f, fd, FD, hm⟩ := TB.col
  refine ⟨f, fd, hm, fund_ok FD sc_Heap_collect (fun vs H Q E h => ?_) (fun cdv A outer s H vs Q E hr h => ?_), col_binds FD⟩
  · obtain ⟨B, F, m, a, ws, es, full, rfl, _⟩ := h; rfl
  obtain ⟨B, F, m, a, ws, es, full, rfl, X, ok, ha, rs, oe, le, na, q⟩ := h
  refine ⟨_, (pss_cons (ps_if (pt_val (pv 2)) (pss_one (ps_set (i := 3) sc_Heap_collect.nd rfl (.inr rfl) (pmethE Oal TB.cl hr pass0 (pv 0) (pa_cons (pv 1) pa_nil)))) (pss_one (ps_set (i := 3) sc_Heap_collect.nd rfl (.inr rfl) (pmethE Oyg TB.cl hr pass0 (pv 0) (pa_cons (pv 1) pa_nil)))))
      (pss_one (ps_ret (pe_lc (own := [("entry", 4)]) (g := gName 4) (tt := tYes) rfl sc_Heap_collect.nd (pi_list (pv 1)) (blkOk_by (own := [("entry", 4)]) (N := n_Heap_collect) (sc := defScope s_Heap_collect) (by decide +kernel)) (fun _ _ _ _ _ => (pg_name (i := 4) sc_Heap_collect.nd rfl (Or.inl rfl))) (fun _ _ _ _ _ => pts_nil) (fun _ _ _ _ _ => (pcall Ov hr (pa_cons (pv 4) (pa_cons (pv 3) pa_nil)))))))), ?_⟩
  have lim := lim4
  have X0 := X
  obtain ⟨td, md, L, Y, hF, hmF, lv⟩ := X
  obtain ⟨dx0, hB0⟩ := Y.bk.hB
  have Z := On.self ok
  have wl : ws.length = es.length := by rw [rs.len, rowD_len]
  refine ⟨_, rfl, full, rfl, ?_⟩
  cases full with
  | true =>
    refine iteT ?_
    refine ⟨_, rfl, B, dx0, _, rfl, hB0, rfl, _, rfl, B, F, m, a, ws, es, rfl, X0, ok, ha, rs, oe, fun t R F' H1 eR N ht ft nt => ?_⟩
    have CL := eR.cl Z.clo oe
    have ha1 := N.chg.keep a _ na ha
    have r1 := rs.mono N.chg.tups
    refine ⟨_, rfl, a, rfl, ⟨ws, SqL.of ha1⟩, fun p hp => ?_⟩
    refine lc_it (walk_list (xs := ws)) (fun i H' => Same H1 H' ∧ ∃ us, H' p = some (.lst us) ∧ Reps H' us (rowD (aI (gF R)) (es.take i)) ∧ us.length = i) ⟨same_new hp _, [], upd_same, .nil, rfl⟩ (fun i H' _ h => SqL.of (h.1 _ _ ha1)) ?_ ?_
    · rintro i x H3 H4 hi ⟨s3, us, h3, r3, l3⟩ ⟨rfl, hx⟩
      obtain ⟨hi', rd⟩ := rows_at (r1.mono (.same s3)) hx
      refine ⟨rfl, iteT (B := True) (iteT ?_)⟩
      refine ⟨_, rfl, _, rfl, x, t, es[i], ixD, aI (gF R), m.top, _, rfl, rd, (oe _ (List.getElem_mem hi')).ok Z.lt, s3 _ _ ht, fun k hk => ?_, fun v' H5 s5 r5 => ?_⟩
      · show (valV (kvT (gF R) R) (.inl (k : Int))).getD (.int (k : Int)) = .int ((gF R k : Nat) : Int)
        rw [kvT_get]
        rw [if_pos (CL.top k (mem_tgs (List.getElem_mem hi') hk))]; rfl
      have h5 := s5 _ _ h3
      refine ⟨_, h5, by omega, same_grow (s3.trans s5) hp, us ++ [v'], upd_same, ?_, by simp [l3]⟩
      rw [take_next hi', rowD_app]
      exact (r3.mono ((Tups.same s5).trans (.lst h5))).app (.one (r5.mono (.lst h5)))
    rintro H3 ⟨s3, us, h3, r3, l3⟩
    rw [wl, List.take_length, ← aI_mv] at r3
    exact q p us _ _ _ F' H3 (full_moved ok eR oe) (fun _ => ⟨R, eR, rfl, rfl⟩) (fun z => by cases z) (N.same s3) h3 r3 (N.chg.live p hp) (N.mem.fresh hp)
  | false =>
    refine iteF ?_
    refine ⟨_, rfl, B, dx0, _, rfl, hB0, rfl, _, rfl, B, F, m, a, ws, es, rfl, X0, ok, ha, rs, oe, fun t rl r5 R F' H1 p1 q1 p2 q2 eR N ht ft nt => ?_⟩
    have ha1 := N.chg.keep a _ na ha
    have r1 := rs.mono N.chg.tups
    refine ⟨_, rfl, a, rfl, ⟨ws, SqL.of ha1⟩, fun p hp => ?_⟩
    refine lc_it (walk_list (xs := ws)) (fun i H' => Same H1 H' ∧ ∃ us, H' p = some (.lst us) ∧ Reps H' us (rowD (aI (gY m R)) (es.take i)) ∧ us.length = i) ⟨same_new hp _, [], upd_same, .nil, rfl⟩ (fun i H' _ h => SqL.of (h.1 _ _ ha1)) ?_ ?_
    · rintro i x H3 H4 hi ⟨s3, us, h3, r3, l3⟩ ⟨rfl, hx⟩
      obtain ⟨hi', rd⟩ := rows_at (r1.mono (.same s3)) hx
      refine ⟨rfl, iteT (B := True) (iteT ?_)⟩
      refine ⟨_, rfl, _, rfl, x, t, es[i], ixD, aI (gY m R), m.top, _, rfl, rd, (oe _ (List.getElem_mem hi')).ok Z.lt, s3 _ _ ht, fun k hk => ?_, fun v' H5 s5 r6 => ?_⟩
      · show (valV (kvT (gY m R) R) (.inl (k : Int))).getD (.int (k : Int)) = .int ((gY m R k : Nat) : Int)
        rw [kvT_get]
        by_cases ck : k ∈ R
        · rw [if_pos ck]; rfl
        · rw [if_neg ck, gY_out ck]; rfl
      have h5 := s5 _ _ h3
      refine ⟨_, h5, by omega, same_grow (s3.trans s5) hp, us ++ [v'], upd_same, ?_, by simp [l3]⟩
      rw [take_next hi', rowD_app]
      exact (r3.mono ((Tups.same s5).trans (.lst h5))).app (.one (r6.mono (.lst h5)))
    rintro H3 ⟨s3, us, h3, r3, l3⟩
    rw [wl, List.take_length, ← aI_mv] at r3
    exact q p us _ _ _ F' H3 (young_moved ok p1 p2 eR oe) (fun z => by cases z) (fun _ => ⟨rl, r5, R, p1, q1, p2, q2, eR, rfl, rfl⟩) (N.same s3) h3 r3 (N.chg.live p hp) (N.mem.fresh hp)
end
end D0
namespace D0
open PySem PySem.Spec PyProof.Rows L2 SX NumText
/-- what the class Store is used for: its own __init__ -/
structure StX (K : PySem.W.Frag) (mg : Str → Option Value) (C : Addr) : Prop where
  gl : mg "Store" = some (.ref C)
  cr : ∃ mc, ClX.CRead K C mc ∧ (∃ fI fd, PySem.W.findCls K (.ref C) mc "__init__" = some (.val (.ref fI)) ∧ PySem.W.keepIn K (.ref fI) = true ∧ Binds K fd p_Store___init__ [] ∧ Fun K "__init__" "Store.__init__" s_Store___init__ fI fd)
def spStoreInit (K : PySem.W.Frag) : Sp := fun vs H Q _ => ∃ (B C dx : Addr), vs = [.ref B] ∧ H B = some (.ins C dx []) ∧ Cls K C ∧ NoAttr K C "things" ∧ ∀ td, H td = none → Q .non (upd (upd H td (.dK [])) B (.ins C dx [(fThings, .ref td)]))
def m00 : MM := ⟨0, 0, fun _ => ⟨[], .non, []⟩, fun _ => 0, []⟩
def spHInit (K : PySem.W.Frag) (C CT : Addr) : Sp := fun vs H Q _ => ∃ (B dx : Addr), vs = [.ref B] ∧ H B = some (.ins C dx []) ∧ ∀ td md H', MemL K C CT H' B td md [] m00 → (∀ a o, a ≠ B → H a = some o → H' a = some o) → H td = none → H md = none → Q .non H'
theorem m00_ok : m00.ok := by
  have nd : ∀ a, ¬ m00.dom a := fun a d => by unfold MM.dom m00 at d; simp at d
  exact ⟨fun a d => absurd d (nd a), fun a d => absurd d (nd a), fun a h => (by cases h), List.Pairwise.nil, fun a h1 h2 => absurd (.inr ⟨h1, h2⟩) (nd a), by show 0 + 0 ≤ 2000; omega⟩
section
variable {P : Program} {w : World} {K : PySem.W.Frag} {mg : Str → Option Value} {base : Heap} {C CT : Addr}
theorem ok_Store___init__ {f : Addr} {fd : FuncData} (F : Fun K "__init__" "Store.__init__" s_Store___init__ f fd) : FnOk P w K mg base CX0 1 f fd p_Store___init__ (spStoreInit K) := by
  refine F.ok sc_Store___init__ (fun vs H Q E h => ?_) (fun cdv A outer s H vs Q E hr h => ?_)
  · obtain ⟨B, C, dx, rfl, _⟩ := h; rfl
  obtain ⟨B, C, dx, rfl, hB, cl, na, q⟩ := h
  refine ⟨_, (pss_one (ps_fld (pv 0) pe_dnewK rfl)), ?_⟩
  intro td htd
  exact ⟨_, rfl, B, C, dx, [], rfl, (by rw [upd_ne (ne_of_none hB htd)]; exact hB), cl, na, (by show 0 < 1000; decide), q td htd⟩
theorem ok_Heap___init__ {CS : Addr} (TS : StX K mg CS) (TB : HeT K mg C) {f : Addr} {fd : FuncData} (F : Fun K "__init__" "Heap.__init__" s_Heap___init__ f fd) : FnOk P w K mg base CX0 2 f fd p_Heap___init__ (spHInit K C CT) := by
  obtain ⟨mc, cr, ⟨fI, fdI, hf, kp, hb, FI⟩⟩ := TS.cr
  have GI := ok_Store___init__ (P := P) (w := w) (mg := mg) (base := base) FI
  refine F.ok sc_Heap___init__ (fun vs H Q E h => ?_) (fun cdv A outer s H vs Q E hr h => ?_)
  · obtain ⟨B, dx, rfl, _⟩ := h; rfl
  obtain ⟨B, dx, rfl, hB, q⟩ := h
  refine ⟨_, (pss_cons (ps_expr (pe_ccall (pe_glob (v := .ref CS) rfl TS.gl rfl) cr hf kp GI hr hb pass0 (pa_cons (pv 0) pa_nil)))
      (pss_cons (ps_fld (pv 0) pe_int rfl)
      (pss_cons (ps_fld (pv 0) pe_int rfl)
      (pss_one (ps_fld (pv 0) pe_dnewK rfl))))), ?_⟩
  refine ⟨rfl, _, rfl, B, C, dx, rfl, hB, TB.cl, TB.n_things, fun td htd => ?_⟩
  have n1 : fThings ≠ fYM ∧ fThings ≠ fOM ∧ fThings ≠ fMk ∧ fYM ≠ fOM ∧ fYM ≠ fMk ∧ fOM ≠ fMk := by decide +kernel
  obtain ⟨n1, n2, n3, n4, n5, n6⟩ := n1
  have nb : B ≠ td := ne_of_none hB htd
  have e1 : putF fYM (V.int 0) [(fThings, V.ref td)] = [(fThings, V.ref td), (fYM, .int 0)] := by simp only [putF, if_neg n1]
  have e2 : putF fOM (V.int 0) [(fThings, V.ref td), (fYM, .int 0)] = [(fThings, V.ref td), (fYM, .int 0), (fOM, .int 0)] := by simp only [putF, if_neg n2, if_neg n4]
  have e3 : ∀ md, putF fMk (V.ref md) [(fThings, V.ref td), (fYM, .int 0), (fOM, .int 0)] = [(fThings, V.ref td), (fYM, .int 0), (fOM, .int 0), (fMk, .ref md)] := fun md => by simp only [putF, if_neg n3, if_neg n5, if_neg n6]
  refine ⟨_, rfl, B, C, dx, _, rfl, upd_same, TB.cl, TB.n_young_many, (by show 1 < 1000; decide), ?_⟩
  rw [upd_upd]
  refine ⟨_, rfl, B, C, dx, _, rfl, upd_same, TB.cl, TB.n_old_many, (by show (putF fYM (V.int 0) [(fThings, V.ref td)]).length < 1000; rw [e1]; show 2 < 1000; decide), ?_⟩
  rw [upd_upd]
  intro md hmd
  have hmd' : upd (upd H td (.dK [])) B (.ins C dx (putF fOM (V.int 0) (putF fYM (V.int 0) [(fThings, V.ref td)]))) md = none := hmd
  have nm : md ≠ B := fun z => by rw [z, upd_same] at hmd'; cases hmd'
  refine ⟨_, rfl, B, C, dx, _, rfl, (by rw [upd_ne (Ne.symm nm), upd_same]), TB.cl, TB.n_marked, (by show (putF fOM (V.int 0) (putF fYM (V.int 0) [(fThings, V.ref td)])).length < 1000; rw [e1, e2]; show 3 < 1000; decide), ?_⟩
  have nmt : md ≠ td := fun z => by rw [z, upd_ne (Ne.symm nb), upd_same] at hmd'; cases hmd'
  have f_md : H md = none := by rw [upd_ne nm, upd_ne nmt] at hmd'; exact hmd'
  refine q td md _ ⟨BkA.empty (dx := dx) ?_ ?_, ?_, nmt, fun x h => (by cases h), fun a d => ?_⟩ (fun a o na ha => ?_) htd f_md
  · rw [upd_same]
    show some (HO.ins C dx (putF fMk (V.ref md) (putF fOM (V.int 0) (putF fYM (V.int 0) [(fThings, V.ref td)])))) = _
    rw [e1, e2, e3]; rfl
  · rw [upd_ne (Ne.symm nb), upd_ne (Ne.symm nmt), upd_ne (Ne.symm nb), upd_same]
  · rw [upd_ne nm, upd_same]; rfl
  · unfold MM.dom m00 at d; simp at d
  · have n7 : a ≠ td := ne_of_none ha htd
    have n8 : a ≠ md := fun z => by
      rw [z] at ha na
      rw [upd_ne na, upd_ne nmt, ha] at hmd'; cases hmd'
    rw [upd_ne na, upd_ne n8, upd_ne na, upd_ne n7]; exact ha
end
end D0
namespace D0
open PySem PySem.Spec PyProof.Rows L2 SX NumText
/-- one object as graph tells it -/
def objD (nds : List Nd) (g : Nat → Int) (x : Nat) : D := match nds[x]? with
  | some n => .tup [.str n.kind, n.tag, .tup (rowD g n.row)]
  | none => .non
def graphD (nds : List Nd) (es : List Ent) : D := .tup [.tup (rowD (plc (reachN nds es)) es), .tup ((reachN nds es).map (objD nds (plc (reachN nds es))))]
/-- the nodes of a list as a graph -/
def gOf (nds : List Nd) (k : Nat) : Nd := nds.getD k ⟨[], .non, []⟩
theorem gOf_at {nds : List Nd} {k : Nat} {n : Nd} (h : nds[k]? = some n) : gOf nds k = n := by unfold gOf; rw [List.getD_eq_getElem?_getD, h]; rfl
theorem gOf_lt {nds : List Nd} {k : Nat} (h : k < nds.length) : gOf nds k = nds[k] := gOf_at (List.getElem?_eq_getElem h)
theorem scG_scN {nds : List Nd} {k : Nat} (h : k < nds.length) : scG (gOf nds) k = scN nds k := by unfold scG; rw [gOf_lt h, scN_at (List.getElem?_eq_getElem h)]
/-- the walk of the law's nodes -/
theorem reachN_reach {nds : List Nd} {es : List Ent} (h : ∀ n ∈ nds, ∀ e ∈ n.row, e.ok nds.length) (he : ∀ e ∈ es, e.ok nds.length) : Reach (gOf nds) es (reachN nds es) := by
  unfold Reach reachN
  have lt : ∀ x ∈ meet (tgs es) [], x < nds.length := meet_dom (U := (· < nds.length)) (fun x m => by cases m) fun x m => tgs_lt he x m
  have b := bf_ex (U := (· < nds.length)) (N := nds.length) (fun x h => h) (fun x hx y hy => scN_lt h x hx y hy) (nds.length + 1) (meet (tgs es) []) 0 (meet_nodup List.Pairwise.nil) lt (by omega)
  have gen : ∀ {o R : List Nat} {k : Nat}, Bf (scN nds) o k R → (∀ x ∈ o, x < nds.length) → Bf (scG (gOf nds)) o k R := by
    intro o R k b
    induction b with
    | stop h => intro _; exact .stop h
    | @step o R k hk _ ih =>
      intro ho
      have hx := ho _ (List.getElem_mem hk)
      refine .step hk ?_
      rw [scG_scN hx]
      exact ih (meet_dom ho (scN_lt h _ hx))
  exact gen b lt
theorem graph_eq {nds : List Nd} {es : List Ent} (h : ∀ n ∈ nds, ∀ e ∈ n.row, e.ok nds.length) (he : ∀ e ∈ es, e.ok nds.length) : graphG (gOf nds) es (reachN nds es) = graphD nds es := by
  have CL := reachN_clo h he
  unfold graphG graphD
  congr 4
  refine List.map_congr_left fun x hx => ?_
  have hl := CL.lt x hx
  unfold objG objD
  rw [gOf_lt hl, List.getElem?_eq_getElem hl]
theorem gOf_app {nds : List Nd} {n : Nd} {k : Nat} (h : k < nds.length) : gOf (nds ++ [n]) k = gOf nds k := by
  rw [gOf_lt h]; exact gOf_at (by rw [List.getElem?_append_left h, List.getElem?_eq_getElem h])
theorem gOf_new {nds : List Nd} {n : Nd} : gOf (nds ++ [n]) nds.length = n := gOf_at (by simp)
theorem gOf_set {nds : List Nd} {n : Nd} {j k : Nat} (h : k < nds.length) : gOf (nds.set j n) k = if k = j then n else gOf nds k := by
  by_cases e : k = j
  · subst e; rw [if_pos rfl]; exact gOf_at (by simp [h])
  · rw [if_neg e, gOf_lt h]
    exact gOf_at (by rw [List.getElem?_set_ne (Ne.symm e), List.getElem?_eq_getElem h])
/-! ### the law's nodes in a memory -/
/-- f tells where the nodes U stand -/
structure LawM (m : MM) (nds : List Nd) (f : Nat → Nat) (U : Nat → Prop) : Prop where
  ok : m.ok
  on : On m f (gOf nds) U nds.length
  row : ∀ n ∈ nds, n.ok nds.length
theorem En.mv_mv (f g : Nat → Nat) : ∀ e : En, (e.mv f).mv g = e.mv fun k => g (f k)
  | .ref _ => rfl
  | .hand _ => rfl
  | .oth _ _ => rfl
theorem Ent.mv_mv (f g : Nat → Nat) : ∀ e : Ent, (e.mv f).mv g = e.mv fun k => g (f k)
  | .pl e => congrArg Ent.pl (En.mv_mv f g e)
  | .pend r e => congrArg (Ent.pend r) (En.mv_mv f g e)
theorem mvs_mvs (f g : Nat → Nat) (es : List Ent) : mvs g (mvs f es) = mvs (fun k => g (f k)) es := by
  unfold mvs; rw [List.map_map]; exact List.map_congr_left fun e _ => Ent.mv_mv f g e
theorem Nd.mv_mv (f g : Nat → Nat) (n : Nd) : (n.mv f).mv g = n.mv fun k => g (f k) := by unfold Nd.mv; rw [mvs_mvs]
theorem En.mv_cong {f g : Nat → Nat} : ∀ {e : En}, (∀ k, e.tg = some k → f k = g k) → e.mv f = e.mv g
  | .ref k, h => by show En.ref _ = .ref _; rw [h k rfl]
  | .hand k, h => by show En.hand _ = .hand _; rw [h k rfl]
  | .oth _ _, _ => rfl
theorem Ent.mv_cong {f g : Nat → Nat} : ∀ {e : Ent}, (∀ k, e.tg = some k → f k = g k) → e.mv f = e.mv g
  | .pl e, h => congrArg Ent.pl (En.mv_cong h)
  | .pend r e, h => congrArg (Ent.pend r) (En.mv_cong h)
theorem mvs_cong {f g : Nat → Nat} {es : List Ent} (h : ∀ e ∈ es, ∀ k, e.tg = some k → f k = g k) : mvs f es = mvs g es := List.map_congr_left fun e he => Ent.mv_cong (h e he)
/-- behind a collection: what the roots reach stands at g of where it stood -/
theorem LawM.moved {m m' : MM} {nds : List Nd} {f g : Nat → Nat} {U : Nat → Prop} {S : Nat → Prop} {es : List Ent} {R : List Nat} (X : LawM m nds f U) (he : ∀ e ∈ es, e.okP U) (M : Moved m m' g S (mvs f es)) (r : Reach (gOf nds) es R) :
    LawM m' nds (fun k => g (f k)) (· ∈ R) ∧ (∀ k ∈ R, S (f k)) := by
  have CL := r.cl X.on.clo he
  have rows : ∀ a ∈ R, ∀ e ∈ (gOf nds a).row, e.okP (· ∈ R) := fun a ha e hm => (X.on.clo a (CL.dom a ha) e hm).and fun k hk => CL.clo a ha k (mem_tgs hm hk)
  -- all that is reached lies in S
  have inS : ∀ k ∈ R, S (f k) := by
    have topS : ∀ k ∈ tgs es, S (f k) := fun k hk => by
      obtain ⟨e, hm, q⟩ := of_tgs hk
      have := M.top (e.mv f) (List.mem_map_of_mem hm)
      exact this.tg (by rw [Ent.mv_tg, q]; rfl)
    have stepS : ∀ k, U k → S (f k) → ∀ j ∈ scG (gOf nds) k, S (f j) := fun k hU hS j hj => by
      obtain ⟨e, hm, q⟩ := of_tgs hj
      have := M.clo (f k) hS (e.mv f) (by rw [X.on.at_ k hU]; exact List.mem_map_of_mem hm)
      exact this.tg (by rw [Ent.mv_tg, q]; rfl)
    have gen : ∀ {o R' : List Nat} {k : Nat}, Bf (scG (gOf nds)) o k R' → (∀ x ∈ o, U x ∧ S (f x)) → ∀ x ∈ R', S (f x) := by
      intro o R' k b
      induction b with
      | stop _ => intro h x hx; exact (h x hx).2
      | @step o R' k hk _ ih =>
        intro h
        have hx := h _ (List.getElem_mem hk)
        exact ih (meet_dom (U := fun x => U x ∧ S (f x)) h fun y hy => ⟨by
          obtain ⟨e, hm, q⟩ := of_tgs hy
          exact (X.on.clo _ hx.1 e hm).tg q, stepS _ hx.1 hx.2 y hy⟩)
    exact gen r (meet_dom (U := fun x => U x ∧ S (f x)) (fun x m => by cases m) fun x hx => ⟨by
      obtain ⟨e, hm, q⟩ := of_tgs hx
      exact (he e hm).tg q, topS x hx⟩)
  refine ⟨⟨M.ok, ⟨fun k hk => M.to _ (inS k hk), fun k hk => ?_, fun i j hi hj e => X.on.inj i j (CL.dom i hi) (CL.dom j hj) (M.inj _ _ (inS i hi) (inS j hj) e), rows, fun k hk => X.on.lt k (CL.dom k hk), X.on.le⟩, X.row⟩, inS⟩
  rw [M.at_ _ (inS k hk), X.on.at_ k (CL.dom k hk), Nd.mv_mv]
section
variable {K : PySem.W.Frag} {H H' : Hp} {nb : Addr} {as rs : List Addr} {nds : List Nd}
theorem BoA.frame (X : BoA H nb as rs nds) {F : List Addr} (c : Chg F H H') (d : ∀ a ∈ FN nb as rs, a ∉ F) : BoA H' nb as rs nds := by
  refine ⟨X.la, X.lr, c.keep _ _ (d _ (by simp [FN])) X.h0, fun k a r n h1 h2 h3 => ?_, fun k r n h1 h2 => ?_, X.nd⟩
  · obtain ⟨tv, h, q⟩ := X.hN k a r n h1 h2 h3
    exact ⟨tv, c.keep _ _ (d _ (by have := List.mem_of_getElem? h1; simp [FN, this])) h, q.mono c.tups⟩
  · obtain ⟨vs, h, q⟩ := X.hR k r n h1 h2
    exact ⟨vs, c.keep _ _ (d _ (by have := List.mem_of_getElem? h1; simp [FN, this])) h, q.mono c.tups⟩
/-- the k-th node -/
theorem BoA.look (X : BoA H nb as rs nds) {k : Nat} {n : Nd} (hn : nds[k]? = some n) : ∃ a r tv vs, as[k]? = some a ∧ rs[k]? = some r ∧ H a = some (.lst [.str (S n.kind), tv, .ref r]) ∧ Rep H tv n.tag ∧ H r = some (.lst vs) ∧ Reps H vs (rowD ixD n.row) ∧ vs.length = n.row.length := by
  obtain ⟨hk, _⟩ := List.getElem?_eq_some_iff.mp hn
  have h1 := X.la; have h2 := X.lr
  have ea : as[k]? = some (as[k]'(by omega)) := List.getElem?_eq_getElem (by omega)
  have er : rs[k]? = some (rs[k]'(by omega)) := List.getElem?_eq_getElem (by omega)
  obtain ⟨tv, g, q⟩ := X.hN k _ _ n ea er hn
  obtain ⟨vs, g2, q2⟩ := X.hR k _ n er hn
  exact ⟨_, _, tv, vs, ea, er, g, q, g2, q2, by rw [q2.len]; unfold rowD; rw [List.length_map]⟩
theorem BoA.here (X : BoA H nb as rs nds) : ∀ a ∈ FN nb as rs, H a ≠ none := by
  intro a h
  have l3 := X.la; have l4 := X.lr
  rcases List.mem_cons.mp h with rfl | h
  · rw [X.h0]; exact fun z => nomatch z
  rcases List.mem_append.mp h with h | h
  · obtain ⟨j, hj⟩ := List.getElem?_of_mem h
    obtain ⟨hj', _⟩ := List.getElem?_eq_some_iff.mp hj
    obtain ⟨tv, g, _⟩ := X.hN j a _ _ hj (List.getElem?_eq_getElem (by omega)) (List.getElem?_eq_getElem (by omega))
    rw [g]; exact fun z => nomatch z
  · obtain ⟨j, hj⟩ := List.getElem?_of_mem h
    obtain ⟨hj', _⟩ := List.getElem?_eq_some_iff.mp hj
    obtain ⟨vs, g, _⟩ := X.hR j a _ hj (List.getElem?_eq_getElem (by omega))
    rw [g]; exact fun z => nomatch z
theorem BoA.fresh (X : BoA H nb as rs nds) {a : Addr} (h : H a = none) : a ∉ as ∧ a ∉ rs ∧ a ≠ nb := by
  have l3 := X.la; have l4 := X.lr
  refine ⟨fun m => ?_, fun m => ?_, fun z => ?_⟩
  · obtain ⟨j, hj⟩ := List.getElem?_of_mem m
    obtain ⟨hj', _⟩ := List.getElem?_eq_some_iff.mp hj
    obtain ⟨tv, g, _⟩ := X.hN j a _ _ hj (List.getElem?_eq_getElem (by omega)) (List.getElem?_eq_getElem (by omega))
    rw [h] at g; cases g
  · obtain ⟨j, hj⟩ := List.getElem?_of_mem m
    obtain ⟨hj', _⟩ := List.getElem?_eq_some_iff.mp hj
    obtain ⟨vs, g, _⟩ := X.hR j a _ hj (List.getElem?_eq_getElem (by omega))
    rw [h] at g; cases g
  · rw [z, X.h0] at h; cases h
theorem BoA.nas (X : BoA H nb as rs nds) {j : Nat} {a : Addr} (h : as[j]? = some a) : a ≠ nb ∧ a ∉ rs := ⟨fun z => X.nd.n1 (by rw [← z]; exact List.mem_of_getElem? h), X.nd.dj a (List.mem_of_getElem? h)⟩
theorem BoA.nrs (X : BoA H nb as rs nds) {j : Nat} {r : Addr} (h : rs[j]? = some r) : r ≠ nb ∧ r ∉ as := ⟨fun z => X.nd.n2 (by rw [← z]; exact List.mem_of_getElem? h), fun m => X.nd.dj r m (List.mem_of_getElem? h)⟩
/-- one more node -/
theorem BoA.more (X : BoA H nb as rs nds) {a r : Addr} {n : Nd} {tv : V} {vs : List V} (fa : H a = none) (fr : H r = none) (ne : a ≠ r) {F : List Addr} (c : Chg F H H') (dF : ∀ x ∈ as ++ rs, x ∉ F) (h0 : H' nb = some (.lst ((as.map V.ref) ++ [.ref a])))
    (h1 : H' a = some (.lst [.str (S n.kind), tv, .ref r])) (h2 : H' r = some (.lst vs)) (r1 : Rep H' tv n.tag) (r2 : Reps H' vs (rowD ixD n.row)) : BoA H' nb (as ++ [a]) (rs ++ [r]) (nds ++ [n]) := by
  have la := X.la; have lr := X.lr
  obtain ⟨a1, a2, a3⟩ := X.fresh fa
  obtain ⟨r1', r2', r3'⟩ := X.fresh fr
  refine ⟨by simp [X.la], by simp [X.lr], by rw [List.map_append]; exact h0, fun j x y m e1 e2 e3 => ?_, fun j y m e2 e3 => ?_, X.nd.more a1 a2 a3 r1' r2' r3' ne⟩
  · rcases Nat.lt_or_ge j nds.length with l | l
    · rw [List.getElem?_append_left (by omega)] at e1 e2 e3
      obtain ⟨tv1, g, q⟩ := X.hN j x y m e1 e2 e3
      exact ⟨tv1, c.keep _ _ (dF _ (List.mem_append_left _ (List.mem_of_getElem? e1))) g, q.mono c.tups⟩
    · rw [List.getElem?_append_right (by omega)] at e1 e2 e3
      have e5 : j - nds.length = 0 := by
        cases q : j - nds.length with
        | zero => rfl
        | succ x => rw [q] at e3; simp at e3
      rw [show j - as.length = 0 by omega] at e1
      rw [show j - rs.length = 0 by omega] at e2
      rw [e5] at e3
      cases e1; cases e2; cases e3
      exact ⟨tv, h1, r1⟩
  · rcases Nat.lt_or_ge j nds.length with l | l
    · rw [List.getElem?_append_left (by omega)] at e2 e3
      obtain ⟨vs1, g, q⟩ := X.hR j y m e2 e3
      exact ⟨vs1, c.keep _ _ (dF _ (List.mem_append_right _ (List.mem_of_getElem? e2))) g, q.mono c.tups⟩
    · rw [List.getElem?_append_right (by omega)] at e2 e3
      have e5 : j - nds.length = 0 := by
        cases q : j - nds.length with
        | zero => rfl
        | succ x => rw [q] at e3; simp at e3
      rw [show j - rs.length = 0 by omega] at e2
      rw [e5] at e3
      cases e2; cases e3
      exact ⟨vs, h2, r2⟩
/-- the node k is another -/
theorem BoA.setNode (X : BoA H nb as rs nds) {k : Nat} {a r : Addr} {n : Nd} {tv : V} {vs : List V} (hk : k < nds.length) (fa : H a = none) (fr : H r = none) (ne : a ≠ r) (c : Chg [nb] H H') (h0 : H' nb = some (.lst ((as.map V.ref).set k (.ref a))))
    (h1 : H' a = some (.lst [.str (S n.kind), tv, .ref r])) (h2 : H' r = some (.lst vs)) (r1 : Rep H' tv n.tag) (r2 : Reps H' vs (rowD ixD n.row)) : BoA H' nb (as.set k a) (rs.set k r) (nds.set k n) := by
  have la := X.la; have lr := X.lr
  obtain ⟨a1, a2, a3⟩ := X.fresh fa
  obtain ⟨r1', r2', r3'⟩ := X.fresh fr
  refine ⟨by simp [X.la], by simp [X.lr], by rw [List.map_set]; exact h0, fun j x y m e1 e2 e3 => ?_, fun j y m e2 e3 => ?_, X.nd.put a1 a2 a3 r1' r2' r3' ne⟩
  · rw [List.getElem?_set] at e1 e2 e3
    by_cases e : k = j
    · subst e
      rw [if_pos rfl, if_pos (by omega)] at e1 e2 e3
      cases e1; cases e2; cases e3
      exact ⟨tv, h1, r1⟩
    · rw [if_neg e] at e1 e2 e3
      obtain ⟨tv1, g, q⟩ := X.hN j x y m e1 e2 e3
      exact ⟨tv1, c.keep _ _ (by simp; exact (X.nas e1).1) g, q.mono c.tups⟩
  · rw [List.getElem?_set] at e2 e3
    by_cases e : k = j
    · subst e
      rw [if_pos rfl, if_pos (by omega)] at e2 e3
      cases e2; cases e3
      exact ⟨vs, h2, r2⟩
    · rw [if_neg e] at e2 e3
      obtain ⟨vs1, g, q⟩ := X.hR j y m e2 e3
      exact ⟨vs1, c.keep _ _ (by simp; exact (X.nrs e2).1) g, q.mono c.tups⟩
/-- the row of the node k is another -/
theorem BoA.setRow (X : BoA H nb as rs nds) {k : Nat} {n : Nd} {r : Addr} {vs : List V} {row : List Ent} (hn : nds[k]? = some n) (hr : rs[k]? = some r) (r2 : Reps H vs (rowD ixD row)) :
    BoA (upd H r (.lst vs)) nb as rs (nds.set k ⟨n.kind, n.tag, row⟩) ∧ Chg [r] H (upd H r (.lst vs)) := by
  obtain ⟨vs0, g0, _⟩ := X.hR k r n hr hn
  have c : Chg [r] H (upd H r (.lst vs)) := .upd g0 (fun _ z => by cases z) (List.mem_singleton_self _)
  obtain ⟨nr1, nr2⟩ := X.nrs hr
  refine ⟨⟨by simp [X.la], by simp [X.lr], by rw [upd_ne (Ne.symm nr1)]; exact X.h0, fun j x y m e1 e2 e3 => ?_, fun j y m e2 e3 => ?_, X.nd⟩, c⟩
  · have nx : x ≠ r := fun z => nr2 (by rw [← z]; exact List.mem_of_getElem? e1)
    rw [List.getElem?_set] at e3
    by_cases e : k = j
    · subst e
      rw [if_pos rfl] at e3
      split at e3
      · cases e3
        obtain ⟨tv1, g, q⟩ := X.hN k x y n e1 e2 hn
        exact ⟨tv1, by rw [upd_ne nx]; exact g, q.mono c.tups⟩
      · cases e3
    · rw [if_neg e] at e3
      obtain ⟨tv1, g, q⟩ := X.hN j x y m e1 e2 e3
      exact ⟨tv1, by rw [upd_ne nx]; exact g, q.mono c.tups⟩
  · rw [List.getElem?_set] at e3
    by_cases e : k = j
    · subst e
      rw [if_pos rfl] at e3
      have : y = r := Option.some.inj (e2.symm.trans hr)
      subst this
      split at e3
      · cases e3; exact ⟨vs, upd_same, r2.mono c.tups⟩
      · cases e3
    · rw [if_neg e] at e3
      have ny : y ≠ r := fun z => e (inj_nodup X.nd.nr (by rw [← z] at hr; exact hr) e2)
      obtain ⟨vs1, g, q⟩ := X.hR j y m e2 e3
      exact ⟨vs1, by rw [upd_ne ny]; exact g, q.mono c.tups⟩
theorem BoA.same (X : BoA H nb as rs nds) (s : Same H H') : BoA H' nb as rs nds := X.frame (F := []) (.same s) (fun _ _ h => by cases h)
end
end D0
namespace D0
open PySem PySem.Spec PyProof.Rows L2 SX NumText
structure Bx where
  c : Int
  n : Int
  s : Int
  t : Int
  k : Int
def Bx.o (x : Bx) : HO := .lst (C5 x.c x.n x.s x.t x.k)
def tkV (x : Bx) (m : Int) : Int := if x.c > 0 ∧ x.n > 0 then x.c % m else
  ((((((x.s * 48271 + (x.t + 1) * 1103515245 + x.k * 69621) % 2147483647) * ((x.s * 48271 + (x.t + 1) * 1103515245 + x.k * 69621) % 2147483647) + (x.t + 1) * 40692 + 7) % 2147483399)) / 31) % m
def tkB (x : Bx) (m : Int) : Bx := if x.c > 0 ∧ x.n > 0 then ⟨x.c / m, x.n - 1, x.s, x.t, x.k⟩ else ⟨x.c, x.n, x.s, x.t + 1, x.k⟩
def spTakeD : Sp := fun vs H Q _ => ∃ (b : Addr) (x : Bx) (m : Int), vs = [.ref b, .int m] ∧ H b = some x.o ∧ 0 < m ∧ m < 1000000000 ∧ (0 ≤ tkV x m → tkV x m < m → Q (.int (tkV x m)) (upd H b (tkB x m).o))
section
variable {P : Program} {w : World} {K : PySem.W.Frag} {mg : Str → Option Value} {base : Heap}
theorem okD__law_take (T : Txt K w mg) : OkD P w K mg base CX0 1 "_law_take" p__law_take spTakeD := by
  refine T.g__law_take.ok sc__law_take (fun vs H Q E h => ?_) (fun f cdv A outer s H vs Q E hr h => ?_)
  · obtain ⟨b, x, n, rfl, _⟩ := h; rfl
  obtain ⟨b, ⟨c, m, sd, t, kk⟩, n, rfl, hb, hn0, hn1, q⟩ := h
  have hb : H b = some (.lst (C5 c m sd t kk)) := hb
  refine split_at 1 (fun tt => ¬ (c > 0 ∧ m > 0) → tt { nx := fun _ H' => Q .non H', rt := Q } [some (.ref b), some (.int n), none, none, none] H) ?_ (fun tt ht hg => ?_)
  rotate_left
  · refine ⟨_, pss_cons (ps_if (PW.pt (pw_and (pt_cmpR op_gt (pe_ix ix_list (pv 0) pe_int (fun _ _ => rfl)) pe_int (nomark _)) (pw_and1 (pt_cmpR op_gt (pe_ix ix_list (pv 0) pe_int (fun _ _ => rfl)) pe_int (nomark _))))) (pss_cons (ps_set (i := 2) sc__law_take.nd rfl (.inl rfl) (pe_op op_mod (pe_callTy call_int1 (by rfl) T.z_int PyProof.Rows.boot_int (pa_cons (pe_ix ix_list (pv 0) pe_int (fun _ _ => rfl)) pa_nil)) (pv 1)))
      (pss_cons (ps_asg (pe_op op_fdiv (pe_ix ix_list (pv 0) pe_int (fun _ _ => rfl)) (pv 1)) (pg_sub (pv 0) pe_int set_list))
      (pss_cons (ps_asg (pe_op op_sub (pe_ix ix_list (pv 0) pe_int (fun _ _ => rfl)) pe_int) (pg_sub (pv 0) pe_int set_list))
      (pss_one (ps_ret (pv 2)))))) pss_nil) ht, ?_⟩
    refine ⟨_, rfl, b, _, 0, _, rfl, rfl, SqL.of hb, rfl, _, _, rfl, rfl, _, rfl, ite2 (fun k1 => ?_) (fun k1 => hg fun z => k1 (decide_eq_true z.1))⟩
    refine ⟨_, rfl, b, _, 1, _, rfl, rfl, SqL.of hb, rfl, _, _, rfl, rfl, _, rfl, ite2 (fun k2 => ?_) (fun k2 => hg fun z => k2 (decide_eq_true z.2))⟩
    have k1 : c > 0 := of_decide_eq_true k1
    have k2 : m > 0 := of_decide_eq_true k2
    refine ⟨_, rfl, b, _, 0, _, rfl, rfl, SqL.of hb, rfl, .inl ⟨_, rfl, _, rfl, _, _, rfl, rfl, hn0, ?_⟩⟩
    refine ⟨_, rfl, b, _, 0, _, rfl, rfl, SqL.of hb, rfl, _, rfl, _, _, rfl, rfl, ?_, ?_⟩
    · exact ⟨hn0, by omega⟩
    refine ⟨_, rfl, b, _, 0, 0, rfl, rfl, hb, rfl, ?_⟩
    refine ⟨_, rfl, b, _, 1, _, rfl, rfl, SqL.of upd_same, rfl, _, _, rfl, rfl, ?_⟩
    refine ⟨_, rfl, b, _, 1, 1, rfl, rfl, upd_same, rfl, ?_⟩
    refine ⟨_, rfl, ?_⟩
    rw [upd_upd]
    have e1 : tkV ⟨c, m, sd, t, kk⟩ n = c % n := if_pos ⟨k1, k2⟩
    have e2 : tkB ⟨c, m, sd, t, kk⟩ n = ⟨c / n, m - 1, sd, t, kk⟩ := if_pos ⟨k1, k2⟩
    rw [e1, e2] at q
    exact q (Int.emod_nonneg _ (by omega)) (Int.emod_lt_of_pos _ hn0)
  · refine ⟨_, (pss_cons (ps_asg (pe_op op_add (pe_ix ix_list (pv 0) pe_int (fun _ _ => rfl)) pe_int) (pg_sub (pv 0) pe_int set_list))
      (pss_cons (ps_set (i := 3) sc__law_take.nd rfl (.inl rfl) (pe_op op_mod (pe_callTy call_int1 (by rfl) T.z_int PyProof.Rows.boot_int (pa_cons (pe_op op_add (pe_op op_add (pe_op op_mul (pe_ix ix_list (pv 0) pe_int (fun _ _ => rfl)) pe_int) (pe_op op_mul (pe_ix ix_list (pv 0) pe_int (fun _ _ => rfl)) pe_int)) (pe_op op_mul (pe_ix ix_list (pv 0) pe_int (fun _ _ => rfl)) pe_int)) pa_nil)) pe_int))
      (pss_cons (ps_set (i := 4) sc__law_take.nd rfl (.inl rfl) (pe_op op_mod (pe_callTy call_int1 (by rfl) T.z_int PyProof.Rows.boot_int (pa_cons (pe_op op_add (pe_op op_add (pe_op op_mul (pv 3) (pv 3)) (pe_op op_mul (pe_ix ix_list (pv 0) pe_int (fun _ _ => rfl)) pe_int)) pe_int) pa_nil)) pe_int))
      (pss_one (ps_ret (pe_op op_mod (pe_callTy call_int1 (by rfl) T.z_int PyProof.Rows.boot_int (pa_cons (pe_op op_fdiv (pv 4) pe_int) pa_nil)) (pv 1))))))), ?_⟩
    intro k12
    refine ⟨_, rfl, b, _, 3, _, rfl, rfl, SqL.of hb, rfl, _, _, rfl, rfl, ?_⟩
    refine ⟨_, rfl, b, _, 3, 3, rfl, rfl, hb, rfl, ?_⟩
    refine ⟨_, rfl, b, _, 2, _, rfl, rfl, SqL.of upd_same, rfl, _, _, rfl, rfl, .inr ⟨by decide, by decide⟩, ?_⟩
    refine ⟨_, rfl, b, _, 3, _, rfl, rfl, SqL.of upd_same, rfl, _, _, rfl, rfl, .inr ⟨by decide, by decide⟩, _, _, rfl, rfl, ?_⟩
    refine ⟨_, rfl, b, _, 4, _, rfl, rfl, SqL.of upd_same, rfl, _, _, rfl, rfl, .inr ⟨by decide, by decide⟩, _, _, rfl, rfl, .inl ⟨_, rfl, _, _, rfl, rfl, (by show (0 : Int) < _; decide), ?_⟩⟩
    obtain ⟨f1, hf1⟩ : ∃ f1 : Int, f1 = (sd * 48271 + (t + 1) * 1103515245 + kk * 69621) % 2147483647 := ⟨_, rfl⟩
    have hf0 : 0 ≤ f1 := by rw [hf1]; exact Int.emod_nonneg _ (by decide)
    have hf2 : f1 < 2147483647 := by rw [hf1]; exact Int.emod_lt_of_pos _ (by decide)
    refine ⟨_, rfl, _, rfl, _, _, rfl, rfl, .inl ?_, ?_⟩
    · show (-(2 ^ 64) : Int) < (sd * 48271 + (t + 1) * 1103515245 + kk * 69621) % 2147483647 ∧ (sd * 48271 + (t + 1) * 1103515245 + kk * 69621) % 2147483647 < 2 ^ 64
      rw [← hf1]; omega
    refine ⟨_, rfl, b, _, 3, _, rfl, rfl, SqL.of upd_same, rfl, _, _, rfl, rfl, .inr ⟨by decide, by decide⟩, _, _, rfl, rfl, _, _, rfl, rfl, .inl ⟨_, rfl, _, _, rfl, rfl, (by show (0 : Int) < _; decide), ?_⟩⟩
    refine ⟨_, rfl, _, _, rfl, rfl, ⟨by decide, by decide⟩, .inl ⟨_, rfl, _, rfl, _, _, rfl, rfl, hn0, ?_⟩⟩
    have e1 : tkV ⟨c, m, sd, t, kk⟩ n = _ := if_neg k12
    have e2 : tkB ⟨c, m, sd, t, kk⟩ n = ⟨c, m, sd, t + 1, kk⟩ := if_neg k12
    rw [e1, e2] at q
    exact q (Int.emod_nonneg _ (by omega)) (Int.emod_lt_of_pos _ hn0)
end
end D0
namespace D0
open PySem PySem.Spec PyProof.Rows L2 SX NumText
def msOf (ns : List Int) : List Int := (cutV (ns.map V.int) none (some 1)).map fun v => match v with
  | .int i => i
  | _ => 0
theorem msOf_eq {ns ms : List Int} (h : cutV (ns.map V.int) none (some 1) = ms.map V.int) : msOf ns = ms := by
  unfold msOf; rw [h, List.map_map]
  exact List.map_id ms
def cellF (ns : List Int) (k : Nat) : Int := if k < ns.length then ns.getD k 0 else ((k : Int) + 3) * ((msOf ns).sum % 1000003) + 7919 * (k : Int) + 105723
def boxF (ns : List Int) (k : Nat) : Bx := if cellF ns k ≥ 1000000000000000000 then ⟨cellF ns k, 60, cellF ns k, 0, k⟩ else ⟨0, 0, cellF ns k, 0, k⟩
def spCellD (K : PySem.W.Frag) : Sp := fun vs H Q _ => ∃ (a : Addr) (ns : List Int) (k : Nat), vs = [.ref a, .int k] ∧ SqL K H a (ns.map V.int) ∧ k ≤ 60 ∧ ∀ H', Same H H' → Q (.int (cellF ns k)) H'
def spBoxD (K : PySem.W.Frag) : Sp := fun vs H Q _ => ∃ (a : Addr) (ns : List Int) (k : Nat), vs = [.ref a, .int k] ∧ SqL K H a (ns.map V.int) ∧ k ≤ 60 ∧ ∀ p H', Same H H' → H p = none → H' p = some (boxF ns k).o → Q (.ref p) H'
def kindF (x : Bx) : Str := (KS ++ KX).getD (tkV x 14).toNat "list"
def spKindD : Sp := fun vs H Q _ => ∃ (b : Addr) (x : Bx), vs = [.ref b] ∧ H b = some x.o ∧ ∀ H', Stp b H H' → H' b = some (tkB x 14).o → kindF x ∈ KS → Q (.str (kindF x)) H'
section
variable {P : Program} {w : World} {K : PySem.W.Frag} {mg : Str → Option Value} {base : Heap}
theorem okD__law_cell (T : Txt K w mg) : OkD P w K mg base CX0 1 "_law_cell" p__law_cell (spCellD K) := by
  refine T.g__law_cell.ok sc__law_cell (fun vs H Q E h => ?_) (fun f cdv A outer s H vs Q E hr h => ?_)
  · obtain ⟨a, ns, k, rfl, _⟩ := h; rfl
  obtain ⟨a, ns, k, rfl, hS, hk, q⟩ := h
  refine ⟨_, (pss_cons (ps_if (pt_cmpR op_lt (pv 1) (pe_callB call_len_seq (by rfl) T.z_len PySem.boot_len (pa_cons (pv 0) pa_nil)) (nomark _)) (pss_one (ps_ret (pe_callTy call_int1 (by rfl) T.z_int PyProof.Rows.boot_int (pa_cons (pe_ix ix_list (pv 0) (pv 1) (fun _ _ => rfl)) pa_nil)))) pss_nil)
      (pss_one (ps_ret (pe_op op_add (pe_op op_add (pe_op op_mul (pe_op op_add (pv 1) pe_int) (pe_op op_mod (pe_callTy call_int1 (by rfl) T.z_int PyProof.Rows.boot_int (pa_cons (pe_callB (cr_sum rfl) (by rfl) T.z_sum (by decide +kernel) (pa_cons (pe_slice sl_list (pv 0) po_none (po_some pe_int)) pa_nil)) pa_nil)) pe_int)) (pe_op op_mul pe_int (pv 1))) pe_int)))), ?_⟩
  refine ⟨_, rfl, _, rfl, a, _, rfl, .inl hS, _, _, rfl, rfl, _, rfl, ite2 (fun c => ?_) (fun c => ?_)⟩
  · have c := of_decide_eq_true c
    have c : (k : Int) < ((ns.map V.int).length : Int) := c
    rw [List.length_map] at c
    have hkl : k < ns.length := by omega
    refine ⟨_, rfl, _, rfl, a, _, _, .int ns[k], rfl, rfl, hS, atI_nat (by rw [List.getElem?_map, List.getElem?_eq_getElem hkl]; rfl), ?_⟩
    have e : cellF ns k = ns[k] := by unfold cellF; rw [if_pos hkl, List.getD_eq_getElem?_getD, List.getElem?_eq_getElem hkl]; rfl
    rw [e] at q
    exact .inl ⟨_, rfl, q _ (.refl _)⟩
  · have c' : ¬ k < ns.length := fun z => c (decide_eq_true (by show (k : Int) < ((ns.map V.int).length : Int); rw [List.length_map]; omega))
    refine ⟨_, rfl, _, _, rfl, rfl, _, rfl, 1, rfl, a, _, rfl, hS, fun p hp => ?_⟩
    have mem : ∀ x ∈ cutV (ns.map V.int) none (some 1), ∃ i : Int, x = V.int i := fun x hx => by
      have : x ∈ ns.map V.int := List.mem_of_mem_drop (List.mem_of_mem_take hx)
      obtain ⟨i, _, e⟩ := List.mem_map.mp this
      exact ⟨i, e.symm⟩
    obtain ⟨ms, em⟩ := ints_map mem
    refine ⟨p, ms, rfl, SqL.of (by rw [upd_same, em]), .inl ⟨_, rfl, _, _, rfl, rfl, (by show (0 : Int) < _; decide), _, _, rfl, rfl, .inl ⟨by omega, by omega⟩, ?_⟩⟩
    refine ⟨_, rfl, _, _, rfl, rfl, .inl ⟨by decide, by decide⟩, _, _, rfl, rfl, _, _, rfl, rfl, ?_⟩
    have e : cellF ns k = ((k : Int) + 3) * (ms.sum % 1000003) + 7919 * (k : Int) + 105723 := by unfold cellF; rw [if_neg c', msOf_eq em]
    rw [e] at q
    exact q _ (same_new hp _)
theorem okD__law_box (T : Txt K w mg) (O : OkD P w K mg base CX0 1 "_law_cell" p__law_cell (spCellD K)) : OkD P w K mg base CX0 2 "_law_box" p__law_box (spBoxD K) := by
  refine T.g__law_box.ok sc__law_box (fun vs H Q E h => ?_) (fun f cdv A outer s H vs Q E hr h => ?_)
  · obtain ⟨a, ns, k, rfl, _⟩ := h; rfl
  obtain ⟨a, ns, k, rfl, hS, hk, q⟩ := h
  refine ⟨_, (pss_cons (ps_set (i := 2) sc__law_box.nd rfl (.inl rfl) (pcall O hr (pa_cons (pv 0) (pa_cons (pv 1) pa_nil))))
      (pss_cons (ps_if (pt_cmpR op_ge (pv 2) (pe_op op_pow pe_int pe_int) (nomark _)) (pss_one (ps_ret (pe_lst (pa_cons (pv 2) (pa_cons pe_int (pa_cons (pv 2) (pa_cons pe_int (pa_cons (pv 1) pa_nil)))))))) pss_nil)
      (pss_one (ps_ret (pe_lst (pa_cons pe_int (pa_cons pe_int (pa_cons (pv 2) (pa_cons pe_int (pa_cons (pv 1) pa_nil)))))))))), ?_⟩
  refine ⟨_, rfl, _, rfl, a, ns, k, rfl, hS, hk, fun H1 s1 => ?_⟩
  refine ⟨_, rfl, _, _, rfl, rfl, ⟨by decide, by decide, by decide⟩, _, _, rfl, rfl, _, rfl, ite2 (fun c => ?_) (fun c => ?_)⟩
  · have c : cellF ns k ≥ 1000000000000000000 := of_decide_eq_true c
    refine ⟨_, rfl, _, rfl, _, rfl, by show 5 ≤ sizeLine; decide, fun z hz => ?_⟩
    exact q z _ (s1.trans (same_new hz _)) (s1.free hz) (by unfold boxF; rw [if_pos c]; exact upd_same)
  · have c : ¬ cellF ns k ≥ 1000000000000000000 := fun z => c (decide_eq_true z)
    refine ⟨_, rfl, _, rfl, by show 5 ≤ sizeLine; decide, fun z hz => ?_⟩
    exact q z _ (s1.trans (same_new hz _)) (s1.free hz) (by unfold boxF; rw [if_neg c]; exact upd_same)
theorem okD__law_kind (T : Txt K w mg) (O : OkD P w K mg base CX0 1 "_law_take" p__law_take spTakeD) (Ok : OkD P w K mg base CX0 1 "_law_kinds" p__law_kinds spKinds) : OkD P w K mg base CX0 2 "_law_kind" p__law_kind spKindD := by
  refine T.g__law_kind.ok sc__law_kind (fun vs H Q E h => ?_) (fun f cdv A outer s H vs Q E hr h => ?_)
  · obtain ⟨b, x, rfl, _⟩ := h; rfl
  obtain ⟨b, x, rfl, hx, q⟩ := h
  have hb : Bag H b := ⟨_, _, _, _, _, hx⟩
  refine ⟨_, (pss_cons (ps_set (i := 1) sc__law_kind.nd rfl (.inl rfl) (pe_op op_catT (pcall0 Ok hr) (pe_tup (pa_cons pe_str (pa_cons pe_str (pa_cons pe_str (pa_cons pe_str pa_nil)))))))
      (pss_one (ps_ret (pe_ix ix_tup (pv 1) (pcall O hr (pa_cons (pv 0) (pa_cons pe_int pa_nil))) (fun _ _ => rfl))))), ?_⟩
  refine ⟨rfl, fun p H1 s1 h1 => ⟨by show 4 ≤ sizeLine; decide, fun p2 hp2 => ?_⟩⟩
  refine ⟨p, p2, _, _, rfl, rfl, SqT.of (same_new hp2 _ _ _ h1), SqT.of upd_same, (by intro z; cases z), (by show 14 ≤ sizeLine; decide), (fun z => by cases z), fun _ p3 hp3 => ?_⟩
  have S3 := s1.trans ((same_new hp2 (.tup (KX.map V.str))).trans (same_new hp3 (.tup ((KS ++ KX).map V.str))))
  have st : Stp b H _ := .same hb S3
  refine ⟨_, rfl, _, rfl, b, x, 14, rfl, S3 _ _ hx, by decide, by decide, fun r0 r1 => ?_⟩
  obtain ⟨k, ek⟩ : ∃ k : Nat, tkV x 14 = (k : Int) := ⟨(tkV x 14).toNat, by omega⟩
  have hk : k < (KS ++ KX).length := by show k < 14; omega
  have ex : kindF x = (KS ++ KX)[k] := by unfold kindF; rw [ek, Int.toNat_natCast, List.getD_eq_getElem?_getD, List.getElem?_eq_getElem hk]; rfl
  rw [ek]
  have st2 : Stp b (upd (upd H1 p2 (.tup (KX.map V.str))) p3 (.tup ((KS ++ KX).map V.str))) (upd (upd (upd H1 p2 (.tup (KX.map V.str))) p3 (.tup ((KS ++ KX).map V.str))) b (tkB x 14).o) := ⟨st.b1, ⟨_, _, _, _, _, upd_same⟩, fun a o n e => by rw [upd_ne n]; exact e⟩
  refine ⟨p3, _, _, .str (KS ++ KX)[k], rfl, rfl, SqT.of (st2.tups p3 ((KS ++ KX).map V.str) upd_same), atI_nat (by rw [List.getElem?_map, List.getElem?_eq_getElem hk]; rfl), ?_⟩
  rw [← ex]
  exact q _ (st.trans st2) upd_same (by rw [ex]; exact kx_in _ (List.getElem_mem hk))
end
end D0
namespace D0
open PySem PySem.Spec PyProof.Rows L2 SX NumText
def m1 (x : Bx) : Int := if tkV (tkB x 5) 12 = 5 then 9 + tkV (tkB (tkB x 5) 12) 30 else tkV x 5
def m2 (z : Str) (r : Int) : Int := if V.str z = .str (Str.ofString "cell") then 1 else if V.str z = .str (Str.ofString "iterator") then 1 else r
def m3 (z : Str) (r : Int) : Int := if V.str z = .str (Str.ofString "method") then 1 + r % 2 else r
def lenF (z : Str) (n : Nat) : Nat := if V.str z = .str (Str.ofString "class") then n + 1 else if V.str z = .str (Str.ofString "instance") then n + 1 else if V.str z = .str (Str.ofString "dict") then 2 * n else n
/-- how many slots are drawn -/
def formLen (z : Str) (x : Bx) : Nat := lenF z (m3 z (m2 z (m1 x))).toNat
def spFormD : Sp := fun vs H Q _ => ∃ (b pl er : Addr) (z : Str) (m : Nat → Prop) (x : Bx), vs = [.ref b, .str z, .ref pl, .ref er] ∧ H b = some x.o ∧ Pool H b pl m ∧ Pool H b er m ∧
  ∀ p tv r tag es vs H', Stp b H H' → H' p = some (.tup [tv, .ref r]) → Rep H' tv tag → dep tag ≤ 3 → H r = none → H' r = some (.lst vs) → Reps H' vs (rowD ixD es) → (∀ e ∈ es, e.okP m) → es.length ≤ 100 → es.length = formLen z x → Q (.ref p) H'
section
variable {P : Program} {w : World} {K : PySem.W.Frag} {mg : Str → Option Value} {base : Heap}
theorem okD__law_form (T : Txt K w mg) (OD : OkD P w K mg base CX0 1 "_law_take" p__law_take spTakeD) (O : OkD P w K mg base CX0 1 "_law_take" p__law_take spTake) (Ow : OkD P w K mg base CX0 2 "_law_word" p__law_word spWord)
    (Om : OkD P w K mg base CX0 1 "_law_marks" p__law_marks spMarks) (Oe : OkD P w K mg base CX0 6 "_law_entry" p__law_entry spMarked) (Ot : OkD P w K mg base CX0 3 "_law_tag" p__law_tag spTag) : OkD P w K mg base CX0 7 "_law_form" p__law_form spFormD := by
  refine T.g__law_form.ok sc__law_form (fun vs H Q E h => ?_) (fun f cdv A outer s H vs Q E hr h => ?_)
  · obtain ⟨b, pl, er, z, m, x, rfl, _⟩ := h; rfl
  obtain ⟨b, pl, er, z, m, x, rfl, hx, hp, he, q⟩ := h
  have hb : Bag H b := ⟨_, _, _, _, _, hx⟩
  obtain ⟨nF, enF⟩ : ∃ nF, nF = (m3 z (m2 z (m1 x))).toNat := ⟨_, rfl⟩
  have q : ∀ p tv r tag es vs H', Stp b H H' → H' p = some (.tup [tv, .ref r]) → Rep H' tv tag → dep tag ≤ 3 → H r = none → H' r = some (.lst vs) → Reps H' vs (rowD ixD es) → (∀ e ∈ es, e.okP m) → es.length ≤ 100 → es.length = lenF z nF → Q (.ref p) H' := by rw [enF]; exact q
  have lim : (1000 : Nat) ≤ sizeLine := by decide
  have two : 2 ≤ sizeLine := by omega
  have one : 1 ≤ sizeLine := by omega
  refine split_at 6 (fun t => ∀ (n : Nat) (y : Option V) (r : Addr) (vs : List V) (es : List Ent) (H1 : Hp) (o : Option V), n ≤ 40 → n = nF → Stp b H H1 → H r = none → H1 r = some (.lst vs) → Reps H1 vs (rowD ixD es) → (∀ e ∈ es, e.okP m) → es.length = n →
    t { nx := fun _ H' => Q .non H', rt := Q } [some (.ref b), some (.str z), some (.ref pl), some (.ref er), some (.int (n : Nat)), y, some (.ref r), none, none, none, o] H1) ?_ (fun t6 ht6 hg6 => ?_)
  · refine ⟨_, (pss_cons (ps_set (i := 7) sc__law_form.nd rfl (.inl rfl) (pcall Ot hr (pa_cons (pv 0) (pa_cons (pv 1) (pa_cons (pv 4) pa_nil)))))
      (pss_cons (ps_if (pt_cmpR op_eq (pv 1) pe_str (nomark _)) (pss_one (ps_ret (pe_tup (pa_cons (pv 7) (pa_cons (pe_op op_cat (pe_lst (pa_cons (pe_tup (pa_cons pe_str pa_nil)) pa_nil)) (pv 6)) pa_nil))))) pss_nil)
      (pss_cons (ps_if (pt_cmpR op_eq (pv 1) pe_str (nomark _)) (pss_one (ps_ret (pe_tup (pa_cons (pv 7) (pa_cons (pe_op op_cat (pe_lst (pa_cons (pe_tup (pa_cons pe_str (pa_cons pe_str pa_nil))) pa_nil)) (pv 6)) pa_nil))))) pss_nil)
      (pss_cons (ps_if (pt_cmpR op_ne (pv 1) pe_str (nomark _)) (pss_one (ps_ret (pe_tup (pa_cons (pv 7) (pa_cons (pv 6) pa_nil))))) pss_nil)
      (pss_cons (ps_set (i := 8) sc__law_form.nd rfl (.inl rfl) (pcall O hr (pa_cons (pv 0) (pa_cons pe_int pa_nil))))
      (pss_cons (ps_set (i := 9) sc__law_form.nd rfl (.inl rfl) (pe_lst pa_nil))
      (pss_cons (ps_for PassesOwn.never rfl (pi_range1 rfl T.z_range (pa_cons (pv 4) pa_nil)) (pg_name (i := 5) sc__law_form.nd rfl (Or.inl rfl)) (pss_cons (ps_expr (pe_bm PySem.F.plainAttrs_list PySem.F.slot_list_append PySem.F.type_list_append mt_append (pv 9) (pa_cons (pe_tup (pa_cons pe_str (pa_cons (pe_op op_add (pv 8) (pv 5)) pa_nil))) pa_nil)))
      (pss_one (ps_expr (pe_bm PySem.F.plainAttrs_list PySem.F.slot_list_append PySem.F.type_list_append mt_append (pv 9) (pa_cons (pe_ix ix_list (pv 6) (pv 5) (fun _ _ => rfl)) pa_nil))))))
      (pss_one (ps_ret (pe_tup (pa_cons (pv 7) (pa_cons (pv 9) pa_nil)))))))))))), ?_⟩
    intro n y r vs es H1 o hn hnF x1 hr0 hr1 hrs hok hel
    have hvl : vs.length = n := by rw [hrs.len]; unfold rowD; rw [List.length_map]; exact hel
    have nr : r ≠ b := fun z => by obtain ⟨c1, c2, c3, c4, c5, e⟩ := hb; rw [z, e] at hr0; cases hr0
    refine ⟨_, rfl, _, rfl, _, rfl, b, z, n, rfl, x1.b1, by omega, fun tv tag H2 x2 rt hd => ?_⟩
    have h2 := x2.keep _ _ nr hr1
    have hrs := hrs.mono x2.tups
    have X := x1.trans x2
    have fin : ∀ (l : Addr) (ws : List V) (fs : List Ent) (H3 : Hp), Stp b H H3 → Tups H2 H3 → H l = none → H3 l = some (.lst ws) → Reps H3 ws (rowD ixD fs) → (∀ e ∈ fs, e.okP m) → fs.length ≤ 100 → fs.length = lenF z nF → [tv, .ref l].length ≤ sizeLine ∧ ∀ p, H3 p = none → Q (.ref p) (upd H3 p (.tup [tv, .ref l])) := fun l ws fs H3 x3 t3 f3 h3 r3 o3 l3 l4 =>
      ⟨two, fun p hp => q p tv l tag fs ws _ (x3.new hp) upd_same (rt.mono (t3.trans (.new hp))) hd f3 (by rw [upd_ne (ne_of_none h3 hp)]; exact h3) (r3.mono (.new hp)) o3 l3 l4⟩
    have cat : ∀ (us : List V) (e : Ent) (p0 : Addr), H2 p0 = none → Rep (upd H2 p0 (.tup us)) (.ref p0) (e.d ixD) → e.okP m → lenF z nF = n + 1 → ∀ l0, upd H2 p0 (.tup us) l0 = none →
        ∃ xs zs, upd (upd H2 p0 (.tup us)) l0 (.lst [.ref p0]) l0 = some (.lst xs) ∧ upd (upd H2 p0 (.tup us)) l0 (.lst [.ref p0]) r = some (.lst zs) ∧ xs.length + zs.length ≤ sizeLine ∧ ∀ l1, upd (upd H2 p0 (.tup us)) l0 (.lst [.ref p0]) l1 = none →
          [tv, .ref l1].length ≤ sizeLine ∧ ∀ p, upd (upd (upd H2 p0 (.tup us)) l0 (.lst [.ref p0])) l1 (.lst (xs ++ zs)) p = none → Q (.ref p) (upd (upd (upd (upd H2 p0 (.tup us)) l0 (.lst [.ref p0])) l1 (.lst (xs ++ zs))) p (.tup [tv, .ref l1])) := fun us e p0 hp0 re oe elen l0 hl0 => by
      have a1 := X.new (o := HO.tup us) hp0
      have a2 := a1.new (o := HO.lst [.ref p0]) hl0
      have k1 : upd H2 p0 (.tup us) r = some (.lst vs) := by rw [upd_ne (ne_of_none h2 hp0)]; exact h2
      refine ⟨_, _, upd_same, by rw [upd_ne (ne_of_none k1 hl0)]; exact k1, by show 1 + vs.length ≤ _; omega, fun l1 hl1 => ?_⟩
      have t1 := Tups.new (o := HO.tup us) hp0
      have t2 := Tups.new (o := HO.lst [V.ref p0]) hl0
      have t3 := Tups.new (o := HO.lst ([V.ref p0] ++ vs)) hl1
      refine fin l1 ([.ref p0] ++ vs) (e :: es) _ (a2.new hl1) (t1.trans (t2.trans t3)) (a2.free hl1) upd_same (.cons (re.mono (t2.trans t3)) (hrs.mono (t1.trans (t2.trans t3)))) (fun x hx => ?_) (by simp [hel]; omega) (by rw [elen]; simp [hel])
      rcases List.mem_cons.mp hx with rfl | hx
      · exact oe
      · exact hok x hx
    refine ⟨_, rfl, rfl, _, rfl, ite2 (fun k1 => ?_) (fun k1 => ?_)⟩
    · refine ⟨_, rfl, one, fun p0 hp0 => ⟨one, fun l0 hl0 => ⟨_, rfl, ?_⟩⟩⟩
      obtain ⟨xs, zs, a1, a2, a3, a4⟩ := cat [.str (Str.ofString "none")] (.pl (.oth (cs (Str.ofString "none")) [])) p0 hp0 (rep_oth (Rep.one upd_same (Rep.sv _))) (oth_ok (.inl rfl) (by unfold deps; rfl)) (by rw [← hnF]; exact if_pos (of_decide_eq_true k1)) l0 hl0
      exact ⟨l0, r, xs, zs, rfl, rfl, a1, a2, a3, a4⟩
    have k1 : ¬ V.str z = .str (Str.ofString "class") := fun z => k1 (decide_eq_true z)
    refine ⟨_, rfl, rfl, _, rfl, ite2 (fun k2 => ?_) (fun k2 => ?_)⟩
    · refine ⟨_, rfl, two, fun p0 hp0 => ⟨one, fun l0 hl0 => ⟨_, rfl, ?_⟩⟩⟩
      obtain ⟨xs, zs, a1, a2, a3, a4⟩ := cat [.str (Str.ofString "errorclass"), .str (Str.ofString "ValueError")] (.pl (.oth (cs (Str.ofString "errorclass")) [.str (cs (Str.ofString "ValueError"))])) p0 hp0 (rep_oth (Rep.two upd_same (Rep.sv _) (Rep.sv _))) (oth_ok (.inr (.inl rfl)) (by rw [deps1]; unfold dep; rfl)) (by rw [← hnF]; unfold lenF; rw [if_neg k1, if_pos (of_decide_eq_true k2)]) l0 hl0
      exact ⟨l0, r, xs, zs, rfl, rfl, a1, a2, a3, a4⟩
    have k2 : ¬ V.str z = .str (Str.ofString "instance") := fun z => k2 (decide_eq_true z)
    refine ⟨_, rfl, rfl, _, rfl, ite2 (fun k3 => ?_) (fun k3 => ?_)⟩
    · have k3 : ¬ V.str z = .str (Str.ofString "dict") := by simpa using k3
      exact ⟨_, rfl, _, rfl, fin r vs es H2 X .refl hr0 h2 hrs hok (by omega) (by unfold lenF; rw [if_neg k1, if_neg k2, if_neg k3, ← hnF]; exact hel)⟩
    have k3 : V.str z = .str (Str.ofString "dict") := by simpa using k3
    refine ⟨_, rfl, b, 9, rfl, x2.b1, by decide, by decide, fun f0 H3 _ _ x3 => ⟨Nat.zero_le _, fun D1 hD1 => ?_⟩⟩
    have nD : D1 ≠ b := x3.b1.ne hD1
    have X3 := X.trans x3
    have h3 := x3.keep _ _ nr h2
    have nDr : r ≠ D1 := ne_of_none h3 hD1
    refine ⟨_, rfl, n, rfl, by omega, by omega, ?_⟩
    refine for_range (lo := 0) (n := n) (fun i σ H' => ∃ y, σ = [some (.ref b), some (.str z), some (.ref pl), some (.ref er), some (.int (n : Nat)), y, some (.ref r), some tv, some (.int f0), some (.ref D1), o] ∧ Stp b H3 H' ∧ ∃ ws fs, H' D1 = some (.lst ws) ∧ Reps H' ws (rowD ixD fs) ∧ (∀ e ∈ fs, e.okP m) ∧ fs.length = 2 * i) ⟨y, rfl, (Stp.refl x3.b1).new hD1, [], [], upd_same, .nil, (fun _ h => by cases h), rfl⟩ ?_ ?_
    · rintro i σ H4 hi ⟨y, rfl, x4, ws, fs, h4, r4, o4, l4⟩
      have wl : ws.length = 2 * i := by rw [r4.len]; unfold rowD; rw [List.length_map]; exact l4
      refine ⟨_, rfl, .inl ⟨rfl, _, SqL.of h4⟩, _, rfl, _, rfl, _, _, rfl, rfl, two, fun p5 hp5 => ?_⟩
      have h5 : upd H4 p5 (.tup [.str (Str.ofString "number"), .int (f0 + (0 + (i : Int)))]) D1 = some (.lst ws) := by rw [upd_ne (ne_of_none h4 hp5)]; exact h4
      refine ⟨D1, ws, _, rfl, rfl, h5, by omega, ?_⟩
      have x6 := (x4.new (o := HO.tup [.str (Str.ofString "number"), .int (f0 + (0 + (i : Int)))]) hp5).grow (o := HO.lst (ws ++ [.ref p5])) hD1 nD
      have r6 : Reps (upd (upd H4 p5 (.tup [.str (Str.ofString "number"), .int (f0 + (0 + (i : Int)))])) D1 (.lst (ws ++ [.ref p5]))) (ws ++ [.ref p5]) (rowD ixD (fs ++ [.pl (.oth (cs (Str.ofString "number")) [.int (f0 + (0 + (i : Int)))])])) := by
        rw [rowD_app]
        exact (r4.mono ((Tups.new hp5).trans (.lst h5))).app (.one (Rep.mono (.lst h5) (rep_oth (Rep.two upd_same (Rep.sv _) (.int _)))))
      obtain ⟨v, hv, rv⟩ := hrs.at (i := i) (d := es[i].d ixD) (by unfold rowD; rw [List.getElem?_map, List.getElem?_eq_getElem (by omega)]; rfl)
      have h6 := x6.keep _ _ nr h3
      refine ⟨_, rfl, .inl ⟨rfl, _, SqL.of upd_same⟩, _, rfl, _, rfl, r, _, _, v, rfl, rfl, SqL.of h6, by rw [Int.zero_add]; exact atI_nat hv, ?_⟩
      refine ⟨D1, _, _, rfl, rfl, upd_same, by rw [List.length_append, wl]; show 2 * i + 1 < _; omega, ?_⟩
      rw [upd_upd]
      refine ⟨_, rfl, (x4.new (o := HO.tup [.str (Str.ofString "number"), .int (f0 + (0 + (i : Int)))]) hp5).grow hD1 nD, _, (fs ++ [.pl (.oth (cs (Str.ofString "number")) [.int (f0 + (0 + (i : Int)))])]) ++ [es[i]], upd_same, ?_, ?_, by simp [l4]; omega⟩
      · have t7 : Tups (upd (upd H4 p5 (.tup [.str (Str.ofString "number"), .int (f0 + (0 + (i : Int)))])) D1 (.lst (ws ++ [.ref p5]))) (upd (upd H4 p5 (.tup [.str (Str.ofString "number"), .int (f0 + (0 + (i : Int)))])) D1 (.lst (ws ++ [.ref p5] ++ [v]))) := fun a us e => by
          have na : a ≠ D1 := fun z => by rw [z, upd_same] at e; cases e
          rw [upd_ne na] at e ⊢; exact e
        rw [rowD_app]
        exact (r6.mono t7).app (.one (rv.mono (x3.tups.trans ((x6.tups).trans t7))))
      · intro e he
        rcases List.mem_append.mp he with h | h
        · rcases List.mem_append.mp h with h | h
          · exact o4 e h
          · rw [List.mem_singleton.mp h]; exact oth_ok (.inr (.inr (.inl rfl))) (by rw [deps1]; unfold dep; rfl)
        · rw [List.mem_singleton.mp h]; exact hok _ (List.getElem_mem _)
    · rintro σ H4 ⟨y, rfl, x4, ws, fs, h4, r4, o4, l4⟩
      exact ⟨_, rfl, _, rfl, fin D1 ws fs H4 (X3.trans x4) ((x3.trans x4).tups) (X3.free hD1) h4 r4 o4 (by omega) (by unfold lenF; rw [if_neg k1, if_neg k2, if_pos k3, ← hnF]; exact l4)⟩
  · refine split_at 4 (fun t => ∀ (n : Nat) (H1 : Hp), n ≤ 40 → n = nF → Stp b H H1 → t { nx := fun _ H' => Q .non H', rt := Q } [some (.ref b), some (.str z), some (.ref pl), some (.ref er), some (.int (n : Nat)), none, none, none, none, none, none] H1) ?_ (fun t4 ht4 hg4 => ?_)
    · refine ⟨_, pss_cons (ps_setLc (i := 6) (own := [("k", 5)]) (g := gName 5) (tt := tYes) rfl sc__law_form.nd rfl rfl rfl (pi_range1 rfl T.z_range (pa_cons (pv 4) pa_nil)) (blkOk_by (own := [("k", 5)]) (N := n__law_form) (sc := defScope s__law_form) (by decide +kernel)) (fun _ _ _ _ _ => (pg_name (i := 5) sc__law_form.nd rfl (Or.inl rfl))) (fun _ _ _ _ _ => pts_nil) (fun _ _ _ _ _ => (pcall Oe hr (pa_cons (pv 0) (pa_cons (pv 2) (pa_cons (pv 3) (pa_cons (pcall Om hr (pa_cons (pv 1) pa_nil)) pa_nil)))))))
        (pss_cons (ps_if (pt_cmpR op_in_seq (pv 1) (pe_tup (pa_cons pe_str (pa_cons pe_str pa_nil))) (by rfl)) (pss_one (ps_setLc (i := 6) (own := [("entry", 10)]) (g := gName 10) (tt := tYes) rfl sc__law_form.nd rfl rfl rfl (pi_list (pv 6)) (blkOk_by (own := [("entry", 10)]) (N := n__law_form) (sc := defScope s__law_form) (by decide +kernel)) (fun _ _ _ _ _ => (pg_name (i := 10) sc__law_form.nd rfl (Or.inl rfl))) (fun _ _ _ _ _ => pts_nil) (fun _ _ _ _ _ => (pe_ifExp (pt_cmpR op_eq (pe_ix (show IxR _ (rIxT K) from ix_tup) (pv 10) pe_int (fun _ _ => rfl)) pe_str (nomark _)) (pv 10) (pe_tup (pa_cons pe_str (pa_cons (pcall Ow hr (pa_cons (pv 0) pa_nil)) pa_nil))))))) pss_nil) ht6), ?_⟩
      intro n H1 hn hnF x1
      refine ⟨_, rfl, n, rfl, by omega, by omega, fun D1 hD1 => ?_⟩
      have nD : D1 ≠ b := x1.b1.ne hD1
      refine lc_it walk_range (fun i H' => Stp b H1 H' ∧ ∃ vs es, H' D1 = some (.lst vs) ∧ Reps H' vs (rowD ixD es) ∧ (∀ e ∈ es, e.okP m) ∧ es.length = i) ⟨(Stp.refl x1.b1).new hD1, [], [], upd_same, .nil, (fun _ h => by cases h), rfl⟩ (fun _ _ _ _ => trivial) ?_ ?_
      · rintro i x H3 H4 hi ⟨x3, vs, es, h3, r3, o3, l3⟩ ⟨rfl, rfl⟩
        refine ⟨rfl, iteT (B := True) (iteT ?_)⟩
        have hi' : i < n := by simpa using hi
        refine ⟨_, rfl, _, rfl, _, rfl, _, rfl, z, rfl, fun mk => ⟨b, pl, er, m, mk, rfl, x3.b1, hp.stp (x1.trans x3), he.stp (x1.trans x3), fun v e H5 x5 oe re => ?_⟩⟩
        have h5 := x5.keep _ _ nD h3
        have vl : vs.length = i := by rw [r3.len]; unfold rowD; rw [List.length_map]; exact l3
        refine ⟨_, h5, by omega, (x3.trans x5).grow hD1 nD, vs ++ [v], es ++ [e], upd_same, ?_, ?_, by simp [l3]⟩
        · rw [rowD_app]; exact (r3.mono (x5.tups.trans (.lst h5))).app (.one (re.mono (.lst h5)))
        · intro e' he'
          rcases List.mem_append.mp he' with h | h
          · exact o3 e' h
          · rw [List.mem_singleton.mp h]; exact oe
      rintro H2 ⟨x2, vs, es, h2, r2, o2, l2⟩
      have l2 : es.length = n := by simpa using l2
      have X := x1.trans x2
      have vl : vs.length = n := by rw [r2.len]; unfold rowD; rw [List.length_map]; exact l2
      refine ⟨_, rfl, two, fun p0 hp0 => ⟨p0, _, rfl, .inr (SqT.of upd_same), rfl, rfl, _, rfl, ?_⟩⟩
      have X0 := X.new (o := HO.tup [V.str (Str.ofString "method"), V.str (Str.ofString "iterator")]) hp0
      have t0 := Tups.new (o := HO.tup [V.str (Str.ofString "method"), V.str (Str.ofString "iterator")]) hp0
      have h0 : upd H2 p0 (.tup [V.str (Str.ofString "method"), V.str (Str.ofString "iterator")]) D1 = some (.lst vs) := by rw [upd_ne (ne_of_none h2 hp0)]; exact h2
      generalize upd H2 p0 (.tup [V.str (Str.ofString "method"), V.str (Str.ofString "iterator")]) = H0 at X0 t0 h0
      refine ite2 (fun _ => ?_) (fun _ => hg6 n _ D1 vs es H0 _ hn hnF X0 (x1.free hD1) h0 (r2.mono t0) o2 l2)
      refine ⟨_, rfl, D1, rfl, ⟨vs, SqL.of h0⟩, fun D2 hD2 => ?_⟩
      have nD2 : D2 ≠ b := X0.b1.ne hD2
      have n12 : D1 ≠ D2 := ne_of_none h0 hD2
      refine lc_it (walk_list (xs := vs)) (fun i H' => Stp b H0 H' ∧ ∃ ws fs, H' D2 = some (.lst ws) ∧ Reps H' ws (rowD ixD fs) ∧ (∀ e ∈ fs, e.okP m) ∧ fs.length = i) ⟨(Stp.refl X0.b1).new hD2, [], [], upd_same, .nil, (fun _ h => by cases h), rfl⟩ (fun i H' _ h => SqL.of (h.1.keep _ _ nD h0)) ?_ ?_
      · rintro i x H3 H4 hi ⟨x3, ws, fs, h3, r3, o3, l3⟩ ⟨rfl, hx⟩
        refine ⟨rfl, iteT (B := True) (iteT ?_)⟩
        have wl : ws.length = i := by rw [r3.len]; unfold rowD; rw [List.length_map]; exact l3
        obtain ⟨d, hd, rd⟩ := (r2.mono (t0.trans x3.tups)).get hx
        have hd' : (es.map (Ent.d ixD))[i]? = some d := hd
        rw [List.getElem?_map] at hd'
        obtain ⟨e, hie, rfl⟩ : ∃ e, es[i]? = some e ∧ e.d ixD = d := by
          cases h : es[i]? with
          | none => rw [h] at hd'; cases hd'
          | some e => rw [h] at hd'; exact ⟨e, rfl, Option.some.inj hd'⟩
        have oe := o2 e (List.mem_of_getElem? hie)
        obtain ⟨a, z1, us, rfl, ha⟩ := ent_head rd
        have snoc : ∀ (H5 : Hp) (v : V) (e' : Ent), Stp b H4 H5 → e'.okP m → Rep H5 v (e'.d ixD) → ∃ acc, H5 D2 = some (.lst acc) ∧ acc.length < sizeLine ∧ (Stp b H0 (upd H5 D2 (.lst (acc ++ [v]))) ∧ ∃ ws fs, upd H5 D2 (.lst (acc ++ [v])) D2 = some (.lst ws) ∧ Reps (upd H5 D2 (.lst (acc ++ [v]))) ws (rowD ixD fs) ∧ (∀ e ∈ fs, e.okP m) ∧ fs.length = i + 1) := fun H5 v e' x5 oe' re' => by
          have h5 := x5.keep _ _ nD2 h3
          refine ⟨_, h5, by omega, (x3.trans x5).grow hD2 nD2, ws ++ [v], fs ++ [e'], upd_same, ?_, ?_, by simp [l3]⟩
          · rw [rowD_app]; exact (r3.mono (x5.tups.trans (.lst h5))).app (.one (re'.mono (.lst h5)))
          · intro e1 he1
            rcases List.mem_append.mp he1 with h | h
            · exact o3 e1 h
            · rw [List.mem_singleton.mp h]; exact oe'
        refine ⟨_, rfl, a, _, 0, .str z1, rfl, rfl, SqT.of ha, (show atI (V.str z1 :: us) ((0 : Nat) : Int) = _ from atI_nat rfl), rfl, _, rfl, ite2 (fun _ => ⟨_, rfl, snoc _ _ e (.refl x3.b1) oe rd⟩) (fun _ => ?_)⟩
        refine ⟨_, rfl, b, rfl, x3.b1, fun l H5 x5 _ => ⟨two, fun p hp => ?_⟩⟩
        exact snoc _ _ (.pl (.oth (cs (Str.ofString "text")) [.str l])) (x5.new hp) (oth_ok (.inr (.inr (.inr rfl))) (by rw [deps1]; unfold dep; rfl)) (rep_oth (Rep.two upd_same (Rep.sv _) (.str l)))
      · rintro H3 ⟨x3, ws, fs, h3, r3, o3, l3⟩
        exact hg6 n _ D2 ws fs H3 _ hn hnF (X0.trans x3) (X0.free hD2) h3 r3 o3 (by rw [l3]; exact vl)
    · -- behind the third if
      have g4 : ∀ (r : Int) (H2 : Hp), 0 ≤ r → r ≤ 40 → r.toNat = nF → Stp b H H2 → t4 { nx := fun _ H' => Q .non H', rt := Q } [some (.ref b), some (.str z), some (.ref pl), some (.ref er), some (.int r), none, none, none, none, none, none] H2 := fun r H2 h0 h1 e x2 => by
        obtain ⟨k, rfl⟩ : ∃ k : Nat, r = (k : Int) := ⟨r.toNat, by omega⟩
        exact hg4 k H2 (by omega) (by rw [← e]; rfl) x2
      refine split_at 3 (fun t => ∀ (r : Int) (H1 : Hp), 0 ≤ r → r ≤ 40 → (m3 z r).toNat = nF → Stp b H H1 → t { nx := fun _ H' => Q .non H', rt := Q } [some (.ref b), some (.str z), some (.ref pl), some (.ref er), some (.int r), none, none, none, none, none, none] H1)
        ⟨_, pss_cons (ps_if (pt_cmpR op_eq (pv 1) pe_str (nomark _)) (pss_one (ps_set (i := 4) sc__law_form.nd rfl (.inl rfl) (pe_op op_add pe_int (pe_op op_mod (pe_callTy call_int1 (by rfl) T.z_int PyProof.Rows.boot_int (pa_cons (pv 4) pa_nil)) pe_int)))) pss_nil) ht4, fun r H2 h0 h1 e3 x2 => ?_⟩ (fun t3 ht3 hg3 => ?_)
      · refine ⟨_, rfl, rfl, _, rfl, ite2 (fun k => ?_) (fun k => g4 r H2 h0 h1 (by unfold m3 at e3; rw [if_neg (fun z => k (decide_eq_true z))] at e3; exact e3) x2)⟩
        refine ⟨_, rfl, .inl ⟨_, rfl, _, _, rfl, rfl, (by show (0 : Int) < _; decide), _, _, rfl, rfl, ?_⟩⟩
        have e0 := Int.emod_nonneg r (show (2 : Int) ≠ 0 by decide)
        have e1 := Int.emod_lt_of_pos r (show (0 : Int) < 2 by decide)
        exact g4 _ H2 (by omega) (by omega) (by unfold m3 at e3; rw [if_pos (of_decide_eq_true k)] at e3; exact e3) x2
      refine split_at 2 (fun t => ∀ (r : Int) (H1 : Hp), 0 ≤ r → r ≤ 40 → (m3 z (m2 z r)).toNat = nF → Stp b H H1 → t { nx := fun _ H' => Q .non H', rt := Q } [some (.ref b), some (.str z), some (.ref pl), some (.ref er), some (.int r), none, none, none, none, none, none] H1)
        ⟨_, pss_cons (ps_if (PW.pt (pw_or (pt_cmpR op_eq (pv 1) pe_str (nomark _)) (pw_or1 (pt_cmpR op_eq (pv 1) pe_str (nomark _))))) (pss_one (ps_set (i := 4) sc__law_form.nd rfl (.inl rfl) pe_int)) pss_nil) ht3, fun r H2 h0 h1 e2 x2 => ?_⟩ (fun t2 ht2 hg2 => ?_)
      · refine ⟨_, rfl, rfl, _, rfl, ite2 (fun k => iteT (hg3 1 H2 (by omega) (by omega) (by unfold m2 at e2; rw [if_pos (of_decide_eq_true k)] at e2; exact e2) x2)) (fun k => ?_)⟩
        have k : ¬ V.str z = .str (Str.ofString "cell") := fun z => k (decide_eq_true z)
        exact ⟨_, rfl, rfl, _, rfl, ite2 (fun k' => hg3 1 H2 (by omega) (by omega) (by unfold m2 at e2; rw [if_neg k, if_pos (of_decide_eq_true k')] at e2; exact e2) x2) (fun k' => hg3 r H2 h0 h1 (by unfold m2 at e2; rw [if_neg k, if_neg (fun z => k' (decide_eq_true z))] at e2; exact e2) x2)⟩
      refine ⟨_, pss_cons (ps_set (i := 4) sc__law_form.nd rfl (.inl rfl) (pcall OD hr (pa_cons (pv 0) (pa_cons pe_int pa_nil))))
        (pss_cons (ps_if (pt_cmpR op_eq (pcall OD hr (pa_cons (pv 0) (pa_cons pe_int pa_nil))) pe_int (nomark _)) (pss_one (ps_set (i := 4) sc__law_form.nd rfl (.inl rfl) (pe_op op_add pe_int (pcall OD hr (pa_cons (pv 0) (pa_cons pe_int pa_nil)))))) pss_nil) ht2), ?_⟩
      have stp : ∀ (H1 : Hp) (y : Bx) (i : Int), Stp b H H1 → Stp b H (upd H1 b (tkB y i).o) := fun H1 y i x1 => x1.trans ⟨x1.b1, ⟨_, _, _, _, _, upd_same⟩, fun a o n e => by rw [upd_ne n]; exact e⟩
      refine ⟨_, rfl, b, x, 5, rfl, hx, by decide, by decide, fun r10 r11 => ?_⟩
      have x1 := stp H x 5 (.refl hb)
      refine ⟨_, rfl, b, tkB x 5, 12, rfl, upd_same, by decide, by decide, fun _ _ => ⟨rfl, _, rfl, ite2 (fun k => ?_) (fun k => hg2 _ _ r10 (by omega) ?_ (stp _ _ 12 x1))⟩⟩
      · have k : tkV (tkB x 5) 12 = 5 := V.int.inj (of_decide_eq_true k)
        refine ⟨_, rfl, b, tkB (tkB x 5) 12, 30, rfl, upd_same, by decide, by decide, fun r30 r31 => ⟨_, _, rfl, rfl, ?_⟩⟩
        refine hg2 _ _ (by omega) (by omega) ?_ (stp _ _ 30 (stp _ _ 12 x1))
        rw [enF]; unfold m1; rw [if_pos k]
      · have k : ¬ tkV (tkB x 5) 12 = 5 := fun z => k (decide_eq_true (by rw [z]))
        rw [enF]; unfold m1; rw [if_neg k]
end
end D0
namespace D0
open PySem PySem.Spec PyProof.Rows L2 SX NumText
def wDg : List Nat := cs (Str.ofString "dangling")
theorem eDg : Str.ofString "dangling" = S wDg := (S_cs _)
def dgD (d : Nat) : D := .tup [.str wDg, .int (d : Nat)]
def spHFaults (K : PySem.W.Frag) (C CT : Addr) : Sp := fun vs H Q _ => ∃ (B : Addr) (F : List Addr) (m : MM) (a : Addr) (ws : List V) (es : List Ent) (N : Nat), vs = [.ref B, .ref a] ∧ Mem K C CT H B F m ∧ (∀ x, m.dom x → ∀ e ∈ (m.G x).row, e.ok N) ∧ (∀ x, m.dom x → (m.G x).row.length ≤ 100) ∧ (∀ x, x % 2 = 0 → x < 2 * m.on → anyY (m.G x).row = true → x ∈ m.ms) ∧ m.yn + m.on ≤ 2000 ∧
  H a = some (.lst ws) ∧ Reps H ws (rowD ixD es) ∧ (∀ e ∈ es, e.ok N) ∧ es.length ≤ 1000 ∧ ∀ (p : Addr) (us : List V) (ds : List Nat) (H' : Hp), Same H H' → H p = none → H' p = some (.lst us) → Reps H' us (ds.map dgD) → ds.Pairwise (· < ·) → (∀ d, d ∈ ds ↔ ¬ m.dom d ∧ (d ∈ tgs es ∨ ∃ x, m.dom x ∧ d ∈ tgs (m.G x).row)) → Q (.ref p) H'
theorem addK_mem {ks : List ND.OK} {k x : ND.OK} : x ∈ ND.addK ks k ↔ x ∈ ks ∨ x = k := by
  unfold ND.addK
  split
  · rename_i h
    exact ⟨.inl, fun z => z.elim id fun e => by rw [e]; exact h⟩
  · simp
theorem addK_nodup {ks : List ND.OK} {k : ND.OK} (h : ks.Nodup) : (ND.addK ks k).Nodup := by
  unfold ND.addK
  split
  · exact h
  · rename_i n
    exact List.nodup_append.mpr ⟨h, List.nodup_cons.mpr ⟨by simp, .nil⟩, fun a ha b hb z => by rw [List.mem_singleton.mp hb] at z; exact n (by rw [← z]; exact ha)⟩
section
variable {P : Program} {w : World} {K : PySem.W.Frag} {mg : Str → Option Value} {base : Heap} {C CT : Addr}
theorem okG_Heap_faults (T : Txt K w mg) (TT : ThT K mg CT) (TB : HeT K mg C) (Oa : OkD P w K mg base CX0 2 "address_of" p_address_of spAddr) (Oy : OkD P w K mg base CX0 1 "is_young" p_is_young spYoung) (Ony : OkD P w K mg base CX0 3 "refers_to_young" p_refers_to_young spRefers) :
    OkM P w K mg base C CX0 4 "faults" p_Heap_faults (spHFaults K C CT) := by
  refine TB.g_faults.ok sc_Heap_faults (fun vs H Q E h => ?_) (fun f cdv A outer s H vs Q E hr h => ?_)
  · obtain ⟨B, F, m, a, ws, es, N, rfl, _⟩ := h; rfl
  obtain ⟨B, F, m, a, ws, es, N, rfl, X, rok, rle, nfo, mle, ha, rs, oe, le, q⟩ := h
  refine ⟨_, (pss_cons (ps_set (i := 2) sc_Heap_faults.nd rfl (.inl rfl) (pe_callTy call_list_of (by rfl) T.z_list PyProof.Rows.boot_list (pa_cons (pv 1) pa_nil)))
      (pss_cons (ps_set (i := 3) sc_Heap_faults.nd rfl (.inl rfl) (pe_lst pa_nil))
      (pss_cons (ps_for PassesOwn.never rfl (pi_list (pe_callB cr_sortedI (by rfl) T.z_sorted (by decide +kernel) (pa_cons (pe_callTy (call_list_dK rfl) (by rfl) T.z_list PyProof.Rows.boot_list (pa_cons (pe_fld (pv 0) rfl) pa_nil)) pa_nil))) (pg_name (i := 4) sc_Heap_faults.nd rfl (Or.inl rfl))
      (pss_cons (ps_set (i := 5) sc_Heap_faults.nd rfl (.inl rfl) (pe_fld (pe_dget (hu_of' hr) (pe_fld (pv 0) rfl) (pv 4) (fun _ _ => rfl)) rfl))
      (pss_cons (ps_expr (pe_bm PySem.F.plainAttrs_list PySem.F.slot_list_extend PySem.F.type_list_extend mt_extend (pv 2) (pa_cons (pv 5) pa_nil)))
      (pss_one (ps_if (PW.pt (pw_and (pt_not (pt_val (pcall Oy hr (pa_cons (pv 4) pa_nil)))) (pw_and (pt_cmp (pc_dnotin (hu_of' hr) (pv 4) (pe_fld (pv 0) rfl))) (pw_and1 (pt_val (pcall Ony hr (pa_cons (pv 5) pa_nil))))))) (pss_one (ps_expr (pe_bm PySem.F.plainAttrs_list PySem.F.slot_list_append PySem.F.type_list_append mt_append (pv 3) (pa_cons (pv 4) pa_nil)))) pss_nil)))))
      (pss_cons (ND.ps_dcO (i := 6) (own := [("entry", 9)]) (g := gName 9) (hu_of' hr) rfl sc_Heap_faults.nd rfl rfl rfl (pi_list (pv 2)) (blkOk_by (own := [("entry", 9)]) (N := n_Heap_faults) (sc := defScope s_Heap_faults) (by decide +kernel)) (fun _ _ _ _ _ => (pg_name (i := 9) sc_Heap_faults.nd rfl (Or.inl rfl))) (fun _ _ _ _ _ => (pcall Oa hr (pa_cons (pv 9) pa_nil))) (fun _ _ _ _ _ => pe_bl))
      (pss_cons (ps_lock (ps_setLc (i := 7) (own := [("address", 4)]) (g := gName 4) rfl sc_Heap_faults.nd rfl rfl rfl (ND.pi_O (pv 6)) (blkOk_by (own := [("address", 4)]) (N := n_Heap_faults) (sc := defScope s_Heap_faults) (by decide +kernel)) (fun _ _ _ _ _ => (pg_name (i := 4) sc_Heap_faults.nd rfl (Or.inl rfl)))
      (fun _ _ _ _ _ => pts_one (PW.pt (pw_and (pt_cmpR op_notN (pv 4) pe_non (nomark _)) (pw_and1 (pt_cmp (pc_dnotin (hu_of' hr) (pv 4) (show PE _ _ (tFld K (tVar 0) (Str.ofString "things")) from (pe_fld (pv 0) rfl)))))))) (fun _ _ _ _ _ => (pv 4))))
      (pss_cons (ps_setLc (i := 8) (own := [("address", 4)]) (g := gName 4) (tt := tYes) rfl sc_Heap_faults.nd rfl rfl rfl (pi_list (pe_callB cr_sortedI (by rfl) T.z_sorted (by decide +kernel) (pa_cons (pv 7) pa_nil))) (blkOk_by (own := [("address", 4)]) (N := n_Heap_faults) (sc := defScope s_Heap_faults) (by decide +kernel)) (fun _ _ _ _ _ => (pg_name (i := 4) sc_Heap_faults.nd rfl (Or.inl rfl))) (fun _ _ _ _ _ => pts_nil) (fun _ _ _ _ _ => (pe_tup (pa_cons pe_str (pa_cons (pv 4) pa_nil)))))
      (pss_one (ps_ret (pe_op op_cat (pv 8) (pe_lc (own := [("address", 4)]) (g := gName 4) (tt := tYes) rfl sc_Heap_faults.nd (pi_list (pv 3)) (blkOk_by (own := [("address", 4)]) (N := n_Heap_faults) (sc := defScope s_Heap_faults) (by decide +kernel)) (fun _ _ _ _ _ => (pg_name (i := 4) sc_Heap_faults.nd rfl (Or.inl rfl))) (fun _ _ _ _ _ => pts_nil) (fun _ _ _ _ _ => (pe_tup (pa_cons pe_str (pa_cons (pv 4) pa_nil)))))))))))))), ?_⟩
  have lim : 1000000 < sizeLine := by rw [sizeLine_eq]; decide
  have X0 := X
  obtain ⟨td, md, L, Y, hF, hmF, lv⟩ := X
  have ecn := Y.count
  refine ⟨_, rfl, a, ws, rfl, .inl (SqL.of ha), fun p2 hp2 => ?_⟩
  refine ⟨Nat.zero_le _, fun p3 hp3 => ?_⟩
  have s1 := same_new hp2 (.lst ws)
  have s2 := s1.trans (same_new hp3 (.lst []))
  have n23 : p2 ≠ p3 := fun z => by rw [z, upd_same] at hp3; cases hp3
  have h2 : upd (upd H p2 (.lst ws)) p3 (.lst []) p2 = some (.lst ws) := by rw [upd_ne n23, upd_same]
  have h3 : upd (upd H p2 (.lst ws)) p3 (.lst []) p3 = some (.lst []) := upd_same
  have f3 : H p3 = none := s1.free hp3
  generalize upd (upd H p2 (.lst ws)) p3 (.lst []) = H2 at s2 h2 h3
  have Y2 := Y.same s2
  obtain ⟨dx, hB⟩ := Y2.bk.hB
  refine ⟨_, rfl, B, C, dx, _, .ref td, rfl, hB, TB.cl, TB.n_things, rfl, td, _, rfl, Y2.bk.hD, fun l hl => ?_⟩
  have el : (kvL L).map (fun kv => kV kv.1) = (L.map Th.key).map V.int := by unfold kvL; rw [List.map_map, List.map_map]; rfl
  rw [el]
  refine ⟨l, _, rfl, SqL.of upd_same, fun ns p4 perm srt hp4 => ?_⟩
  have s3 := (same_new hl (.lst ((L.map Th.key).map V.int))).trans (same_new hp4 (.lst (ns.map V.int)))
  have S4 := s2.trans s3
  have h24 := s3 _ _ h2
  have h34 := s3 _ _ h3
  have h44 : upd (upd H2 l (.lst ((L.map Th.key).map V.int))) p4 (.lst (ns.map V.int)) p4 = some (.lst (ns.map V.int)) := upd_same
  have f4 : H p4 = none := s2.free (Same.free (same_new hl _) hp4)
  have n24 : p4 ≠ p2 := fun z => by rw [z] at hp4; exact absurd (same_new hl _ _ _ h2) (by rw [hp4]; exact fun z => nomatch z)
  have n34 : p4 ≠ p3 := fun z => by rw [z] at hp4; exact absurd (same_new hl _ _ _ h3) (by rw [hp4]; exact fun z => nomatch z)
  generalize upd (upd H2 l (.lst ((L.map Th.key).map V.int))) p4 (.lst (ns.map V.int)) = H4 at s3 S4 h24 h34 h44
  have nl : ns.length ≤ 4000 := by
    rw [perm.length_eq, List.length_map]
    omega
  refine ⟨p4, rfl, ⟨_, SqL.of h44⟩, ?_⟩
  refine for_it (walk_list (xs := ns.map V.int)) (fun i σ H' => ∃ o4 o5, σ = [some (.ref B), some (.ref a), some (.ref p2), some (.ref p3), o4, o5, none, none, none, none] ∧ Same H H' ∧ H' p4 = some (.lst (ns.map V.int)) ∧ H' p3 = some (.lst []) ∧
      ∃ vs2 es2, H' p2 = some (.lst vs2) ∧ Reps H' vs2 (rowD ixD es2) ∧ (∀ e ∈ es2, e.ok N) ∧ es2.length ≤ 1000 + 100 * i ∧ es2 = es ++ (ns.take i).flatMap fun z => (m.G z.toNat).row)
    ⟨none, none, rfl, S4, h44, h34, ws, es, h24, rs.mono (.same S4), oe, by omega, by simp⟩ (fun i σ H' _ h => by obtain ⟨_, _, _, _, h, _⟩ := h; exact SqL.of h) ?_ ?_
  · rintro i x σ H5 H6 hi ⟨o4, o5, rfl, S5, h45, h35, vs2, es2, h25, r25, oe2, le2, ee2⟩ ⟨rfl, hx⟩
    rw [List.length_map] at hi
    rw [List.getElem?_map, List.getElem?_eq_getElem hi] at hx
    have hx := Option.some.inj hx
    subst hx
    obtain ⟨x, hxL, ex⟩ := List.mem_map.mp (perm.mem_iff.mp (List.getElem_mem hi))
    obtain ⟨b, db, tb⟩ := Y.to x hxL
    have etk : (ns.take (i + 1)).flatMap (fun z => (m.G z.toNat).row) = (ns.take i).flatMap (fun z => (m.G z.toNat).row) ++ (m.G b).row := by
      rw [take_next hi, List.flatMap_append, ← ex, tb.key]; simp
    rw [← ex, tb.key]
    have Y5 := Y.same S5
    obtain ⟨x, hxL, t, dx, dx2, tv, us, hB, hg, g, r, g2, r2⟩ := Y5.look db
    refine ⟨_, rfl, B, C, dx, _, .ref td, rfl, hB, TB.cl, TB.n_things, rfl, _, rfl, td, _, rfl, hg, ?_⟩
    refine ⟨x.t, CT, dx2, _, .ref x.s, rfl, g, TT.cl, TT.n_slots, rfl, ?_⟩
    have lu : us.length ≤ 100 := by rw [r2.len, rowD_len]; exact rle b db
    have lv2 : vs2.length = es2.length := by rw [r25.len, rowD_len]
    refine ⟨_, rfl, .inl ⟨rfl, _, SqL.of h25⟩, _, rfl, p2, x.s, vs2, us, rfl, rfl, h25, g2, by omega, ?_⟩
    have c6 : Chg [p2] H6 (upd H6 p2 (.lst (vs2 ++ us))) := .upd h25 (fun _ z => by cases z) (List.mem_singleton_self _)
    have S6 : Same H (upd H6 p2 (.lst (vs2 ++ us))) := fun c o hc => by rw [upd_ne (ne_of_none hc hp2)]; exact S5 _ _ hc
    have h36 : upd H6 p2 (.lst (vs2 ++ us)) p3 = some (.lst []) := by rw [upd_ne (Ne.symm n23)]; exact h35
    have h46 : upd H6 p2 (.lst (vs2 ++ us)) p4 = some (.lst (ns.map V.int)) := by rw [upd_ne n24]; exact h45
    have h26 : upd H6 p2 (.lst (vs2 ++ us)) p2 = some (.lst (vs2 ++ us)) := upd_same
    have r26 : Reps (upd H6 p2 (.lst (vs2 ++ us))) (vs2 ++ us) (rowD ixD (es2 ++ (m.G b).row)) := by rw [rowD_app]; exact (r25.app r2).mono c6.tups
    have ee6 : es2 ++ (m.G b).row = es ++ (ns.take (i + 1)).flatMap fun z => (m.G z.toNat).row := by rw [etk, ee2, List.append_assoc]
    have oe6 : ∀ e ∈ es2 ++ (m.G b).row, e.ok N := fun e he => by
      rcases List.mem_append.mp he with h | h
      · exact oe2 e h
      · exact rok b db e h
    have le6 : (es2 ++ (m.G b).row).length ≤ 1000 + 100 * (i + 1) := by rw [List.length_append]; have := rle b db; omega
    have Y6 := Y.same S6
    have g6 : upd H6 p2 (.lst (vs2 ++ us)) x.s = some (.lst us) := by rw [upd_ne (fun z => by rw [z] at g2; have := Y.bk.here x.s (fb_s hxL); exact this (by rw [z]; exact hp2))]; exact g2
    have r6 := r2.mono c6.tups
    generalize upd H6 p2 (.lst (vs2 ++ us)) = H7 at c6 S6 h36 h46 h26 r26 Y6 g6 r6
    obtain ⟨dx7, hB7⟩ := Y6.bk.hB
    refine ⟨_, rfl, b, rfl, ?_⟩
    by_cases cy : b % 2 = 1
    · rw [decide_eq_true cy]
      exact ⟨_, rfl, iteF ⟨_, _, rfl, S6, h46, h36, _, _, h26, r26, oe6, le6, ee6⟩⟩
    · rw [decide_eq_false cy]
      refine ⟨_, rfl, iteT ?_⟩
      refine ⟨_, rfl, _, rfl, B, C, dx7, _, .ref md, rfl, hB7, TB.cl, TB.n_marked, rfl, md, _, rfl, DGet.k (k := Sum.inl (b : Int)) Y6.hM, _, rfl, ?_⟩
      rw [markK_get]
      by_cases cm : b ∈ m.ms
      · rw [decide_eq_true cm]
        exact iteF ⟨_, _, rfl, S6, h46, h36, _, _, h26, r26, oe6, le6, ee6⟩
      · rw [decide_eq_false cm]
        refine iteT ⟨_, rfl, x.s, us, (m.G b).row, N, rfl, g6, r6, fun e he => rok b db e he, ?_⟩
        have ny : anyY (m.G b).row = false := by
          cases y : anyY (m.G b).row with
          | false => rfl
          | true => exact absurd (nfo b (by omega) (by rcases db with d | d; omega; exact d.2) y) cm
        rw [ny]
        exact ⟨_, rfl, iteF ⟨_, _, rfl, S6, h46, h36, _, _, h26, r26, oe6, le6, ee6⟩⟩
  · rintro σ H5 ⟨o4, o5, rfl, S5, h45, h35, vs2, es2, h25, r25, oe2, le2, ee2⟩
    rw [List.length_map] at le2 ee2
    rw [List.take_length] at ee2
    have lv2 : vs2.length = es2.length := by rw [r25.len, rowD_len]
    have tg2 : ∀ d, d ∈ tgs es2 ↔ d ∈ tgs es ∨ ∃ x, m.dom x ∧ d ∈ tgs (m.G x).row := fun d => by
      rw [ee2, tgs_app, List.mem_append]
      refine or_congr Iff.rfl ⟨fun h => ?_, fun ⟨x, dx, h⟩ => ?_⟩
      · obtain ⟨e, he, q⟩ := of_tgs h
        obtain ⟨z, hz, hm⟩ := List.mem_flatMap.mp he
        obtain ⟨x, hxL, ex⟩ := List.mem_map.mp (perm.mem_iff.mp hz)
        obtain ⟨b, db, tb⟩ := Y.to x hxL
        have : z.toNat = b := by rw [← ex, tb.key]; rfl
        rw [this] at hm
        exact ⟨b, db, mem_tgs hm q⟩
      · obtain ⟨e, he, q⟩ := of_tgs h
        refine mem_tgs (List.mem_flatMap.mpr ⟨(x : Int), perm.mem_iff.mpr (Y.keyed.mpr dx), he⟩) q
    refine ⟨_, rfl, p2, rfl, ⟨_, SqL.of h25⟩, fun d hd => ?_⟩
    refine ND.dcO_it (walk_list (xs := vs2)) (fun i H' => Same H5 H' ∧ ∃ ks, H' d = some (ND.nD d ks) ∧ ks.length ≤ i ∧ ks.Nodup ∧ ∀ k, k ∈ ks ↔ ∃ e ∈ es2.take i, k = e.tg.map fun (a : Nat) => (a : Int)) ⟨same_new hd _, [], upd_same, Nat.le_refl _, .nil, fun k => by simp⟩ (fun i H' _ h => SqL.of (h.1 _ _ h25)) ?_ ?_
    · rintro i x H6 H7 hi ⟨S6, ks, hk, lk, nk, mk⟩ ⟨rfl, hx⟩
      obtain ⟨hi', rd⟩ := rows_at (r25.mono (.same S6)) hx
      have eok := oe2 _ (List.getElem_mem hi')
      refine ⟨rfl, _, rfl, x, es2[i], ixD, N, rfl, rd, eok, ks, es2[i].tg.map fun (a : Nat) => (a : Int), optV_oV _, rfl, hk, by omega, same_grow S6 hd, _, upd_same, ?_, addK_nodup nk, fun k => ?_⟩
      · have := ND.addK_len ks (es2[i].tg.map fun (a : Nat) => (a : Int)); omega
      · rw [addK_mem, mk k, take_next hi']
        constructor
        · rintro (⟨e, he, q⟩ | q)
          · exact ⟨e, List.mem_append_left _ he, q⟩
          · exact ⟨es2[i], List.mem_append_right _ (List.mem_singleton_self _), q⟩
        · rintro ⟨e, he, q⟩
          rcases List.mem_append.mp he with h | h
          · exact .inl ⟨e, h, q⟩
          · rw [List.mem_singleton.mp h] at q; exact .inr q
    rintro H6 ⟨S6, ks, hk, lk, nk, mk⟩
    rw [List.take_of_length_le (by omega)] at mk
    have fd : H d = none := S5.free hd
    refine ⟨d, ND.nD d ks, hk, True.intro, fun od => ?_⟩
    have c6 : Chg [d] H6 (upd H6 d (.frz od (ND.nD d ks))) := .upd hk (fun _ z => by cases z) (List.mem_singleton_self _)
    have off : ∀ {b : Addr} {o : HO}, H b = some o → upd H6 d (.frz od (ND.nD d ks)) b = some o := fun {b o} h => by rw [upd_ne (ne_of_none h fd)]; exact S6 _ _ (S5 _ _ h)
    have Y7 : MemL K C CT (upd H6 d (.frz od (ND.nD d ks))) B td md L m := Y.same fun b o h => off h
    have h37 : upd H6 d (.frz od (ND.nD d ks)) p3 = some (.lst []) := by rw [upd_ne (ne_of_none h35 hd)]; exact S6 _ _ h35
    have hdd : upd H6 d (.frz od (ND.nD d ks)) d = some (.frz od (ND.nD d ks)) := upd_same
    generalize upd H6 d (.frz od (ND.nD d ks)) = H7 at c6 off Y7 h37 hdd
    refine ⟨_, rfl, d, od, ks, rfl, hdd, fun p7 hp7 => ?_⟩
    refine lc_it ND.walk_O (fun i H' => Same H7 H' ∧ ∃ cs : List Int, H' p7 = some (.lst (cs.map V.int)) ∧ cs.Nodup ∧ cs.length ≤ i ∧ ∀ c, c ∈ cs ↔ some c ∈ ks.take i ∧ ¬ m.dom c.toNat) ⟨same_new hp7 _, [], upd_same, .nil, Nat.le_refl _, fun c => by simp⟩ (fun i H' _ h => h.1 _ _ hdd) ?_ ?_
    · rintro i x H8 H9 hi ⟨S8, cl, h8, n8, l8, m8⟩ ⟨rfl, k, hk', rfl⟩
      obtain ⟨hik, ek⟩ := List.getElem?_eq_some_iff.mp hk'
      refine ⟨rfl, ?_⟩
      cases k with
      | none =>
        refine ⟨_, rfl, rfl, _, rfl, iteF ?_⟩
        refine ⟨S8, cl, h8, n8, by omega, fun c => ?_⟩
        rw [take_next hik, List.mem_append, ek, m8 c]
        simp
      | some c =>
        obtain ⟨e, he, qe⟩ := (mk (some c)).mp (List.mem_of_getElem? hk')
        obtain ⟨n, hn, rfl⟩ := Option.map_eq_some_iff.mp qe.symm
        have Y8 := Y7.same S8
        obtain ⟨dx8, hB8⟩ := Y8.bk.hB
        refine ⟨_, rfl, rfl, _, rfl, iteT ?_⟩
        by_cases dn : m.dom n
        · obtain ⟨x, hxL, t, dx8, dx9, tv, us, hB8, hg8, _⟩ := Y8.look dn
          refine ⟨_, rfl, _, rfl, B, C, dx8, _, .ref td, rfl, hB8, TB.cl, TB.n_things, rfl, td, _, rfl, hg8, _, rfl, ?_⟩
          refine iteF ⟨S8, cl, h8, n8, by omega, fun c => ?_⟩
          rw [take_next hik, List.mem_append, ek, m8 c]
          constructor
          · exact fun h => ⟨.inl h.1, h.2⟩
          · rintro ⟨h | h, g⟩
            · exact ⟨h, g⟩
            · have : c = (n : Int) := Option.some.inj (List.mem_singleton.mp h)
              exact absurd (by rw [this]; exact dn) g
        · have hno : DGet H9 td (.int (n : Int)) none := by
            have := DGet.k (k := Sum.inl (n : Int)) Y8.bk.hD
            rw [kvL_none (fun z => dn (Y8.keyed.mp z))] at this; exact this
          have fresh : (n : Int) ∉ cl := fun z => by
            have h1 := ((m8 _).mp z).1
            have h2 : ks[i] ∉ ks.take i := fun z => by
              have e : ks = ks.take i ++ ks[i] :: ks.drop (i + 1) := by rw [← List.drop_eq_getElem_cons hik, List.take_append_drop]
              rw [e] at nk
              exact (List.nodup_append.mp nk).2.2 _ z _ (List.mem_cons_self ..) rfl
            exact h2 (by rw [ek]; exact h1)
          refine ⟨_, rfl, _, rfl, B, C, dx8, _, .ref td, rfl, hB8, TB.cl, TB.n_things, rfl, td, _, rfl, hno, _, rfl, ?_⟩
          refine iteT ⟨_, rfl, _, h8, by rw [List.length_map]; omega, same_grow S8 hp7, cl ++ [(n : Int)], by rw [upd_same, List.map_append]; rfl, List.nodup_append.mpr ⟨n8, List.nodup_cons.mpr ⟨by simp, .nil⟩, fun a ha b hb z => by rw [List.mem_singleton.mp hb] at z; exact fresh (by rw [← z]; exact ha)⟩, by simp; omega, fun c => ?_⟩
          rw [take_next hik, List.mem_append, List.mem_append, ek, m8 c]
          constructor
          · rintro (h | h)
            · exact ⟨.inl h.1, h.2⟩
            · rw [List.mem_singleton.mp h]; exact ⟨.inr (List.mem_singleton_self _), dn⟩
          · rintro ⟨h | h, g⟩
            · exact .inl ⟨h, g⟩
            · exact .inr (List.mem_singleton.mpr (Option.some.inj (List.mem_singleton.mp h)))
    rintro H8 ⟨S8, cl, h8, n8, l8, m8⟩
    rw [List.take_length] at m8
    refine ⟨S8 _ _ hdd, ?_⟩
    have n7d : p7 ≠ d := fun z => by rw [z, hdd] at hp7; cases hp7
    have S9 : Same H (upd H8 d (ND.nD d ks)) := fun b o h => by rw [upd_ne (ne_of_none h fd)]; exact S8 _ _ (off h)
    have h79 : upd H8 d (ND.nD d ks) p7 = some (.lst (cl.map V.int)) := by rw [upd_ne n7d]; exact h8
    have h39 : upd H8 d (ND.nD d ks) p3 = some (.lst []) := by rw [upd_ne (ne_of_none h35 hd)]; exact S8 _ _ h37
    generalize upd H8 d (ND.nD d ks) = H9 at S9 h79 h39
    refine ⟨_, rfl, p7, cl, rfl, SqL.of h79, fun ns' p8 perm' srt' hp8 => ?_⟩
    have s10 := same_new hp8 (.lst (ns'.map V.int))
    refine ⟨p8, rfl, ⟨_, SqL.of upd_same⟩, fun p9 hp9 => ?_⟩
    have S10 := S9.trans s10
    have h310 := s10 _ _ h39
    have h810 : upd H9 p8 (.lst (ns'.map V.int)) p8 = some (.lst (ns'.map V.int)) := upd_same
    have f9 : H p9 = none := S10.free hp9
    generalize upd H9 p8 (.lst (ns'.map V.int)) = H10 at S10 h310 h810 hp9 ⊢
    have lns : ns'.length ≤ 500000 := by
      rw [perm'.length_eq]; omega
    have nn : ∀ c ∈ ns', c = ((c.toNat : Nat) : Int) := fun c hc => by
      obtain ⟨h1, _⟩ := (m8 c).mp (perm'.mem_iff.mp hc)
      obtain ⟨e, _, qe⟩ := (mk (some c)).mp h1
      obtain ⟨n, hn, rfl⟩ := Option.map_eq_some_iff.mp qe.symm
      rfl
    refine lc_it (walk_list (xs := ns'.map V.int)) (fun i H' => Same H10 H' ∧ ∃ vs, H' p9 = some (.lst vs) ∧ Reps H' vs (((ns'.take i).map Int.toNat).map dgD)) ⟨same_new hp9 _, [], upd_same, by simp only [List.take_zero, List.map_nil]; exact .nil⟩ (fun i H' _ h => SqL.of (h.1 _ _ h810)) ?_ ?_
    · rintro i x H11 H12 hi ⟨S11, vs, h11, r11⟩ ⟨rfl, hx⟩
      rw [List.length_map] at hi
      rw [List.getElem?_map, List.getElem?_eq_getElem hi] at hx
      obtain rfl := Option.some.inj hx
      have ec := nn _ (List.getElem_mem hi)
      have lvs : vs.length ≤ 500000 := by rw [r11.len]; simp; omega
      refine ⟨rfl, iteT (B := True) (iteT ⟨_, rfl, by show 2 ≤ sizeLine; omega, fun t ht => ?_⟩)⟩
      have s12 := same_new ht (.tup [.str (Str.ofString "dangling"), .int ns'[i]])
      have h12 := s12 _ _ h11
      refine ⟨_, h12, by omega, same_grow (S11.trans s12) hp9, _, upd_same, ?_⟩
      rw [take_next hi, List.map_append, List.map_append]
      have tl := Tups.lst (o := HO.lst (vs ++ [.ref t])) h12
      refine ((r11.mono (.same s12)).mono tl).app (.one (Rep.mono tl ?_))
      show Rep _ _ (.tup [.str wDg, .int ((ns'[i].toNat : Nat) : Int)])
      rw [← ec]
      refine Rep.tupOf (ds := [.str wDg, .int ns'[i]]) upd_same (.cons ?_ (.cons (.int _) .nil)) (by show 2 ≤ 2000; decide)
      exact Rep.sv _
    rintro H11 ⟨S11, vs, h911, r911⟩
    rw [List.length_map, List.take_length] at r911
    have lvs : vs.length ≤ 500000 := by rw [r911.len]; simp; omega
    refine ⟨_, rfl, _, rfl, p3, rfl, ⟨[], SqL.of (S11 _ _ h310)⟩, fun p10 hp10 => ?_⟩
    refine lc_it (walk_list (xs := ([] : List V))) (fun i H' => Same H11 H' ∧ H' p10 = some (.lst [])) ⟨same_new hp10 _, upd_same⟩ (fun i H' _ h => SqL.of (h.1 _ _ (S11 _ _ h310))) (fun i x H' H'' hi _ _ => absurd hi (Nat.not_lt_zero _)) ?_
    rintro H12 ⟨S12, h1012⟩
    refine ⟨p9, p10, vs, [], rfl, rfl, S12 _ _ h911, h1012, by show vs.length + 0 ≤ _; omega, fun p hp => ?_⟩
    have S13 := S10.trans (S11.trans S12)
    rw [List.append_nil]
    refine q p vs (ns'.map Int.toNat) _ (S13.trans (same_new hp _)) (S13.free hp) upd_same ((r911.mono (.same S12)).mono (.same (same_new hp _))) ?_ fun d => ?_
    · have nd' : ns'.Nodup := perm'.symm.nodup n8
      refine List.pairwise_map.mpr (List.Pairwise.imp_of_mem (fun {a b} ha hb h => ?_) (srt'.and nd'))
      have h1 := nn a ha
      have h2 := nn b hb
      have := h.1
      have := h.2
      omega
    · rw [← tg2 d]
      constructor
      · intro h
        obtain ⟨c, hc, rfl⟩ := List.mem_map.mp h
        obtain ⟨h1, h2⟩ := (m8 c).mp (perm'.mem_iff.mp hc)
        obtain ⟨e, he, qe⟩ := (mk (some c)).mp h1
        obtain ⟨n, hn, rfl⟩ := Option.map_eq_some_iff.mp qe.symm
        exact ⟨h2, mem_tgs he hn⟩
      · rintro ⟨h1, h2⟩
        obtain ⟨e, he, hn⟩ := of_tgs h2
        refine List.mem_map.mpr ⟨(d : Int), perm'.mem_iff.mpr ((m8 _).mpr ⟨(mk _).mpr ⟨e, he, by rw [hn]; rfl⟩, h1⟩), rfl⟩
end
end D0
namespace D0
open PySem PySem.Spec PyProof.Rows L2 SX NumText
def tgV : Option Nat → Int
  | none => -1
  | some k => ((k : Nat) : Int)
def spTarget0 : Sp := fun vs H Q _ => ∃ (v : V) (e : En) (m : Nat), vs = [v] ∧ Rep H v (e.d ixD) ∧ e.ok m ∧ Q (.int (tgV e.tg)) H
def spTargetP : Sp := fun vs H Q _ => ∃ (v : V) (r : Int) (e : En) (m : Nat), vs = [v] ∧ Rep H v ((Ent.pend r e).d ixD) ∧ e.ok m ∧ Q (.int (tgV e.tg)) H
def spTarget : Sp := fun vs H Q _ => ∃ (v : V) (e : Ent) (m : Nat), vs = [v] ∧ Rep H v (e.d ixD) ∧ e.ok m ∧ Q (.int (tgV e.tg)) H
def seenL (N : Nat) (os : List Nat) : List V := (List.range N).map fun k => V.bl (decide (k ∈ os))
theorem seenL_len (N : Nat) (os : List Nat) : (seenL N os).length = N := by unfold seenL; rw [List.length_map, List.length_range]
theorem seenL_at {N k : Nat} {os : List Nat} (h : k < N) : (seenL N os)[k]? = some (.bl (decide (k ∈ os))) := by unfold seenL; rw [List.getElem?_map, List.getElem?_range h]; rfl
theorem rep_flat {x : V} : ∀ n : Nat, (List.replicate n [x]).flatten = List.replicate n x
  | 0 => rfl
  | n + 1 => by rw [List.replicate_succ, List.flatten_cons, rep_flat n]; rfl
theorem map_range_const {x : V} (n : Nat) : (List.range n).map (fun _ => x) = List.replicate n x := by
  induction n with
  | zero => rfl
  | succ n ih => rw [List.range_succ, List.map_append, ih, List.replicate_succ']; rfl
theorem seenL_nil (N : Nat) : seenL N [] = List.replicate N (.bl false) := by
  rw [← map_range_const]
  unfold seenL
  exact List.map_congr_left fun k _ => by simp
theorem seenL_set {N k : Nat} {os : List Nat} (h : k < N) : (seenL N os).set k (.bl true) = seenL N (os ++ [k]) := by
  refine List.ext_getElem? fun i => ?_
  rw [List.getElem?_set]
  by_cases e : k = i
  · subst e
    rw [if_pos rfl, if_pos (by rw [seenL_len]; exact h), seenL_at h]; simp
  · rw [if_neg e]
    by_cases hi : i < N
    · rw [seenL_at hi, seenL_at hi]
      have : decide (i ∈ os ++ [k]) = decide (i ∈ os) := by
        rw [decide_eq_decide]; simp [Ne.symm e]
      rw [this]
    · rw [List.getElem?_eq_none (by rw [seenL_len]; omega), List.getElem?_eq_none (by rw [seenL_len]; omega)]
def spWalk : Sp := fun vs H Q _ => ∃ (ea nb : Addr) (as rs : List Addr) (nds : List Nd) (ws : List V) (es : List Ent), vs = [.ref ea, .ref nb] ∧ BoA H nb as rs nds ∧ (∀ n ∈ nds, ∀ e ∈ n.row, e.ok nds.length) ∧ nds.length ≤ 2000 ∧ H ea = some (.lst ws) ∧ Reps H ws (rowD ixD es) ∧ (∀ e ∈ es, e.ok nds.length) ∧
  ∀ p H', Same H H' → H p = none → H' p = some (.lst (nats (reachN nds es))) → Q (.ref p) H'
theorem nats_at {ks : List Nat} {j : Nat} (h : j < ks.length) : atI (nats ks) (j : Int) = some (.int (ks[j] : Nat)) := atI_nat (by unfold nats; rw [List.getElem?_map, List.getElem?_eq_getElem h]; rfl)
theorem nats_len (ks : List Nat) : (nats ks).length = ks.length := by unfold nats; rw [List.length_map]
theorem node_at {as : List Addr} {k : Nat} {a : Addr} (h : as[k]? = some a) : atI (as.map V.ref) (k : Int) = some (.ref a) := atI_nat (by rw [List.getElem?_map, h]; rfl)
section
variable {P : Program} {w : World} {K : PySem.W.Frag} {mg : Str → Option Value} {base : Heap}
theorem okm0__law_target (T : Txt K w mg) : OkD P w K mg base CX0 1 "_law_target" p__law_target spTarget0 := by
  have O : OkD P w K mg base CX0 0 "_law_target" p__law_target (fun _ _ _ _ => False) := T.g__law_target.none fun _ _ _ _ h => h
  refine T.g__law_target.ok sc__law_target (fun vs H Q E h => ?_) (fun f cdv A outer s H vs Q E hr h => ?_)
  · obtain ⟨v, e, m, rfl, _⟩ := h; rfl
  obtain ⟨v, e, m, rfl, rv, oe, q⟩ := h
  refine ⟨_, (pss_cons (ps_if (pt_cmpR op_eq (pe_ix ix_tup (pv 0) pe_int (fun _ _ => rfl)) pe_str (nomark _)) (pss_one (ps_ret (pcall O hr (pa_cons (pe_ix ix_tup (pv 0) pe_int (fun _ _ => rfl)) pa_nil)))) pss_nil)
      (pss_cons (ps_if (PW.pt (pw_or (pt_cmpR op_eq (pe_ix ix_tup (pv 0) pe_int (fun _ _ => rfl)) pe_str (nomark _)) (pw_or1 (pt_cmpR op_eq (pe_ix ix_tup (pv 0) pe_int (fun _ _ => rfl)) pe_str (nomark _))))) (pss_one (ps_ret (pe_ix ix_tup (pv 0) pe_int (fun _ _ => rfl)))) pss_nil)
      (pss_one (ps_ret (pe_un un_neg pe_int))))), ?_⟩
  have dd : ∀ a c : List Nat, decide (V.str (S a) = V.str (S c)) = decide (a = c) := str_dec
  obtain ⟨n1, n2, n3, n4, n5, n6⟩ := n_rh
  cases e with
  | ref k =>
    obtain ⟨a, rfl, h⟩ := rep_two_inv rv
    refine ⟨_, rfl, a, _, 0, .str (S wRef), rfl, rfl, SqT.of h, rfl, rfl, _, rfl, ?_⟩
    rw [eP, dd, decide_eq_false n2]
    refine iteF ⟨_, rfl, a, _, 0, .str (S wRef), rfl, rfl, SqT.of h, rfl, rfl, _, rfl, ?_⟩
    rw [eR, dd, decide_eq_true rfl]
    exact iteT (iteT ⟨_, rfl, a, _, 1, _, rfl, rfl, SqT.of h, rfl, q⟩)
  | hand k =>
    obtain ⟨a, rfl, h⟩ := rep_two_inv rv
    refine ⟨_, rfl, a, _, 0, .str (S wHandled), rfl, rfl, SqT.of h, rfl, rfl, _, rfl, ?_⟩
    rw [eP, dd, decide_eq_false n3]
    refine iteF ⟨_, rfl, a, _, 0, .str (S wHandled), rfl, rfl, SqT.of h, rfl, rfl, _, rfl, ?_⟩
    rw [eR, dd, decide_eq_false n4]
    refine iteF ⟨_, rfl, a, _, 0, .str (S wHandled), rfl, rfl, SqT.of h, rfl, rfl, _, rfl, ?_⟩
    rw [eH, dd, decide_eq_true rfl]
    exact iteT ⟨_, rfl, a, _, 1, _, rfl, rfl, SqT.of h, rfl, q⟩
  | oth l ds =>
    obtain ⟨o1, o2, o3, o4⟩ := oe
    obtain ⟨a, us, rfl, h, _⟩ := rep_cons_inv rv
    have z0 : atI (V.str (S l) :: us) ((0 : Nat) : Int) = some (.str (S l)) := atI_nat rfl
    refine ⟨_, rfl, a, _, 0, .str (S l), rfl, rfl, SqT.of h, z0, rfl, _, rfl, ?_⟩
    rw [eP, dd, decide_eq_false o3]
    refine iteF ⟨_, rfl, a, _, 0, .str (S l), rfl, rfl, SqT.of h, z0, rfl, _, rfl, ?_⟩
    rw [eR, dd, decide_eq_false o1]
    refine iteF ⟨_, rfl, a, _, 0, .str (S l), rfl, rfl, SqT.of h, z0, rfl, _, rfl, ?_⟩
    rw [eH, dd, decide_eq_false o2]
    exact iteF ⟨1, rfl, q⟩
theorem okmp__law_target (T : Txt K w mg) : OkD P w K mg base CX0 2 "_law_target" p__law_target spTargetP := by
  have O := okm0__law_target (P := P) (base := base) T
  refine T.g__law_target.ok sc__law_target (fun vs H Q E h => ?_) (fun f cdv A outer s H vs Q E hr h => ?_)
  · obtain ⟨v, r, e, m, rfl, _⟩ := h; rfl
  obtain ⟨v, r, e, m, rfl, rv, oe, q⟩ := h
  refine ⟨_, (pss_cons (ps_if (pt_cmpR op_eq (pe_ix ix_tup (pv 0) pe_int (fun _ _ => rfl)) pe_str (nomark _)) (pss_one (ps_ret (pcall O hr (pa_cons (pe_ix ix_tup (pv 0) pe_int (fun _ _ => rfl)) pa_nil)))) pss_nil)
      (pss_cons (ps_if (PW.pt (pw_or (pt_cmpR op_eq (pe_ix ix_tup (pv 0) pe_int (fun _ _ => rfl)) pe_str (nomark _)) (pw_or1 (pt_cmpR op_eq (pe_ix ix_tup (pv 0) pe_int (fun _ _ => rfl)) pe_str (nomark _))))) (pss_one (ps_ret (pe_ix ix_tup (pv 0) pe_int (fun _ _ => rfl)))) pss_nil)
      (pss_one (ps_ret (pe_un un_neg pe_int))))), ?_⟩
  obtain ⟨a, u, rfl, h, ru⟩ := rep_pend_inv rv
  refine ⟨_, rfl, a, _, 0, .str (S wPending), rfl, rfl, SqT.of h, rfl, rfl, _, rfl, ?_⟩
  rw [eP, str_dec, decide_eq_true rfl]
  exact iteT ⟨_, rfl, a, _, 2, _, rfl, rfl, SqT.of h, rfl, u, e, m, rfl, ru, oe, q⟩
theorem ok__law_target (T : Txt K w mg) : OkD P w K mg base CX0 2 "_law_target" p__law_target spTarget := by
  refine (((okm0__law_target T).mono (by omega)).or (okmp__law_target T)).imp fun vs H Q E h => ?_
  obtain ⟨v, e, m, rfl, rv, oe, q⟩ := h
  cases e with
  | pl e => exact .inl ⟨v, e, m, rfl, rv, oe, q⟩
  | pend r e => exact .inr ⟨v, r, e, m, rfl, rv, oe, q⟩
end
end D0
namespace D0
open PySem PySem.Spec PyProof.Rows L2 SX NumText
theorem En.d_cong {F G : Nat → Int} : ∀ {e : En}, (∀ k, e.tg = some k → F k = G k) → e.d F = e.d G
  | .ref k, h => by show D.tup [_, .int (F k)] = D.tup [_, .int (G k)]; rw [h k rfl]
  | .hand k, h => by show D.tup [_, .int (F k)] = D.tup [_, .int (G k)]; rw [h k rfl]
  | .oth _ _, _ => rfl
theorem Ent.d_cong {F G : Nat → Int} : ∀ {e : Ent}, (∀ k, e.tg = some k → F k = G k) → e.d F = e.d G
  | .pl e, h => En.d_cong (e := e) h
  | .pend r e, h => by show D.tup [_, _, e.d F] = D.tup [_, _, e.d G]; rw [En.d_cong (e := e) h]
/-- F tells the addresses f of the nodes U -/
def Tells (F : Nat → Int) (f : Nat → Nat) (U : Nat → Prop) : Prop := ∀ k, U k → F k = ((f k : Nat) : Int)
theorem Tells.d {F : Nat → Int} {f : Nat → Nat} {U : Nat → Prop} (t : Tells F f U) {e : Ent} (h : e.okP U) : e.d F = (e.mv f).d ixD := by
  rw [Ent.mv_d]
  exact Ent.d_cong fun k hk => t k (h.tg hk)
theorem Tells.row {F : Nat → Int} {f : Nat → Nat} {U : Nat → Prop} (t : Tells F f U) {es : List Ent} (h : ∀ e ∈ es, e.okP U) : rowD F es = rowD ixD (mvs f es) := by
  unfold rowD mvs
  rw [List.map_map]
  exact List.map_congr_left fun e he => t.d (h e he)
inductive Deed
  | make (z : List Nat) (tag : D) (es : List Ent)
  | set (k i : Nat) (e : Ent)
  | chg (k : Nat) (tag : D) (es : List Ent)
def Deed.nds (nds : List Nd) : Deed → List Nd
  | .make z tag es => nds ++ [⟨z, tag, es⟩]
  | .set k i e => nds.set k ⟨(gOf nds k).kind, (gOf nds k).tag, (gOf nds k).row.set i e⟩
  | .chg k tag es => nds.set k ⟨(gOf nds k).kind, tag, es⟩
def Deed.us (nds : List Nd) (us : List Nat) : Deed → List Nat
  | .make _ _ _ => us ++ [nds.length]
  | .set _ _ _ => us
  | .chg _ _ _ => us
def Deed.ok (nds : List Nd) (us : List Nat) : Deed → Prop
  | .make _ tag es => D0.dep tag ≤ 3 ∧ es.length ≤ 100 ∧ ∀ e ∈ es, e.okP (· ∈ us)
  | .set k i e => k ∈ us ∧ i < (gOf nds k).row.length ∧ e.okP (· ∈ us)
  | .chg k tag es => k ∈ us ∧ D0.dep tag ≤ 3 ∧ es.length ≤ 100 ∧ ∀ e ∈ es, e.okP (· ∈ us)
def DeedR (H : Hp) (v : V) : Deed → Prop
  | .make z tag es => ∃ p tv g vs, v = .ref p ∧ H p = some (.tup [.str (Str.ofString "make"), .str (S z), tv, .ref g]) ∧ Rep H tv tag ∧ H g = some (.lst vs) ∧ Reps H vs (rowD ixD es)
  | .set k i e => ∃ p u, v = .ref p ∧ H p = some (.tup [.str (Str.ofString "set"), .int (k : Nat), .int (i : Nat), u]) ∧ Rep H u (e.d ixD)
  | .chg k tag es => ∃ p tv g vs, v = .ref p ∧ H p = some (.tup [.str (Str.ofString "change"), .int (k : Nat), tv, .ref g]) ∧ Rep H tv tag ∧ H g = some (.lst vs) ∧ Reps H vs (rowD ixD es)
theorem Nd.ok.more {N : Nat} {n : Nd} (h : n.ok N) {M : Nat} (l : N ≤ M) : n.ok M := h.mono l
theorem LawM.make {m : MM} {nds : List Nd} {f : Nat → Nat} {us : List Nat} (X : LawM m nds f (· ∈ us)) {z : List Nat} {tag : D} {es : List Ent} (hd : D0.dep tag ≤ 3) (hl : es.length ≤ 100) (he : ∀ e ∈ es, e.okP (· ∈ us)) (le : m.yn + m.on < 2000) (ln : nds.length < 2000) :
    LawM (m.make ⟨z, tag, mvs f es⟩) (nds ++ [⟨z, tag, es⟩]) (fun k => if k = nds.length then 2 * m.yn + 1 else f k) (· ∈ us ++ [nds.length]) := by
  have lt : ∀ k, k ∈ us → k < nds.length := X.on.lt
  have fo : ∀ k, k ∈ us → (if k = nds.length then 2 * m.yn + 1 else f k) = f k := fun k hk => if_neg (by have := lt k hk; omega)
  have nw : (if nds.length = nds.length then 2 * m.yn + 1 else f nds.length) = 2 * m.yn + 1 := if_pos rfl
  have cs : ∀ k, k ∈ us ++ [nds.length] → k ∈ us ∨ k = nds.length := fun k hk => (List.mem_append.mp hk).imp_right List.mem_singleton.mp
  have mvo : ∀ es : List Ent, (∀ e ∈ es, e.okP (· ∈ us)) → mvs (fun k => if k = nds.length then 2 * m.yn + 1 else f k) es = mvs f es := fun es h => mvs_cong fun e hm k hk => fo k ((h e hm).tg hk)
  refine ⟨X.ok.make (n := ⟨z, tag, mvs f es⟩) (fun e hm => ?_) hd (by rw [mvs_len]; exact hl) le, ⟨fun k hk => ?_, fun k hk => ?_, fun i j hi hj e => ?_, fun k hk => ?_, fun k hk => ?_, by rw [List.length_append]; show nds.length + 1 ≤ 4000; omega⟩, fun n hn => ?_⟩
  · obtain ⟨e0, h0, rfl⟩ := List.mem_map.mp hm
    exact (he e0 h0).mv fun k hk => X.on.dom k hk
  · rcases cs k hk with h | rfl
    · rw [fo k h]; exact MM.make_dom.mpr (.inl (X.on.dom k h))
    · rw [nw]; exact MM.make_dom.mpr (.inr rfl)
  · rcases cs k hk with h | rfl
    · rw [fo k h, gOf_app (lt k h)]
      have ne : f k ≠ 2 * m.yn + 1 := fun e => MM.make_new (m := m) (by rw [← e]; exact X.on.dom k h)
      show setG m.G _ _ (f k) = _
      rw [setG_ne ne, X.on.at_ k h]
      unfold Nd.mv; rw [mvo _ (X.on.clo k h)]
    · rw [nw, gOf_new]
      show setG m.G _ _ (2 * m.yn + 1) = _
      rw [setG_at]
      unfold Nd.mv; rw [mvo _ he]
  · rcases cs i hi with h | rfl <;> rcases cs j hj with h' | rfl
    · rw [fo i h, fo j h'] at e; exact X.on.inj i j h h' e
    · rw [fo i h, nw] at e
      exact absurd (by rw [← e]; exact X.on.dom i h) (MM.make_new (m := m))
    · rw [nw, fo j h'] at e
      exact absurd (by rw [e]; exact X.on.dom j h') (MM.make_new (m := m))
    · rfl
  · rcases cs k hk with h | rfl
    · rw [gOf_app (lt k h)]
      exact fun e hm => (X.on.clo k h e hm).imp fun j hj => List.mem_append_left _ hj
    · rw [gOf_new]
      exact fun e hm => (he e hm).imp fun j hj => List.mem_append_left _ hj
  · rw [List.length_append]
    rcases cs k hk with h | rfl
    · have := lt k h; omega
    · show nds.length < nds.length + 1; omega
  · rw [List.length_append]
    rcases List.mem_append.mp hn with h | h
    · exact (X.row n h).mono (Nat.le_add_right ..)
    · rw [List.mem_singleton.mp h]
      exact ⟨hd, fun e hm => (he e hm).ok fun k hk => by have := lt k hk; show k < nds.length + 1; omega, hl⟩
/-- one node another -/
theorem LawM.put {m : MM} {nds : List Nd} {f : Nat → Nat} {us : List Nat} (X : LawM m nds f (· ∈ us)) {k : Nat} {n : Nd} {es : List Ent} (hk : k ∈ us) (hd : D0.dep n.tag ≤ 3) (hl : n.row.length ≤ 100) (he : ∀ e ∈ n.row, e.okP (· ∈ us))
    (hy : anyY (mvs f n.row) = true → anyY es = true ∨ anyY (m.G (f k)).row = true) : LawM (m.put (f k) (n.mv f) es) (nds.set k n) f (· ∈ us) := by
  have lt : ∀ k, k ∈ us → k < nds.length := X.on.lt
  refine ⟨X.ok.put (X.on.dom k hk) (fun e hm => ?_) hd (by show (mvs f n.row).length ≤ 100; rw [mvs_len]; exact hl) hy, ⟨fun j hj => X.on.dom j hj, fun j hj => ?_, X.on.inj, fun j hj => ?_, fun j hj => by rw [List.length_set]; exact lt j hj, by rw [List.length_set]; exact X.on.le⟩, fun x hx => ?_⟩
  · obtain ⟨e0, h0, rfl⟩ := List.mem_map.mp (show e ∈ mvs f n.row from hm)
    exact (he e0 h0).mv fun j hj => X.on.dom j hj
  · show setG m.G (f k) (n.mv f) (f j) = _
    rw [gOf_set (lt j hj)]
    by_cases e : j = k
    · subst e; rw [setG_at, if_pos rfl]
    · rw [setG_ne (fun z => e (X.on.inj j k hj hk z)), if_neg e]; exact X.on.at_ j hj
  · rw [gOf_set (lt j hj)]
    by_cases e : j = k
    · rw [if_pos e]; exact he
    · rw [if_neg e]; exact X.on.clo j hj
  · rw [List.length_set]
    rcases List.mem_or_eq_of_mem_set hx with h | rfl
    · exact X.row x h
    · exact ⟨hd, fun e hm => (he e hm).ok lt, hl⟩
theorem tgs_set {es : List Ent} {i : Nat} {e : Ent} {a : Nat} (h : a ∈ tgs (es.set i e)) : a ∈ tgs es ∨ e.tg = some a := by
  obtain ⟨x, hx, q⟩ := of_tgs h
  rcases List.mem_or_eq_of_mem_set hx with hx | rfl
  · exact .inl (mem_tgs hx q)
  · exact .inr q
end D0
namespace D0
open PySem PySem.Spec PyProof.Rows L2 SX NumText
/-- the bank's methods -/
structure BM (P : Program) (w : World) (K : PySem.W.Frag) (mg : Str → Option Value) (base : Heap) (C CT : Addr) : Prop where
  cl : Cls K C
  make : OkM P w K mg base C CX0 3 "make" p_Heap_make (spHMake K C CT)
  set_slot : OkM P w K mg base C CX0 5 "set_slot" p_Heap_set_slot (spHSet K C CT)
  change : OkM P w K mg base C CX0 5 "change" p_Heap_change (spHChange K C CT)
  faults : OkM P w K mg base C CX0 4 "faults" p_Heap_faults (spHFaults K C CT)
  slots_of : OkM P w K mg base C CX0 1 "slots_of" p_Store_slots_of (spHSlots K C CT)
  young : OkP P w K mg base C 1 "young" (spYoungN C)
  old : OkP P w K mg base C 1 "old" (spOldN C)
  remembered : OkP P w K mg base C 1 "remembered" (spRemd C)
  len : ∃ g fd, PySem.W.findIn K (.ref C) "__len__" = some (some (.ref g)) ∧ PySem.W.isFn K (.ref g) = true ∧ FnOk P w K mg base CX0 1 g fd p_Heap___len__ (spHLen K C CT) ∧ Binds K fd p_Heap___len__ []
  collect : ∃ f fd, Meth K C "collect" f ∧ FnOk P w K mg base CX0 7 f fd p_Heap_collect (spHCol K C CT) ∧ Binds K fd p_Heap_collect [] ∧ (∃ t, RelV (.bl false) t ∧ Binds K fd p_Heap_collect [t]) ∧ KBn K fd p_Heap_collect 2 ["full"] (fun us ws => us ++ ws) (fun vs zs => vs ++ zs)
theorem same_chg {H H1 H2 : Hp} {E : List Addr} (s : Same H H1) (c : Chg E H1 H2) (f : ∀ a ∈ E, H a = none) : Same H H2 := fun a o e => c.keep a o (fun z => by rw [f a z] at e; cases e) (s a o e)
theorem same_lst {K : PySem.W.Frag} {H : Hp} {a c : Addr} {us ws : List V} {ds : List D} (h1 : H a = some (.lst us)) (h2 : H c = some (.lst ws)) (r1 : Reps H us ds) (r2 : Reps H ws ds) (l : us.length ≤ 2000) (d : deps ds ≤ 7) : SeqSame K 9 H (.ref a) (.ref c) :=
  ⟨true, a, c, us, ws, ds, rfl, rfl, h1, h2, r1, r2, l, by omega⟩
theorem reps_ints {H : Hp} : ∀ l : List Int, Reps H (l.map V.int) (l.map D.int)
  | [] => .nil
  | i :: r => .cons (.int i) (reps_ints r)
theorem deps_ints : ∀ l : List Int, deps (l.map D.int) ≤ 1
  | [] => by simp [deps]
  | i :: r => by
    have := deps_ints r
    simp [deps, dep] at this ⊢
    exact this
theorem PS.of {X : Cx} {e : Stmt} {t t' : TS} (h : PS X e t) (f : ∀ D σ H, t' D σ H → t D σ H) : PS X e t' := ⟨fun pins s σ H D I q => h.run pins s σ H D I (f D σ H q)⟩
def tTru (K : PySem.W.Frag) (te : TE) : TT := fun σ H Q => te σ H fun x H' => ∃ k, TruV K x H' k ∧ Q k H'
def blF (f : Nat → Bool) (m : Nat) : List V := (List.range m).map fun k => V.bl (f k)
theorem blF_at {f : Nat → Bool} {m k : Nat} (h : k < m) : (blF f m)[k]? = some (.bl (f k)) := by unfold blF; rw [List.getElem?_map, List.getElem?_range h]; rfl
theorem blF_len (f : Nat → Bool) (m : Nat) : (blF f m).length = m := by unfold blF; rw [List.length_map, List.length_range]
theorem blF_set {f g : Nat → Bool} {N k : Nat} {i : Bool} (h : k < N) (e : ∀ j, j < N → g j = if k = j then i else f j) : (blF f N).set k (.bl i) = blF g N := by
  refine List.ext_getElem? fun j => ?_
  rw [List.getElem?_set]
  by_cases q : k = j
  · subst q
    rw [if_pos rfl, if_pos (by rw [blF_len]; exact h), blF_at h, e k h, if_pos rfl]
  · rw [if_neg q]
    by_cases hj : j < N
    · rw [blF_at hj, blF_at hj, e j hj, if_neg q]
    · rw [List.getElem?_eq_none (by rw [blF_len]; omega), List.getElem?_eq_none (by rw [blF_len]; omega)]
theorem blF_false (N : Nat) : blF (fun _ => false) N = List.replicate N (.bl false) := by unfold blF; rw [map_range_const]
/-- where the law's objects stand: the first ones are old -/
def fA (aged : Nat) (k : Nat) : Nat := if k < aged then 2 * k else 2 * (k - aged) + 1
def fI (aged : Nat) (k : Nat) : Int := ((fA aged k : Nat) : Int)
theorem fA_tells (aged : Nat) (U : Nat → Prop) : Tells (fI aged) (fA aged) U := fun _ _ => rfl
theorem LawM.cong {m : MM} {nds : List Nd} {f f' : Nat → Nat} {U U' : Nat → Prop} (X : LawM m nds f U) (h : ∀ k, U' k ↔ U k) (e : ∀ k, U k → f' k = f k) : LawM m nds f' U' := by
  refine ⟨X.ok, ⟨fun k hk => ?_, fun k hk => ?_, fun i j hi hj q => ?_, fun k hk x hx => (X.on.clo k ((h k).mp hk) x hx).imp fun j hj => (h j).mpr hj, fun k hk => X.on.lt k ((h k).mp hk), X.on.le⟩, X.row⟩
  · rw [e k ((h k).mp hk)]; exact X.on.dom k ((h k).mp hk)
  · rw [e k ((h k).mp hk), X.on.at_ k ((h k).mp hk)]
    unfold Nd.mv
    rw [mvs_cong (f := f) (g := f') fun x hx j hj => (e j ((X.on.clo k ((h k).mp hk) x hx).tg hj)).symm]
  · rw [e i ((h i).mp hi), e j ((h j).mp hj)] at q
    exact X.on.inj i j ((h i).mp hi) ((h j).mp hj) q
def noteZ (aged : Nat) (M : Nat → Bool) (k : Nat) (es : List Ent) : Nat → Bool := fun j => if k = j ∧ ∃ t ∈ tgs es, aged ≤ t then true else M j
structure LZ (m : MM) (nds : List Nd) (aged : Nat) (M : Nat → Bool) : Prop where
  law : LawM m nds (fA aged) (· ∈ List.range nds.length)
  yn : m.yn + aged = nds.length
  on : m.on = aged
  mkd : ∀ k, k < aged → (M k = true ↔ 2 * k ∈ m.ms)
section
variable {m : MM} {nds : List Nd} {aged : Nat} {M : Nat → Bool}
theorem LZ.make (X : LZ m nds aged M) {z : List Nat} {tag : D} {es : List Ent} (hd : D0.dep tag ≤ 3) (hl : es.length ≤ 100) (he : ∀ e ∈ es, e.okP (· ∈ List.range nds.length)) (ln : nds.length < 1000) : LZ (m.make ⟨z, tag, mvs (fA aged) es⟩) (nds ++ [⟨z, tag, es⟩]) aged M := by
  have hy := X.yn
  have ho := X.on
  refine ⟨(X.law.make (z := z) hd hl he (by omega) (by omega)).cong (fun k => by rw [List.length_append, List.length_singleton, List.range_succ]) (fun k hk => ?_), by show m.yn + 1 + aged = _; rw [List.length_append, List.length_singleton]; omega, ho, fun k hk => X.mkd k hk⟩
  by_cases e : k = nds.length
  · rw [if_pos e, e]; unfold fA; rw [if_neg (by omega)]; omega
  · rw [if_neg e]
theorem LZ.any (X : LZ m nds aged M) {es : List Ent} : anyY (mvs (fA aged) es) = true ↔ ∃ t ∈ tgs es, aged ≤ t := by
  rw [anyY_true]
  have e : tgs (mvs (fA aged) es) = (tgs es).map (fA aged) := mvs_tgs _ _
  constructor
  · rintro ⟨a, h, o⟩
    rw [e] at h
    obtain ⟨t, ht, rfl⟩ := List.mem_map.mp h
    refine ⟨t, ht, ?_⟩
    unfold fA at o; split at o <;> omega
  · rintro ⟨t, ht, l⟩
    refine ⟨fA aged t, by rw [e]; exact List.mem_map_of_mem ht, ?_⟩
    unfold fA; rw [if_neg (by omega)]; omega
theorem LZ.put (X : LZ m nds aged M) {k : Nat} {n : Nd} {es : List Ent} (hk : k < nds.length) (hd : D0.dep n.tag ≤ 3) (hl : n.row.length ≤ 100) (he : ∀ e ∈ n.row, e.okP (· ∈ List.range nds.length)) (hy : anyY (mvs (fA aged) n.row) = true → anyY (mvs (fA aged) es) = true ∨ anyY (m.G (fA aged k)).row = true) :
    LZ (m.put (fA aged k) (n.mv (fA aged)) (mvs (fA aged) es)) (nds.set k n) aged (noteZ aged M k es) := by
  have h1 := X.law.put (List.mem_range.mpr hk) hd hl he hy
  refine ⟨by rw [List.length_set]; exact h1, by rw [List.length_set]; exact X.yn, X.on, fun j hj => ?_⟩
  show noteZ aged M k es j = true ↔ 2 * j ∈ note (fA aged k) (mvs (fA aged) es) m.ms
  rw [note_mem, X.any, ← X.mkd j hj]
  unfold noteZ
  by_cases c : k = j ∧ ∃ t ∈ tgs es, aged ≤ t
  · rw [if_pos c]
    refine ⟨fun _ => .inr ⟨?_, ?_, c.2⟩, fun _ => rfl⟩
    · rw [c.1]; unfold fA; rw [if_pos hj]
    · rw [c.1]; unfold fA; rw [if_pos hj]; omega
  · rw [if_neg c]
    refine ⟨.inl, fun h => h.elim id fun h => absurd ⟨?_, h.2.2⟩ c⟩
    have h1 := h.1
    have h2 := h.2.1
    unfold fA at h1 h2
    split at h1
    · omega
    · rename_i q; rw [if_neg q] at h2; omega
theorem LZ.lt (X : LZ m nds aged M) {es : List Ent} (he : ∀ e ∈ es, e.okP (· ∈ List.range nds.length)) : ∀ e ∈ es, e.ok nds.length := fun e h => (he e h).ok X.law.on.lt
end
end D0
namespace D0
open PySem PySem.Spec PyProof.Rows L2 SX NumText
def spErrors : Sp := fun vs H Q _ => ∃ (nb : Addr) (as : List Addr), vs = [.ref nb] ∧ H nb = some (.lst (as.map V.ref)) ∧ (∀ a ∈ as, ∃ z t, H a = some (.lst (.str z :: t))) ∧ as.length ≤ 1000 ∧
  ∀ p ks H', Same H H' → H p = none → H' p = some (.lst (nats ks)) → (∀ k ∈ ks, k < as.length) → ks.length ≤ as.length → Q (.ref p) H'
def spTableZ : Sp := fun vs H Q _ => ∃ (n a : Nat), vs = [.int n, .int a] ∧ a ≤ n ∧ n ≤ 1000 ∧ ∀ p H', Same H H' → H p = none → H' p = some (.lst (tbF (fI a) n)) → Q (.ref p) H'
def spNoteZ : Sp := fun vs H Q _ => ∃ (aged k N : Nat) (mk ea : Addr) (M : Nat → Bool) (ws : List V) (es : List Ent), vs = [.int aged, .ref mk, .int k, .ref ea] ∧ H mk = some (.lst (blF M aged)) ∧ H ea = some (.lst ws) ∧ Reps H ws (rowD ixD es) ∧ (∀ e ∈ es, e.ok N) ∧ ea ≠ mk ∧ es.length ≤ 1000 ∧
  ∀ H', Chg [mk] H H' → H' mk = some (.lst (blF (noteZ aged M k es) aged)) → Q .non H'
def spCounts (K : PySem.W.Frag) (C CT : Addr) : Sp := fun vs H Q _ => ∃ (B : Addr) (n a : Nat) (F : List Addr) (m : MM), vs = [.ref B, .int n, .int a] ∧ Mem K C CT H B F m ∧ m.yn = n ∧ m.on = a ∧ n + a ≤ 4000 ∧ Q (.bl true) H
def spSpoil (K : PySem.W.Frag) : Sp := fun vs H Q _ => ∃ (r u : Addr) (us ws : List V) (ds : List D), vs = [.ref r, .ref u] ∧ H r = some (.lst us) ∧ H u = some (.lst ws) ∧ Reps H us ds ∧ Reps H ws ds ∧ us.length ≤ 500 ∧ deps ds ≤ 3 ∧ ∀ H' zs, Chg [r] H H' → H' r = some (.lst zs) → Q (.bl true) H'
theorem tgV_ge {t : Option Nat} {a : Nat} : tgV t ≥ (a : Int) ↔ ∃ k, t = some k ∧ a ≤ k := by
  cases t with
  | none =>
    constructor
    · intro h; have h : (-1 : Int) ≥ (a : Int) := h; omega
    · rintro ⟨k, h, _⟩; cases h
  | some k =>
    constructor
    · intro h; have h : ((k : Nat) : Int) ≥ (a : Int) := h; exact ⟨k, rfl, by omega⟩
    · rintro ⟨j, h, l⟩; cases h; show ((k : Nat) : Int) ≥ (a : Int); omega
theorem noteZ_app {aged k : Nat} {M : Nat → Bool} {es : List Ent} {e : Ent} : noteZ aged M k (es ++ [e]) = if tgV e.tg ≥ (aged : Int) then (fun j => if k = j then true else noteZ aged M k es j) else noteZ aged M k es := by
  funext j
  have h : (∃ t ∈ tgs (es ++ [e]), aged ≤ t) ↔ (∃ t ∈ tgs es, aged ≤ t) ∨ tgV e.tg ≥ (aged : Int) := by
    rw [tgV_ge]
    constructor
    · rintro ⟨t, h, l⟩
      rw [tgs_app, List.mem_append] at h
      rcases h with h | h
      · exact .inl ⟨t, h, l⟩
      · obtain ⟨x, hx, q⟩ := of_tgs h
        rw [List.mem_singleton.mp hx] at q
        exact .inr ⟨t, q, l⟩
    · rintro (⟨t, h, l⟩ | ⟨t, h, l⟩)
      · exact ⟨t, by rw [tgs_app]; exact List.mem_append_left _ h, l⟩
      · exact ⟨t, mem_tgs (List.mem_append_right _ (List.mem_singleton_self _)) h, l⟩
  unfold noteZ
  by_cases c : tgV e.tg ≥ (aged : Int)
  · rw [if_pos c]
    by_cases q : k = j
    · rw [if_pos ⟨q, h.mpr (.inr c)⟩, if_pos q]
    · rw [if_neg (fun z => q z.1), if_neg q, if_neg (fun z => q z.1)]
  · rw [if_neg c]
    by_cases q : k = j ∧ ∃ t ∈ tgs es, aged ≤ t
    · rw [if_pos q, if_pos ⟨q.1, h.mpr (.inl q.2)⟩]
    · rw [if_neg q, if_neg (fun z => q ⟨z.1, (h.mp z.2).elim id fun z => absurd z c⟩)]
theorem noteZ_nil {aged k : Nat} {M : Nat → Bool} : noteZ aged M k [] = M := funext fun j => if_neg fun ⟨_, t, h, _⟩ => by cases h
theorem noteZ_out {aged k : Nat} {M : Nat → Bool} {es : List Ent} (h : aged ≤ k) : blF (noteZ aged M k es) aged = blF M aged := by
  unfold blF
  refine List.map_congr_left fun j hj => ?_
  have := List.mem_range.mp hj
  unfold noteZ; rw [if_neg (fun z => by have := z.1; omega)]
section
variable {P : Program} {w : World} {K : PySem.W.Frag} {mg : Str → Option Value} {base : Heap} {C CT : Addr}
theorem ok__law_errors (T : Txt K w mg) : OkD P w K mg base CX0 1 "_law_errors" p__law_errors spErrors := by
  refine T.g__law_errors.ok sc__law_errors (fun vs H Q E h => ?_) (fun f cdv A outer s H vs Q E hr h => ?_)
  · obtain ⟨nb, as, rfl, _⟩ := h; rfl
  obtain ⟨nb, as, rfl, hb, ha, hl, q⟩ := h
  refine ⟨_, (pss_one (ps_ret (pe_lc (own := [("k", 1)]) (g := gName 1) rfl sc__law_errors.nd (pi_range1 rfl T.z_range (pa_cons (pe_callB call_len_seq (by rfl) T.z_len PySem.boot_len (pa_cons (pv 0) pa_nil)) pa_nil)) (blkOk_by (own := [("k", 1)]) (N := n__law_errors) (sc := defScope s__law_errors) (by decide +kernel)) (fun _ _ _ _ _ => (pg_name (i := 1) sc__law_errors.nd rfl (Or.inl rfl))) (fun _ _ _ _ _ => (pts_one (pt_cmpR op_eq (pe_ix (show IxR _ (rIxL K) from ix_list) (pe_ix (show IxR _ (rIxL K) from ix_list) (pv 0) (pv 1) (fun _ _ => rfl)) pe_int (fun _ _ => rfl)) pe_str (nomark _)))) (fun _ _ _ _ _ => (pv 1))))), ?_⟩
  have lim : (1000 : Nat) < sizeLine := by decide
  refine ⟨_, rfl, nb, _, rfl, .inl (SqL.of hb), _, rfl, by rw [List.length_map]; omega, by rw [List.length_map]; omega, fun D1 hD1 => ?_⟩
  rw [List.length_map]
  refine lc_it walk_range (fun i H' => Same H H' ∧ ∃ ks, H' D1 = some (.lst (nats ks)) ∧ (∀ k ∈ ks, k < as.length) ∧ ks.length ≤ i) ⟨same_new hD1 _, [], upd_same, (fun k h => by cases h), Nat.le_refl _⟩ (fun _ _ _ _ => trivial) ?_ ?_
  · rintro i x H3 H4 hi ⟨s3, ks, h3, o3, l3⟩ ⟨rfl, rfl⟩
    have hi' : i < as.length := by simpa using hi
    obtain ⟨z, t, hz⟩ := ha _ (List.getElem_mem hi')
    refine ⟨rfl, ?_⟩
    refine ⟨_, rfl, _, rfl, nb, _, _, .ref as[i], rfl, rfl, SqL.of (s3 _ _ hb), by rw [Int.zero_add]; exact atI_nat (by rw [List.getElem?_map, List.getElem?_eq_getElem hi']; rfl), _, _, 0, .str z, rfl, rfl, SqL.of (s3 _ _ hz), (show atI (V.str z :: t) ((0 : Nat) : Int) = _ from atI_nat rfl), rfl, _, rfl, ite2 (fun _ => ?_) (fun _ => ?_)⟩
    · refine ⟨_, rfl, _, h3, by unfold nats; rw [List.length_map]; omega, same_grow s3 hD1, ks ++ [i], ?_, ?_, by simp; omega⟩
      · rw [upd_same, nats_app]; show some (HO.lst (nats ks ++ [V.int (0 + (i : Int))])) = some (HO.lst (nats ks ++ [V.int (i : Int)])); rw [Int.zero_add]
      · intro k hk
        rcases List.mem_append.mp hk with h | h
        · exact o3 k h
        · rw [List.mem_singleton.mp h]; omega
    · exact ⟨s3, ks, h3, o3, by omega⟩
  · rintro H3 ⟨s3, ks, h3, o3, l3⟩
    have l3 : ks.length ≤ as.length := by simpa using l3
    exact q D1 ks H3 s3 hD1 h3 o3 l3
theorem ok__law_table (T : Txt K w mg) : OkD P w K mg base CX0 1 "_law_table" p__law_table spTableZ := by
  refine T.g__law_table.ok sc__law_table (fun vs H Q E h => ?_) (fun f cdv A outer s H vs Q E hr h => ?_)
  · obtain ⟨n, a, rfl, _⟩ := h; rfl
  obtain ⟨n, a, rfl, h1, h2, q⟩ := h
  refine ⟨_, (pss_one (ps_ret (pe_op op_cat (pe_lc (own := [("k", 2)]) (g := gName 2) (tt := tYes) rfl sc__law_table.nd (pi_range1 rfl T.z_range (pa_cons (pv 1) pa_nil)) (blkOk_by (own := [("k", 2)]) (N := n__law_table) (sc := defScope s__law_table) (by decide +kernel)) (fun _ _ _ _ _ => (pg_name (i := 2) sc__law_table.nd rfl (Or.inl rfl))) (fun _ _ _ _ _ => pts_nil) (fun _ _ _ _ _ => (pe_op op_mul pe_int (pv 2)))) (pe_lc (own := [("k", 2)]) (g := gName 2) (tt := tYes) rfl sc__law_table.nd (pi_range1 rfl T.z_range (pa_cons (pe_op op_sub (pv 0) (pv 1)) pa_nil)) (blkOk_by (own := [("k", 2)]) (N := n__law_table) (sc := defScope s__law_table) (by decide +kernel)) (fun _ _ _ _ _ => (pg_name (i := 2) sc__law_table.nd rfl (Or.inl rfl))) (fun _ _ _ _ _ => pts_nil) (fun _ _ _ _ _ => (pe_op op_add (pe_op op_mul pe_int (pv 2)) pe_int)))))), ?_⟩
  have lim : (2000 : Nat) < sizeLine := by decide
  refine ⟨_, rfl, a, rfl, by omega, by omega, fun D1 hD1 => ?_⟩
  refine lc_it walk_range (fun i H' => Same H H' ∧ H' D1 = some (.lst (tbF (fI a) i))) ⟨same_new hD1 _, upd_same⟩ (fun _ _ _ _ => trivial) ?_ ?_
  · rintro i x H3 H4 hi ⟨s3, h3⟩ ⟨rfl, rfl⟩
    have hi' : i < a := by simpa using hi
    refine ⟨rfl, iteT (B := True) (iteT ?_)⟩
    refine ⟨_, rfl, _, _, rfl, rfl, .inl ⟨by omega, by omega⟩, _, h3, by rw [tbF_len]; omega, same_grow s3 hD1, ?_⟩
    rw [upd_same]
    unfold tbF
    rw [List.range_succ, List.map_append]
    show some (HO.lst (_ ++ [V.int (2 * (0 + (i : Int)))])) = some (HO.lst (_ ++ [V.int (((fA a i : Nat)) : Int)]))
    unfold fA; rw [if_pos hi', show (2 * (0 + (i : Int))) = ((2 * i : Nat) : Int) by omega]
  rintro H3 ⟨s3, h3⟩
  have h3 : H3 D1 = some (.lst (tbF (fI a) a)) := by simpa using h3
  refine ⟨_, rfl, _, rfl, _, _, rfl, rfl, ((n - a : Nat) : Int), by show [V.int ((n : Int) - (a : Int))] = _; rw [show ((n : Int) - (a : Int)) = ((n - a : Nat) : Int) by omega], by omega, by omega, fun D2 hD2 => ?_⟩
  refine lc_it walk_range (fun i H' => Same H3 H' ∧ H' D2 = some (.lst ((List.range i).map fun j => V.int (2 * (j : Nat) + 1)))) ⟨same_new hD2 _, upd_same⟩ (fun _ _ _ _ => trivial) ?_ ?_
  · rintro i x H4 H5 hi ⟨s4, h4⟩ ⟨rfl, rfl⟩
    have hi' : i < n - a := by simpa using hi
    refine ⟨rfl, iteT (B := True) (iteT ?_)⟩
    refine ⟨_, rfl, _, _, rfl, rfl, .inl ⟨by omega, by omega⟩, _, _, rfl, rfl, _, h4, by rw [List.length_map, List.length_range]; omega, same_grow s4 hD2, ?_⟩
    rw [upd_same, List.range_succ, List.map_append]
    show some (HO.lst (_ ++ [V.int (2 * (0 + (i : Int)) + 1)])) = some (HO.lst (_ ++ [V.int (2 * (i : Int) + 1)]))
    rw [Int.zero_add]
  rintro H4 ⟨s4, h4⟩
  have h4 : H4 D2 = some (.lst ((List.range (n - a)).map fun j => V.int (2 * (j : Nat) + 1))) := by simpa using h4
  refine ⟨D1, D2, _, _, rfl, rfl, s4 _ _ h3, h4, by rw [tbF_len, List.length_map, List.length_range]; omega, fun p hp => ?_⟩
  have S := s3.trans s4
  refine q p _ (S.trans (same_new hp _)) (S.free hp) ?_
  rw [upd_same]
  have e : tbF (fI a) n = tbF (fI a) a ++ (List.range (n - a)).map fun j => V.int (2 * (j : Nat) + 1) := by
    have en : n = a + (n - a) := by omega
    unfold tbF
    conv => lhs; rw [en, List.range_add, List.map_append, List.map_map]
    congr 1
    refine List.map_congr_left fun j _ => ?_
    show V.int ((fA a (a + j) : Nat) : Int) = V.int (2 * (j : Int) + 1)
    unfold fA; rw [if_neg (by omega), show a + j - a = j by omega]
    congr 1
  rw [e]
theorem ok__law_note (T : Txt K w mg) (Ot : OkD P w K mg base CX0 2 "_law_target" p__law_target spTarget) : OkD P w K mg base CX0 3 "_law_note" p__law_note spNoteZ := by
  refine T.g__law_note.ok sc__law_note (fun vs H Q E h => ?_) (fun f cdv A outer s H vs Q E hr h => ?_)
  · obtain ⟨aged, k, N, mk, ea, M, ws, es, rfl, _⟩ := h; rfl
  obtain ⟨aged, k, N, mk, ea, M, ws, es, rfl, hmk, hea, rr, oe, ne, le, q⟩ := h
  refine ⟨_, (pss_one (ps_if (pt_cmpR op_lt (pv 2) (pv 0) (nomark _)) (pss_one (ps_for PassesOwn.never rfl (pi_list (pv 3)) (pg_name (i := 4) sc__law_note.nd rfl (Or.inl rfl)) (pss_one (ps_if (pt_cmpR op_ge (pcall Ot hr (pa_cons (pv 4) pa_nil)) (pv 0) (nomark _)) (pss_one (ps_asg pe_bl (pg_sub (pv 1) (pv 2) set_list))) pss_nil)))) pss_nil)), ?_⟩
  have out : ¬ (k : Int) < (aged : Int) → Q .non H := fun c => q H .refl (by rw [noteZ_out (by omega)]; exact hmk)
  refine ⟨_, rfl, _, rfl, _, _, rfl, rfl, _, rfl, ite2 (fun c => ?_) (fun c => out fun z => c (decide_eq_true z))⟩
  have c : (k : Int) < (aged : Int) := of_decide_eq_true c
  refine ⟨_, rfl, ea, rfl, ⟨_, SqL.of hea⟩, ?_⟩
  refine for_it (walk_list (xs := ws)) (fun i σ H' => ∃ o4, σ = [some (.int aged), some (.ref mk), some (.int k), some (.ref ea), o4] ∧ Chg [mk] H H' ∧ H' mk = some (.lst (blF (noteZ aged M k (es.take i)) aged))) ⟨none, rfl, .refl, by rw [List.take_zero, noteZ_nil]; exact hmk⟩ (fun i σ H' _ h => by
    obtain ⟨_, _, c, _⟩ := h
    exact SqL.of (c.keep _ _ (by simpa using ne) hea)) ?_ ?_
  · rintro i y σ H3 H4 hi ⟨o4, rfl, c3, h3⟩ ⟨rfl, hx⟩
    obtain ⟨hi', rd⟩ := rows_at (rr.mono c3.tups) hx
    rw [take_next hi', noteZ_app]
    refine ⟨_, rfl, y, es[i], N, rfl, rd, oe _ (List.getElem_mem hi'), _, rfl, _, _, rfl, rfl, _, rfl, ite2 (fun g => ?_) (fun g => ?_)⟩
    · have g : tgV es[i].tg ≥ (aged : Int) := of_decide_eq_true g
      rw [if_pos g]
      refine ⟨_, rfl, _, rfl, mk, _, _, k, rfl, rfl, h3, ixN_nat (by rw [blF_len]; omega), ?_⟩
      refine ⟨_, rfl, c3.trans (.upd h3 (fun _ z => by cases z) (List.mem_singleton_self _)), ?_⟩
      rw [upd_same, blF_set (by omega) (fun j _ => rfl)]
    · rw [if_neg (fun z => g (decide_eq_true z))]
      exact ⟨_, rfl, c3, h3⟩
  rintro σ H3 ⟨o4, rfl, c3, h3⟩
  rw [List.take_of_length_le (by rw [rr.len, rowD_len]; exact Nat.le_refl _)] at h3
  exact q H3 c3 h3
theorem ok__law_counts (T : Txt K w mg) (BK : BM P w K mg base C CT) (Oe : OkD P w K mg base CX0 10 "_law_same" p__law_same (spSame K 9)) : OkD P w K mg base CX0 11 "_law_counts" p__law_counts (spCounts K C CT) := by
  obtain ⟨gl, fdl, ls, lf, LF, lb⟩ := BK.len
  refine T.g__law_counts.ok sc__law_counts (fun vs H Q E h => ?_) (fun f cdv A outer s H vs Q E hr h => ?_)
  · obtain ⟨B, n, a, F, m, rfl, _⟩ := h; rfl
  obtain ⟨B, n, a, F, m, rfl, X, rfl, rfl, lna, q⟩ := h
  refine ⟨_, (pss_cons (ps_if (PW.pt (pw_or (pt_not (pt_val (pcall Oe hr (pa_cons (pprop BK.young BK.cl hr (pv 0)) (pa_cons (pv 1) pa_nil))))) (pw_or1 (pt_not (pt_val (pcall Oe hr (pa_cons (pprop BK.old BK.cl hr (pv 0)) (pa_cons (pv 2) pa_nil)))))))) (pss_one (ps_ret pe_bl)) pss_nil)
      (pss_one (ps_ret (pe_cmpR op_eq (pe_callB (call_lenOwn ls lf LF lb (hr.mono (by decide)) pass0) (by rfl) T.z_len PySem.boot_len (pa_cons (pv 0) pa_nil)) (pe_op op_add (pv 1) (pv 2)) (nomark _))))), ?_⟩
  have X0 := X
  obtain ⟨td, md, L, Y, hF, hmF, lv⟩ := X
  obtain ⟨dx, hB⟩ := Y.bk.hB
  refine ⟨_, rfl, B, dx, _, rfl, hB, B, dx, td, md, _, _, rfl, hB, _, rfl, _, _, rfl, ⟨_, rfl, iteF ?_⟩, .inr ⟨.int (m.yn : Nat), .int _, .int _, by simp [D0.dep]⟩⟩
  refine ⟨_, rfl, B, dx, _, rfl, hB, B, dx, td, md, _, _, rfl, hB, _, rfl, _, _, rfl, ⟨_, rfl, iteF ?_⟩, .inr ⟨.int (m.on : Nat), .int _, .int _, by simp [D0.dep]⟩⟩
  refine ⟨_, rfl, B, dx, _, rfl, hB, ⟨B, F, m, rfl, X0, _, rfl, by omega, by omega, ?_⟩⟩
  refine ⟨_, rfl, _, rfl, _, _, rfl, rfl, rfl, ?_⟩
  rw [show (decide (V.int ((m.yn + m.on : Nat) : Int) = V.int ((m.yn : Int) + (m.on : Int)))) = true from decide_eq_true (by congr 1)]
  exact q
theorem ok__law_spoil (T : Txt K w mg) (O : OkD P w K mg base CX0 10 "_law_same" p__law_same (spSame K 9)) : OkD P w K mg base CX0 11 "_law_spoil" p__law_spoil (spSpoil K) := by
  refine T.g__law_spoil.ok sc__law_spoil (fun vs H Q E h => ?_) (fun f cdv A outer s H vs Q E hr h => ?_)
  · obtain ⟨r, u, us, ws, ds, rfl, _⟩ := h; rfl
  obtain ⟨r, u, us, ws, ds, rfl, hu, hw, ru, rw_, hl, hd, q⟩ := h
  refine ⟨_, (pss_cons (ps_if (pt_not (pt_val (pcall O hr (pa_cons (pv 0) (pa_cons (pv 1) pa_nil))))) (pss_one (ps_ret pe_bl)) pss_nil)
      (pss_cons (ps_expr (pe_bm PySem.F.plainAttrs_list PySem.F.slot_list_append PySem.F.type_list_append mt_append (pv 0) (pa_cons (pe_tup (pa_cons pe_str (pa_cons pe_str pa_nil))) pa_nil)))
      (pss_cons (ps_asg (pe_tup (pa_cons pe_str (pa_cons (pe_un un_neg pe_int) pa_nil))) (pg_sub (pv 0) pe_int set_list))
      (pss_one (ps_ret pe_bl))))), ?_⟩
  have two : 2 ≤ sizeLine := by decide
  have lim : (1000 : Nat) < sizeLine := by decide
  refine ⟨_, rfl, _, rfl, _, _, rfl, ⟨_, rfl, iteF ?_⟩, .inl ⟨true, r, u, us, ws, ds, rfl, rfl, hu, hw, ru, rw_, by omega, by omega⟩⟩
  refine ⟨_, rfl, .inl ⟨rfl, _, SqL.of hu⟩, two, fun p hp => ?_⟩
  have h1 : upd H p (.tup [.str (Str.ofString "text"), .str (Str.ofString "spoilt")]) r = some (.lst us) := by rw [upd_ne (ne_of_none hu hp)]; exact hu
  refine ⟨r, us, _, rfl, rfl, h1, by omega, ?_⟩
  have c1 : Chg [r] H (upd (upd H p (.tup [.str (Str.ofString "text"), .str (Str.ofString "spoilt")])) r (.lst (us ++ [.ref p]))) := (Chg.new hp).trans (.upd h1 (fun _ z => by cases z) (List.mem_singleton_self _))
  refine ⟨7, rfl, two, fun p2 hp2 => ?_⟩
  have h2 : upd (upd (upd H p (.tup [.str (Str.ofString "text"), .str (Str.ofString "spoilt")])) r (.lst (us ++ [.ref p]))) p2 (.tup [.str (Str.ofString "number"), .int (-7)]) r = some (.lst (us ++ [.ref p])) := by
    rw [upd_ne (fun z => by rw [← z, upd_same] at hp2; cases hp2), upd_same]
  have c2 := c1.trans (Chg.new (F := [r]) (o := HO.tup [.str (Str.ofString "number"), .int (-7)]) hp2)
  refine ⟨_, rfl, r, _, 0, 0, rfl, rfl, h2, ixN_nat (by rw [List.length_append]; show 0 < _ + 1; omega), ?_⟩
  exact q _ _ (c2.trans (.upd h2 (fun _ z => by cases z) (List.mem_singleton_self _))) upd_same
end
end D0
namespace D0
open PySem PySem.Spec PyProof.Rows L2 SX NumText
section
variable {H H' : Hp} {nb : Addr} {as rs : List Addr} {nds : List Nd}
/-- one more node, whose row stands already -/
theorem BoA.more2 (X : BoA H nb as rs nds) {a r : Addr} {n : Nd} {tv : V} {vs : List V} (na : a ∉ FN nb as rs) (nr : r ∉ FN nb as rs) (ne : a ≠ r) {F : List Addr} (c : Chg F H H') (dF : ∀ x ∈ as ++ rs, x ∉ F) (h0 : H' nb = some (.lst ((as.map V.ref) ++ [.ref a])))
    (h1 : H' a = some (.lst [.str (S n.kind), tv, .ref r])) (h2 : H' r = some (.lst vs)) (r1 : Rep H' tv n.tag) (r2 : Reps H' vs (rowD ixD n.row)) : BoA H' nb (as ++ [a]) (rs ++ [r]) (nds ++ [n]) := by
  have la := X.la; have lr := X.lr
  have sp : ∀ {x : Addr}, x ∉ FN nb as rs → x ∉ as ∧ x ∉ rs ∧ x ≠ nb := fun h => ⟨fun z => h (by simp [FN, z]), fun z => h (by simp [FN, z]), fun z => h (by simp [FN, z])⟩
  obtain ⟨a1, a2, a3⟩ := sp na
  obtain ⟨r1', r2', r3'⟩ := sp nr
  refine ⟨by simp [X.la], by simp [X.lr], by rw [List.map_append]; exact h0, fun j x y m e1 e2 e3 => ?_, fun j y m e2 e3 => ?_, X.nd.more a1 a2 a3 r1' r2' r3' ne⟩
  · rcases Nat.lt_or_ge j nds.length with l | l
    · rw [List.getElem?_append_left (by omega)] at e1 e2 e3
      obtain ⟨tv1, g, q⟩ := X.hN j x y m e1 e2 e3
      exact ⟨tv1, c.keep _ _ (dF _ (List.mem_append_left _ (List.mem_of_getElem? e1))) g, q.mono c.tups⟩
    · rw [List.getElem?_append_right (by omega)] at e1 e2 e3
      have e5 : j - nds.length = 0 := by
        cases q : j - nds.length with
        | zero => rfl
        | succ x => rw [q] at e3; simp at e3
      rw [show j - as.length = 0 by omega] at e1
      rw [show j - rs.length = 0 by omega] at e2
      rw [e5] at e3
      cases e1; cases e2; cases e3
      exact ⟨tv, h1, r1⟩
  · rcases Nat.lt_or_ge j nds.length with l | l
    · rw [List.getElem?_append_left (by omega)] at e2 e3
      obtain ⟨vs1, g, q⟩ := X.hR j y m e2 e3
      exact ⟨vs1, c.keep _ _ (dF _ (List.mem_append_right _ (List.mem_of_getElem? e2))) g, q.mono c.tups⟩
    · rw [List.getElem?_append_right (by omega)] at e2 e3
      have e5 : j - nds.length = 0 := by
        cases q : j - nds.length with
        | zero => rfl
        | succ x => rw [q] at e3; simp at e3
      rw [show j - rs.length = 0 by omega] at e2
      rw [e5] at e3
      cases e2; cases e3
      exact ⟨vs, h2, r2⟩
theorem BoA.setNode2 (X : BoA H nb as rs nds) {k : Nat} {a r : Addr} {n : Nd} {tv : V} {vs : List V} (hk : k < nds.length) (na : a ∉ FN nb as rs) (nr : r ∉ FN nb as rs) (ne : a ≠ r) (c : Chg [nb] H H') (h0 : H' nb = some (.lst ((as.map V.ref).set k (.ref a))))
    (h1 : H' a = some (.lst [.str (S n.kind), tv, .ref r])) (h2 : H' r = some (.lst vs)) (r1 : Rep H' tv n.tag) (r2 : Reps H' vs (rowD ixD n.row)) : BoA H' nb (as.set k a) (rs.set k r) (nds.set k n) := by
  have la := X.la; have lr := X.lr
  have sp : ∀ {x : Addr}, x ∉ FN nb as rs → x ∉ as ∧ x ∉ rs ∧ x ≠ nb := fun h => ⟨fun z => h (by simp [FN, z]), fun z => h (by simp [FN, z]), fun z => h (by simp [FN, z])⟩
  obtain ⟨a1, a2, a3⟩ := sp na
  obtain ⟨r1', r2', r3'⟩ := sp nr
  refine ⟨by simp [X.la], by simp [X.lr], by rw [List.map_set]; exact h0, fun j x y m e1 e2 e3 => ?_, fun j y m e2 e3 => ?_, X.nd.put a1 a2 a3 r1' r2' r3' ne⟩
  · rw [List.getElem?_set] at e1 e2 e3
    by_cases e : k = j
    · subst e
      rw [if_pos rfl, if_pos (by omega)] at e1 e2 e3
      cases e1; cases e2; cases e3
      exact ⟨tv, h1, r1⟩
    · rw [if_neg e] at e1 e2 e3
      obtain ⟨tv1, g, q⟩ := X.hN j x y m e1 e2 e3
      exact ⟨tv1, c.keep _ _ (by simp; exact (X.nas e1).1) g, q.mono c.tups⟩
  · rw [List.getElem?_set] at e2 e3
    by_cases e : k = j
    · subst e
      rw [if_pos rfl, if_pos (by omega)] at e2 e3
      cases e2; cases e3
      exact ⟨vs, h2, r2⟩
    · rw [if_neg e] at e2 e3
      obtain ⟨vs1, g, q⟩ := X.hR j y m e2 e3
      exact ⟨vs1, c.keep _ _ (by simp; exact (X.nrs e2).1) g, q.mono c.tups⟩
end
theorem FN_more {nb : Addr} {as rs : List Addr} {a r x : Addr} (h : x ∈ FN nb (as ++ [a]) (rs ++ [r])) : x ∈ FN nb as rs ∨ x = a ∨ x = r := by
  unfold FN at h ⊢
  simp only [List.mem_cons, List.mem_append, List.not_mem_nil, or_false] at h ⊢
  rcases h with h | (h | h) | h | h
  · exact .inl (.inl h)
  · exact .inl (.inr (.inl h))
  · exact .inr (.inl h)
  · exact .inl (.inr (.inr h))
  · exact .inr (.inr h)
theorem FN_set {nb : Addr} {as rs : List Addr} {k : Nat} {a r x : Addr} (h : x ∈ FN nb (as.set k a) (rs.set k r)) : x ∈ FN nb as rs ∨ x = a ∨ x = r := by
  unfold FN at h ⊢
  rcases List.mem_cons.mp h with e | h
  · exact .inl (by rw [e]; exact List.mem_cons_self ..)
  rcases List.mem_append.mp h with h | h
  · rcases List.mem_or_eq_of_mem_set h with h | h
    · exact .inl (List.mem_cons_of_mem _ (List.mem_append_left _ h))
    · exact .inr (.inl h)
  · rcases List.mem_or_eq_of_mem_set h with h | h
    · exact .inl (List.mem_cons_of_mem _ (List.mem_append_right _ h))
    · exact .inr (.inr h)
theorem Bag.here {H : Hp} {b : Addr} (x : Bag H b) : H b ≠ none := by obtain ⟨c, n, t, u, v, e⟩ := x; rw [e]; exact fun z => nomatch z
theorem Bag.keep {H H' : Hp} {b : Addr} {E : List Addr} (x : Bag H b) (c : Chg E H H') (n : b ∉ E) : Bag H' b := by obtain ⟨c0, n0, t, u, v, e⟩ := x; exact ⟨c0, n0, t, u, v, c.keep b _ n e⟩
theorem Chg.drop {E E' : List Addr} {H H' : Hp} (c : Chg E H H') (h : ∀ x ∈ E, x ∈ E' ∨ H x = none) : Chg E' H H' :=
  ⟨fun a o n e => c.keep a o (fun z => (h a z).elim n (fun q => by rw [q] at e; cases e)) e, c.tups, c.live⟩
theorem cut_take (xs : List V) (k : Nat) : cutV xs none (some (k : Int)) = xs.take k := by
  unfold cutV
  rw [HT.sIx_none, HT.sIx_nat, List.drop_zero, Nat.sub_zero, List.take_eq_take_iff]
  omega
def shp (ns : List Int) (k : Nat) (n : Nd) : Prop := S n.kind = kindF (boxF ns (1 + k)) ∧ n.row.length = formLen (kindF (boxF ns (1 + k))) (tkB (boxF ns (1 + k)) 14)
structure FS (K : PySem.W.Frag) (C CT : Addr) (H : Hp) (ns : List Int) (B nb : Addr) (i : Nat) (F : List Addr) (m : MM) (as rs : List Addr) (nds ndsB : List Nd) : Prop where
  mem : Mem K C CT H B F m
  lz : LZ m ndsB 0 (fun _ => false)
  bo : BoA H nb as rs nds
  dj : ∀ a ∈ FN nb as rs, a ∉ F
  len : ndsB.length = i
  shp : ∀ k, k < i → shp ns k (gOf ndsB k)
  ag : ∀ a, m.ag a = 0
def nbE (nds : List Nd) (nb : Addr) : List Addr := if nds.isEmpty then [nb] else []
def spFirst (K : PySem.W.Frag) (C CT : Addr) : Sp := fun vs H Q _ => ∃ (sc : Addr) (ns : List Int) (B nb : Addr) (many : Nat) (F : List Addr) (m : MM) (as rs : List Addr) (nds : List Nd), vs = [.ref sc, .ref B, .ref nb, .int many] ∧ (∀ H', Chg (F ++ nbE nds nb) H H' → SqL K H' sc (ns.map V.int)) ∧ many ≤ 8 ∧
  FS K C CT H ns B nb 0 F m as rs nds [] ∧ (nds = [] ∨ (many ≤ nds.length ∧ nds.length ≤ 8)) ∧
  ∀ F' m' as' rs' nds' ndsB H', FS K C CT H' ns B nb many F' m' as' rs' nds' ndsB → Chg (F ++ nbE nds nb) H H' → (∀ x ∈ F', x ∈ F ∨ H x = none) → (nds = [] → nds' = ndsB ∧ ∀ x ∈ FN nb as' rs', x = nb ∨ H x = none) → (nds ≠ [] → as' = as ∧ rs' = rs ∧ nds' = nds) → Q (.bl true) H'
section
variable {P : Program} {w : World} {K : PySem.W.Frag} {mg : Str → Option Value} {base : Heap} {C CT : Addr}
theorem ok__law_first (T : Txt K w mg) (BK : BM P w K mg base C CT) (Ob : OkD P w K mg base CX0 2 "_law_box" p__law_box (spBoxD K)) (Ok : OkD P w K mg base CX0 2 "_law_kind" p__law_kind spKindD) (Of : OkD P w K mg base CX0 7 "_law_form" p__law_form spFormD) (Oer : OkD P w K mg base CX0 1 "_law_errors" p__law_errors spErrors)
    (Os : OkD P w K mg base CX0 3 "_law_sent" p__law_sent spSent) (Oe : OkD P w K mg base CX0 10 "_law_same" p__law_same (spSame K 9)) (Oc : OkD P w K mg base CX0 11 "_law_counts" p__law_counts (spCounts K C CT)) : OkD P w K mg base CX0 12 "_law_first" p__law_first (spFirst K C CT) := by
  refine T.g__law_first.ok sc__law_first (fun vs H Q E h => ?_) (fun f cdv A outer s H vs Q E hr h => ?_)
  · obtain ⟨sc, ns, B, nb, many, F, m, as, rs, nds, rfl, _⟩ := h; rfl
  obtain ⟨sc, ns, B, nb, many, F, m, as, rs, nds, rfl, hS, lmany, X, cnd, q⟩ := h
  refine ⟨_, (pss_cons (ps_set (i := 4) sc__law_first.nd rfl (.inl rfl) (pe_notT (pv 2)))
      (pss_cons (ps_for PassesOwn.never rfl (pi_range1 rfl T.z_range (pa_cons (pv 3) pa_nil)) (pg_name (i := 5) sc__law_first.nd rfl (Or.inl rfl)) (pss_cons (ps_set (i := 6) sc__law_first.nd rfl (.inl rfl) (pcall Ob hr (pa_cons (pv 0) (pa_cons (pe_op op_add pe_int (pv 5)) pa_nil))))
      (pss_cons (ps_set (i := 7) sc__law_first.nd rfl (.inl rfl) (pcall Ok hr (pa_cons (pv 6) pa_nil)))
      (pss_cons (ps_set (i := 8) sc__law_first.nd rfl (.inl rfl) (pcall Of hr (pa_cons (pv 6) (pa_cons (pv 7) (pa_cons (pe_lc (own := [("one", 10)]) (g := gName 10) (tt := tYes) rfl sc__law_first.nd (pi_range1 rfl T.z_range (pa_cons (pv 5) pa_nil)) (blkOk_by (own := [("one", 10)]) (N := n__law_first) (sc := defScope s__law_first) (by decide +kernel)) (fun _ _ _ _ _ => (pg_name (i := 10) sc__law_first.nd rfl (Or.inl rfl))) (fun _ _ _ _ _ => pts_nil) (fun _ _ _ _ _ => (pv 10))) (pa_cons (pcall Oer hr (pa_cons (pe_slice sl_list (pv 2) po_none (po_some (pv 5))) pa_nil)) pa_nil))))))
      (pss_cons (PS.of (t' := fun D σ H' => ∃ (B nb b pf r : Addr) (z : Str) (tv : V) (i many : Nat) (fl : Bool) (sc : Addr) (o9 o10 : Option V) (as rs : List Addr) (nds : List Nd) (vs : List V), σ = [some (.ref sc), some (.ref B), some (.ref nb), some (.int many), some (.bl fl), some (.int i), some (.ref b), some (.str z), some (.ref pf), o9, o10] ∧
          BoA H' nb as rs nds ∧ H' pf = some (.tup [tv, .ref r]) ∧ nds.length ≤ 1000 ∧ ∀ H'', ((fl = false ∧ H'' = H') ∨ (fl = true ∧ ∃ a, H' a = none ∧ Chg [nb] H' H'' ∧ H'' nb = some (.lst ((as.map V.ref) ++ [.ref a])) ∧ H'' a = some (.lst [.str z, tv, .ref r]))) → D.nx σ H'')
        (ps_if (pt_val (pv 4)) (pss_one (ps_expr (pe_bm PySem.F.plainAttrs_list PySem.F.slot_list_append PySem.F.type_list_append mt_append (pv 2) (pa_cons (pe_lst (pa_cons (pv 7) (pa_cons (pe_ix ix_tup (pv 8) pe_int (fun _ _ => rfl)) (pa_cons (pe_ix ix_tup (pv 8) pe_int (fun _ _ => rfl)) pa_nil)))) pa_nil)))) pss_nil) ?if1)
      (pss_cons (ps_setLc (i := 9) (own := [("one", 10)]) (g := gName 10) (tt := tYes) rfl sc__law_first.nd rfl rfl rfl (pi_range1 rfl T.z_range (pa_cons (pv 5) pa_nil)) (blkOk_by (own := [("one", 10)]) (N := n__law_first) (sc := defScope s__law_first) (by decide +kernel)) (fun _ _ _ _ _ => (pg_name (i := 10) sc__law_first.nd rfl (Or.inl rfl))) (fun _ _ _ _ _ => pts_nil) (fun _ _ _ _ _ => (pe_op op_add (pe_op op_mul pe_int (pv 10)) pe_int)))
      (pss_one (ps_if (pt_not (pt_val (pcall Oe hr (pa_cons (pmethE BK.make BK.cl hr pass0 (pv 1) (pa_cons (pv 7) (pa_cons (pe_ix ix_tup (pv 8) pe_int (fun _ _ => rfl)) (pa_cons (pcall Os hr (pa_cons (pe_ix ix_tup (pv 8) pe_int (fun _ _ => rfl)) (pa_cons (pv 9) pa_nil))) pa_nil)))) (pa_cons (pe_tup (pa_cons pe_str (pa_cons (pe_op op_add (pe_op op_mul pe_int (pv 5)) pe_int) pa_nil))) pa_nil))))) (pss_one (ps_ret pe_bl)) pss_nil))))))))
      (pss_one (ps_ret (pcall Oc hr (pa_cons (pv 1) (pa_cons (pv 3) (pa_cons pe_int pa_nil)))))))), ?_⟩
  case if1 =>
    rintro D σ H' ⟨B, nb, b, pf, r, z, tv, i, many, fl, sc, o9, o10, as, rs, nds, vs, rfl, bo, hpf, ln, go⟩
    refine ⟨_, rfl, _, rfl, ?_⟩
    cases fl with
    | false => exact iteF (go _ (.inl ⟨rfl, rfl⟩))
    | true =>
      refine iteT ?_
      have lim := lim4
      refine ⟨_, rfl, .inl ⟨rfl, _, SqL.of bo.h0⟩, _, rfl, _, rfl, pf, _, 0, _, rfl, rfl, SqT.of hpf, rfl, _, rfl, pf, _, 1, _, rfl, rfl, SqT.of hpf, rfl, by show 3 ≤ sizeLine; omega, fun a ha => ?_⟩
      have s1 := same_new ha (.lst [.str z, tv, .ref r])
      have h0 := s1 _ _ bo.h0
      refine ⟨nb, _, _, rfl, rfl, h0, by rw [List.length_map, bo.la]; omega, ?_⟩
      have na : a ≠ nb := fun e => by rw [e, bo.h0] at ha; cases ha
      exact go _ (.inr ⟨rfl, a, ha, (Chg.same s1).trans (.upd h0 (fun _ z => by cases z) (List.mem_singleton_self _)), upd_same, by rw [upd_ne na, upd_same]⟩)
  have lim := lim4
  have two : 2 ≤ sizeLine := by decide
  obtain ⟨fl, efl⟩ : ∃ fl, fl = nds.isEmpty := ⟨_, rfl⟩
  have ee : (as.map V.ref).isEmpty = nds.isEmpty := by
    have := X.bo.la
    cases as with
    | nil => cases nds with
      | nil => rfl
      | cons => simp at this
    | cons => cases nds with
      | nil => simp at this
      | cons => rfl
  refine ⟨_, rfl, _, .inl ⟨_, SqL.of X.bo.h0, rfl⟩, ?_⟩
  rw [Bool.not_not, ee, ← efl]
  refine ⟨_, rfl, (many : Int), rfl, by omega, by omega, ?_⟩
  refine for_range (lo := 0) (n := many) (fun i σ H' => ∃ o5 o6 o7 o8 o9 o10 F' m' as' rs' nds' ndsB, σ = [some (.ref sc), some (.ref B), some (.ref nb), some (.int (many : Nat)), some (.bl fl), o5, o6, o7, o8, o9, o10] ∧ FS K C CT H' ns B nb i F' m' as' rs' nds' ndsB ∧ Chg (F ++ nbE nds nb) H H' ∧ (∀ x ∈ F', x ∈ F ∨ H x = none) ∧
    (fl = true → nds' = ndsB ∧ ∀ x ∈ FN nb as' rs', x = nb ∨ H x = none) ∧ (fl = false → as' = as ∧ rs' = rs ∧ nds' = nds)) ⟨none, none, none, none, none, none, F, m, as, rs, nds, [], rfl, X, .refl, fun x h => .inl h, fun e => ?_, fun e => ⟨rfl, rfl, rfl⟩⟩ ?_ ?_
  · have en : nds = [] := List.isEmpty_iff.mp (by rw [← efl]; exact e)
    have la := X.bo.la
    have lr := X.bo.lr
    rw [en] at la lr
    have ea : as = [] := List.length_eq_zero_iff.mp la
    have er : rs = [] := List.length_eq_zero_iff.mp (by rw [lr]; rfl)
    refine ⟨en, fun x hx => ?_⟩
    rw [ea, er] at hx
    simp only [FN, List.append_nil, List.mem_singleton] at hx
    exact .inl hx
  · rintro i σ H4 hi ⟨o5, o6, o7, o8, o9, o10, F4, m4, as4, rs4, nds4, ndsB, rfl, X4, c4, f4, t4, u4⟩
    refine ⟨_, rfl, _, rfl, _, _, rfl, rfl, sc, ns, 1 + i, (by show [V.ref sc, V.int (1 + (0 + (i : Int)))] = _; rw [show (1 + (0 + (i : Int))) = ((1 + i : Nat) : Int) by omega]), hS _ c4, by omega, fun b H5 s5 fb hb5 => ?_⟩
    refine ⟨_, rfl, b, boxF ns (1 + i), rfl, hb5, fun H6 x6 hb6 inK => ?_⟩
    have zi : (0 + (i : Int)) = (i : Int) := Int.zero_add _
    refine ⟨_, rfl, _, rfl, _, rfl, (i : Int), by show [V.int (0 + (i : Int))] = _; rw [zi], by omega, by omega, fun D1 hD1 => ?_⟩
    refine lc_it walk_range (fun j H' => Same H6 H' ∧ H' D1 = some (.lst (nats (List.range j)))) ⟨same_new hD1 _, upd_same⟩ (fun _ _ _ _ => trivial) ?_ ?_
    · rintro j x H7 H8 hj ⟨s7, h7⟩ ⟨rfl, rfl⟩
      have hj' : j < i := by simpa using hj
      refine ⟨rfl, iteT (B := True) (iteT ?_)⟩
      refine ⟨_, rfl, _, h7, by rw [nats_len, List.length_range]; omega, same_grow s7 hD1, ?_⟩
      rw [upd_same, List.range_succ, nats_app]
      show some (HO.lst (_ ++ [V.int (0 + (j : Int))])) = _
      rw [Int.zero_add]; rfl
    rintro H7 ⟨s7, h7⟩
    have h7 : H7 D1 = some (.lst (nats (List.range i))) := by simpa using h7
    have bx5 : Bag H5 b := ⟨_, _, _, _, _, hb5⟩
    have c6 : Chg [b] H5 H6 := x6.chg
    have nbF : b ∉ F4 := X4.mem.fresh fb
    have nbN : b ∉ FN nb as4 rs4 := fun z => X4.bo.here b z fb
    have bo7 := ((X4.bo.same s5).frame c6 (fun a ha z => nbN (by rw [← List.mem_singleton.mp z]; exact ha))).same s7
    have mem7 := ((X4.mem.same s5).frame c6 (fun a ha z => nbF (by rw [← List.mem_singleton.mp z]; exact ha))).same s7
    have nD : D1 ≠ b := x6.b1.ne hD1
    refine ⟨_, rfl, _, rfl, (i : Int), by show V.int (0 + (i : Int)) = _; rw [zi], nb, _, rfl, SqL.of bo7.h0, fun pz hpz => ?_⟩
    rw [cut_take, ← List.map_take]
    have s8 := same_new hpz (.lst ((as4.take i).map V.ref))
    have hpz8 : upd H7 pz (.lst ((as4.take i).map V.ref)) pz = some (.lst ((as4.take i).map V.ref)) := upd_same
    generalize upd H7 pz (.lst ((as4.take i).map V.ref)) = H8 at s8 hpz8 ⊢
    have bo8 := bo7.same s8
    have l4 : (as4.take i).length ≤ i := List.length_take_le ..
    refine ⟨pz, as4.take i, rfl, hpz8, fun a ha => ?_, by omega, fun er ks H9 s9 fer her kl lk => ?_⟩
    · obtain ⟨j, hj, rfl⟩ := List.getElem_of_mem (List.mem_of_mem_take ha)
      have hj' : j < nds4.length := by rw [← bo8.la]; exact hj
      obtain ⟨a, r, tv, vs, ea, _, g, _⟩ := bo8.look (List.getElem?_eq_getElem hj')
      rw [List.getElem?_eq_getElem hj] at ea
      have ea := Option.some.inj ea
      exact ⟨_, _, by rw [ea]; exact g⟩
    have S69 := s7.trans (s8.trans s9)
    have hb9 := S69 _ _ hb6
    have bo9 := bo8.same s9
    have mem9 := (mem7.same s8).same s9
    have bx9 : Bag H9 b := ⟨_, _, _, _, _, hb9⟩
    have bx8 : Bag H8 b := ⟨_, _, _, _, _, (s7.trans s8) _ _ hb6⟩
    refine ⟨b, D1, er, _, (· ∈ List.range i), tkB (boxF ns (1 + i)) 14, rfl, hb9, ⟨nD, _, (s8.trans s9) _ _ h7, fun k h => h, by rw [List.length_range]; omega⟩, ⟨bx8.ne fer, ks, her, fun k hk => List.mem_range.mpr (by have := kl k hk; omega), by omega⟩, fun pf tv r tag es vs H10 x10 hpf rt hd fr hr2 rv okE lE elen => ?_⟩
    have nbr : b ≠ r := fun z => by rw [z, fr] at hb9; cases hb9
    have bo10 := bo9.frame x10.chg (fun a ha z => nbN (by rw [← List.mem_singleton.mp z]; exact ha))
    have mem10 := mem9.frame x10.chg (fun a ha z => nbF (by rw [← List.mem_singleton.mp z]; exact ha))
    have S59 := S69
    have f9 : ∀ {x : Addr}, H9 x = none → H4 x = none := fun h => s5.free (x6.free (S69.free h))
    have frN : r ∉ FN nb as4 rs4 := fun z => bo9.here r z fr
    have c410 : Chg [b] H5 H10 := (c6.trans (.same S69)).trans x10.chg
    have nbEm : ∀ x ∈ nbE nds nb, x = nb := fun x hx => by
      unfold nbE at hx; split at hx
      · exact List.mem_singleton.mp hx
      · cases hx
    refine ⟨B, nb, b, pf, r, kindF (boxF ns (1 + i)), tv, i, many, fl, sc, o9, o10, as4, rs4, nds4, vs, ?_, bo10, hpf, ?_, fun H11 csd => ?_⟩
    · show [some (V.ref sc), some (.ref B), some (.ref nb), some (.int (many : Nat)), some (.bl fl), some (V.int (0 + (i : Int))), some (.ref b), some (.str _), some (.ref pf), _, _] = _
      rw [zi]
    · cases fl with
      | true =>
        have := X4.len
        rw [(t4 rfl).1]; omega
      | false =>
        rw [(u4 rfl).2.2]
        rcases cnd with h | h
        · rw [h]; simp
        · omega
    obtain ⟨as5, rs5, nds5, bo11, dj11, new11, c11, t11, u11⟩ : ∃ (as5 rs5 : List Addr) (nds5 : List Nd), BoA H11 nb as5 rs5 nds5 ∧ (∀ a ∈ FN nb as5 rs5, a ∉ F4) ∧ (∀ a ∈ FN nb as5 rs5, a ∈ FN nb as4 rs4 ∨ H4 a = none) ∧ Chg (nbE nds nb) H10 H11 ∧ (fl = true → nds5 = ndsB ++ [⟨cs (kindF (boxF ns (1 + i))), tag, es⟩] ∧ ∀ x ∈ FN nb as5 rs5, x = nb ∨ H x = none) ∧ (fl = false → as5 = as ∧ rs5 = rs ∧ nds5 = nds) := by
      rcases csd with ⟨e, rfl⟩ | ⟨e, a, ha, c11, h0, h1⟩
      · exact ⟨as4, rs4, nds4, bo10, X4.dj, (fun a ha => .inl ha), .refl, (fun z => by rw [e] at z; cases z), u4⟩
      · have ie : nbE nds nb = [nb] := by unfold nbE; rw [← efl, e]; rfl
        have na4 : a ∉ FN nb as4 rs4 := fun z => bo10.here a z ha
        have nar : a ≠ r := fun z => by rw [z, hr2] at ha; cases ha
        have nr0 : r ∉ [nb] := fun z => frN (by rw [List.mem_singleton.mp z]; exact List.mem_cons_self ..)
        have BO := bo10.more2 (n := ⟨cs (kindF (boxF ns (1 + i))), tag, es⟩) na4 frN nar c11 (fun x hx z => by
          rw [List.mem_singleton.mp z] at hx
          rcases List.mem_append.mp hx with h | h
          · exact bo10.nd.n1 h
          · exact bo10.nd.n2 h) h0 (by rw [← S_cs]; exact h1) (c11.keep r _ nr0 hr2) (rt.mono c11.tups) (rv.mono c11.tups)
        refine ⟨_, _, _, BO, fun x hx => ?_, fun x hx => ?_, by rw [ie]; exact c11, fun _ => ⟨by rw [(t4 e).1], fun x hx => ?_⟩, fun z => by rw [e] at z; cases z⟩
        · rcases FN_more hx with h | h | h
          · exact X4.dj x h
          · rw [h]; exact mem10.fresh ha
          · rw [h]; exact mem9.fresh fr
        · rcases FN_more hx with h | h | h
          · exact .inl h
          · exact .inr (by rw [h]; exact s5.free (c410.live a ha))
          · exact .inr (by rw [h]; exact f9 fr)
        · rcases FN_more hx with h | h | h
          · exact (t4 e).2 x h
          · exact .inr (by rw [h]; exact c4.live a (s5.free (c410.live a ha)))
          · exact .inr (by rw [h]; exact c4.live r (f9 fr))
    have nbr' : r ∉ nbE nds nb := fun z => frN (by rw [nbEm r z]; exact List.mem_cons_self ..)
    have hr11 := c11.keep r _ nbr' hr2
    have hpf11 := c11.tups pf _ hpf
    have rv11 := rv.mono c11.tups
    have rt11 := rt.mono c11.tups
    have mem11 := mem10.frame c11 (fun a ha z => X4.dj nb (List.mem_cons_self ..) (by rw [← nbEm a z]; exact ha))
    refine ⟨_, rfl, (i : Int), by show [V.int (0 + (i : Int))] = _; rw [zi], by omega, by omega, fun D2 hD2 => ?_⟩
    refine lc_it walk_range (fun j H' => Same H11 H' ∧ H' D2 = some (.lst (tbF (fI 0) j))) ⟨same_new hD2 _, upd_same⟩ (fun _ _ _ _ => trivial) ?_ ?_
    · rintro j x H12 H13 hj ⟨s12, h12⟩ ⟨rfl, rfl⟩
      have hj' : j < i := by simpa using hj
      refine ⟨rfl, iteT (B := True) (iteT ?_)⟩
      refine ⟨_, rfl, _, _, rfl, rfl, .inl ⟨by omega, by omega⟩, _, _, rfl, rfl, _, h12, by rw [tbF_len]; omega, same_grow s12 hD2, ?_⟩
      rw [upd_same]
      unfold tbF
      rw [List.range_succ, List.map_append]
      show some (HO.lst (_ ++ [V.int (2 * (0 + (j : Int)) + 1)])) = some (HO.lst (_ ++ [V.int (((fA 0 j : Nat)) : Int)]))
      unfold fA; rw [if_neg (by omega), show (2 * (0 + (j : Int)) + 1) = ((2 * (j - 0) + 1 : Nat) : Int) by omega]
    rintro H12 ⟨s12, h12⟩
    have h12 : H12 D2 = some (.lst (tbF (fI 0) i)) := by simpa using h12
    have mem12 := mem11.same s12
    have YN := mem12
    obtain ⟨td, md, L, Yb, _⟩ := YN
    obtain ⟨dx, hB⟩ := Yb.bk.hB
    have lnB := X4.len
    have okR : ∀ e ∈ es, e.okP (· ∈ List.range ndsB.length) := by rw [lnB]; exact okE
    have tl := fA_tells 0 (· ∈ List.range ndsB.length)
    have hyn := X4.lz.yn
    have hon := X4.lz.on
    refine ⟨_, rfl, B, dx, _, rfl, hB, rfl, _, rfl, _, rfl, pf, _, 0, _, rfl, rfl, SqT.of (s12 _ _ hpf11), rfl, _, rfl, pf, _, 1, _, rfl, rfl, SqT.of (s12 _ _ hpf11), rfl, _, rfl, r, D2, vs, es, fI 0, i, rfl, s12 _ _ hr11, rv11.mono (.same s12), fun e he => by rw [← lnB]; exact X4.lz.lt okR e he, by omega, h12, fun ps us1 H13 s13 fps hps r13 => ?_⟩
    rw [tl.row okR] at r13
    have ez : S (cs (kindF (boxF ns (1 + i)))) = kindF (boxF ns (1 + i)) := (S_cs _).symm
    refine ⟨B, F4, m4, cs (kindF (boxF ns (1 + i))), tv, ps, us1, tag, mvs (fA 0) es, by rw [ez]; rfl, mem12.same s13, by omega, (rt11.mono (.same s12)).mono (.same s13), hps, r13, fun p F' H14 N hp14 fp np => ?_⟩
    have S1113 := s12.trans s13
    refine ⟨_, rfl, _, _, rfl, rfl, .inl ⟨by omega, by omega⟩, _, _, rfl, rfl, two, fun p7 h7 => ?_⟩
    have s15 := same_new h7 (.tup [.str (Str.ofString "ref"), .int (2 * (0 + (i : Int)) + 1)])
    have hp15 := s15 _ _ hp14
    have h15 : upd H14 p7 (.tup [.str (Str.ofString "ref"), .int (2 * (0 + (i : Int)) + 1)]) p7 = some (.tup [.str (Str.ofString "ref"), .int (2 * (0 + (i : Int)) + 1)]) := upd_same
    generalize upd H14 p7 (.tup [.str (Str.ofString "ref"), .int (2 * (0 + (i : Int)) + 1)]) = H15 at s15 hp15 h15 ⊢
    rw [show (2 * (0 + (i : Int)) + 1) = ((2 * m4.yn + 1 : Nat) : Int) by omega] at h15
    have rr : ∀ {a : Addr}, H15 a = some (.tup [.str (Str.ofString "ref"), .int ((2 * m4.yn + 1 : Nat) : Int)]) → Rep H15 (.ref a) (.tup [.str wRef, .int ((2 * m4.yn + 1 : Nat) : Int)]) := fun hh => by
      rw [eR] at hh
      exact Rep.tupOf (ds := [.str wRef, .int ((2 * m4.yn + 1 : Nat) : Int)]) hh (.cons (.str _) (.cons (.int _) .nil)) (by show 2 ≤ 2000; decide)
    refine ⟨_, _, rfl, ⟨_, rfl, iteF ?_⟩, .inr ⟨_, rr hp15, rr h15, by rw [dep_tup]; simp [D0.deps, D0.dep]⟩⟩
    have bo15 := ((bo11.same S1113).frame N.chg dj11).same s15
    have cB : Chg (b :: (nbE nds nb ++ F4)) H4 H15 := ((((Chg.same s5).trans (c410.mono fun x hx => by rw [List.mem_singleton.mp hx]; exact List.mem_cons_self ..)).trans (c11.mono fun x hx => List.mem_cons_of_mem _ (List.mem_append_left _ hx))).trans (.same S1113)).trans ((N.chg.trans (.same s15)).mono fun x hx => List.mem_cons_of_mem _ (List.mem_append_right _ hx))
    have cC : Chg (nbE nds nb ++ F4) H4 H15 := cB.drop fun x hx => by
      rcases List.mem_cons.mp hx with h | h
      · exact .inr (by rw [h]; exact fb)
      · exact .inl h
    have c14 : Chg (F ++ nbE nds nb) H H15 := Chg.drop (E := F ++ nbE nds nb ++ F4) ((c4.mono fun x hx => List.mem_append_left _ hx).trans (cC.mono fun x hx => by
      rcases List.mem_append.mp hx with h | h
      · exact List.mem_append_left _ (List.mem_append_right _ h)
      · exact List.mem_append_right _ h)) fun x hx => by
      rcases List.mem_append.mp hx with h | h
      · exact .inl h
      · exact (f4 x h).imp_left fun h => List.mem_append_left _ h
    have l13 : ∀ {x : Addr}, H13 x = none → H x = none := fun h => c4.live _ (s5.free (c410.live _ (c11.live _ (S1113.free h))))
    refine ⟨_, _, _, _, _, _, F', _, as5, rs5, nds5, ndsB ++ [⟨cs (kindF (boxF ns (1 + i))), tag, es⟩], rfl, ⟨N.mem.same s15, X4.lz.make hd lE okR (by omega), bo15, fun x hx z => ?_, by rw [List.length_append, lnB]; rfl, fun k hk => ?_, fun a => ?_⟩, c14, fun x hx => ?_, fun e => ⟨(t11 e).1, (t11 e).2⟩, u11⟩
    · exact (N.new x z).elim (dj11 x hx) (fun h => bo11.here x hx (S1113.free h))
    · rcases Nat.lt_or_ge k i with l | l
      · rw [gOf_app (by omega)]; exact X4.shp k l
      · have : k = ndsB.length := by omega
        rw [this, gOf_new]
        rw [lnB]
        exact ⟨ez, elen⟩
    · show (if a = 2 * m4.yn + 1 then (0 : Int) else m4.ag a) = 0
      rw [X4.ag a, ite_self]
    · rcases N.new x hx with h | h
      · exact f4 x h
      · exact .inr (l13 h)
  rintro σ H4 ⟨o5, o6, o7, o8, o9, o10, F4, m4, as4, rs4, nds4, ndsB, rfl, X4, c4, f4, t4, u4⟩
  have hyn := X4.lz.yn
  have lnB := X4.len
  refine ⟨_, rfl, _, rfl, B, many, 0, F4, m4, rfl, X4.mem, by omega, X4.lz.on, by omega, ?_⟩
  exact q F4 m4 as4 rs4 nds4 ndsB H4 X4 c4 f4 (fun e => t4 (by rw [efl, e]; rfl)) (fun e => u4 (by rw [efl]; cases nds with | nil => exact absurd rfl e | cons => rfl))
end
end D0
namespace D0
open PySem PySem.Spec PyProof.Rows L2 SX NumText
theorem meet_sub : ∀ {xs o : List Nat}, (∀ x ∈ xs, x ∈ o) → meet xs o = o
  | [], _, _ => rfl
  | x :: xs, o, h => by
    show meet xs (put1 o x) = o
    have e : put1 o x = o := by unfold put1; rw [if_pos (h x (List.mem_cons_self ..))]
    rw [e]; exact meet_sub fun y hy => h y (List.mem_cons_of_mem _ hy)
theorem meet_new : ∀ {xs o : List Nat}, xs.Nodup → (∀ x ∈ xs, x ∉ o) → meet xs o = o ++ xs
  | [], _, _, _ => (List.append_nil _).symm
  | x :: xs, o, n, h => by
    show meet xs (put1 o x) = _
    have e : put1 o x = o ++ [x] := by unfold put1; rw [if_neg (h x (List.mem_cons_self ..))]
    obtain ⟨n1, n2⟩ := List.nodup_cons.mp n
    rw [e, meet_new n2 fun y hy z => ?_, List.append_assoc]; rfl
    rcases List.mem_append.mp z with z | z
    · exact h y (List.mem_cons_of_mem _ hy) z
    · rw [List.mem_singleton.mp z] at hy; exact n1 hy
theorem Bf.closed {sc : Nat → List Nat} {o R : List Nat} {k : Nat} (b : Bf sc o k R) (h : ∀ x ∈ o, ∀ y ∈ sc x, y ∈ o) : R = o := by
  induction b with
  | stop _ => rfl
  | step l _ ih =>
    have e := meet_sub (h _ (List.getElem_mem l))
    rw [e] at ih
    exact ih h
theorem LawM.movedS {m m' : MM} {nds : List Nd} {f g : Nat → Nat} {U S : Nat → Prop} {es : List Ent} (X : LawM m nds f U) (M : Moved m m' g S es) : LawM m' nds (fun k => g (f k)) (fun k => U k ∧ S (f k)) := by
  refine ⟨M.ok, ⟨fun k hk => M.to _ hk.2, fun k hk => ?_, fun i j hi hj e => X.on.inj i j hi.1 hj.1 (M.inj _ _ hi.2 hj.2 e), fun k hk e hm => ?_, fun k hk => X.on.lt k hk.1, X.on.le⟩, X.row⟩
  · rw [M.at_ _ hk.2, X.on.at_ k hk.1, Nd.mv_mv]
  · refine (X.on.clo k hk.1 e hm).and fun j hj => ?_
    have := M.clo (f k) hk.2 (e.mv f) (by rw [X.on.at_ k hk.1]; exact List.mem_map_of_mem hm)
    exact ⟨(X.on.clo k hk.1 e hm).tg hj, this.tg (by rw [Ent.mv_tg, hj]; rfl)⟩
def R0 (n : Nat) : List Nat := (List.range n).map fun k => 2 * k + 1
def odds (n : Nat) : List Ent := (List.range n).map fun k => Ent.pl (En.ref (2 * k + 1))
def evens (n : Nat) : List Ent := (List.range n).map fun k => Ent.pl (En.ref (2 * k))
theorem odds_tgs (n : Nat) : tgs (odds n) = R0 n := by
  unfold odds R0 tgs
  rw [List.filterMap_map]
  show (List.range n).filterMap (fun k => some (2 * k + 1)) = _
  exact congrFun (List.filterMap_eq_map (f := fun k => 2 * k + 1)) _
theorem R0_mem {n a : Nat} : a ∈ R0 n ↔ a % 2 = 1 ∧ a < 2 * n := by
  unfold R0
  rw [List.mem_map]
  constructor
  · rintro ⟨k, hk, rfl⟩; have := List.mem_range.mp hk; omega
  · intro h; exact ⟨a / 2, List.mem_range.mpr (by omega), by omega⟩
theorem R0_nodup (n : Nat) : (R0 n).Nodup := List.pairwise_map.mpr (List.Pairwise.imp (fun {a b} h z => h (by omega)) List.nodup_range)
theorem R0_len (n : Nat) : (R0 n).length = n := by unfold R0; rw [List.length_map, List.length_range]
theorem R0_at {n i : Nat} (h : i < (R0 n).length) : (R0 n)[i] = 2 * i + 1 := by simp [R0]
theorem fA0 (k : Nat) : fA 0 k = 2 * k + 1 := by unfold fA; rw [if_neg (by omega)]; omega
section
variable {m m' : MM} {nds : List Nd} {g : Nat → Nat} {M : Nat → Bool}
theorem LZ.dom0 (X : LZ m nds 0 M) {a : Nat} : m.dom a ↔ a ∈ R0 nds.length := by
  have := X.yn; have := X.on
  rw [R0_mem]; unfold MM.dom; omega
theorem LZ.ms0 (X : LZ m nds 0 M) : m.ms = [] := by
  cases e : m.ms with
  | nil => rfl
  | cons a r =>
    have := X.law.ok.mkd a (by rw [e]; exact List.mem_cons_self ..)
    have := X.on; omega
theorem LZ.odds_ok (X : LZ m nds 0 M) : ∀ e ∈ odds nds.length, e.okP m.dom := fun e he => by
  obtain ⟨k, hk, rfl⟩ := List.mem_map.mp he
  exact X.dom0.mpr (R0_mem.mpr (by have := List.mem_range.mp hk; omega))
theorem LZ.reach0 (X : LZ m nds 0 M) {R : List Nat} (r : Reach m.G (odds nds.length) R) : R = R0 nds.length := by
  unfold Reach at r
  rw [odds_tgs, meet_new (R0_nodup _) (fun x _ h => by cases h), List.nil_append] at r
  refine r.closed fun x hx y hy => ?_
  obtain ⟨e, he, q⟩ := of_tgs hy
  exact X.dom0.mp ((X.law.ok.clo x (X.dom0.mpr hx) e he).tg q)
theorem yt_odds (n : Nat) : yt (odds n) = R0 n := by
  unfold yt; rw [odds_tgs]
  exact List.filter_eq_self.mpr fun a ha => by have := (R0_mem.mp ha).1; simp [this]
theorem LZ.reachY0 (X : LZ m nds 0 M) {R : List Nat} (r : ReachY m [] (odds nds.length) R) : R = R0 nds.length := by
  unfold ReachY ryTop at r
  rw [List.foldl_nil, yt_odds, meet_new (R0_nodup _) (fun x _ h => by cases h), List.nil_append] at r
  refine r.closed fun x hx y hy => ?_
  obtain ⟨e, he, q⟩ := of_tgs (mem_yt.mp hy).1
  exact X.dom0.mp ((X.law.ok.clo x (X.dom0.mpr hx) e he).tg q)
theorem LZ.full0 (X : LZ m nds 0 M) (h : HowFull m (odds nds.length) m' g) : LZ m' nds nds.length (fun _ => false) ∧ m'.ms = [] ∧ ∀ k, k < nds.length → g (2 * k + 1) = 2 * k := by
  obtain ⟨R, r, rfl, rfl⟩ := h
  obtain rfl := X.reach0 r
  have MV := full_moved X.law.ok r X.odds_ok
  have L := X.law.movedS MV
  have g0 : ∀ k, k < nds.length → gF (R0 nds.length) (2 * k + 1) = 2 * k := fun k hk => by
    have h : k < (R0 nds.length).length := by rw [R0_len]; exact hk
    have := gF_at (R0_nodup nds.length) h
    rw [R0_at] at this; exact this
  refine ⟨⟨L.cong (fun k => ?_) (fun k hk => ?_), ?_, ?_, fun k _ => by show false = true ↔ 2 * k ∈ ([] : List Nat); simp⟩, rfl, g0⟩
  · rw [fA0, R0_mem]; constructor
    · intro h; exact ⟨h, by have := List.mem_range.mp h; omega⟩
    · exact fun h => h.1
  · have := List.mem_range.mp hk.1
    rw [fA0, g0 k this]; unfold fA; rw [if_pos this]
  · show 0 + nds.length = _; omega
  · show (R0 nds.length).length = _; exact R0_len _
theorem cYO0 {ag : Nat → Int} : ∀ {R : List Nat} {y o : Nat}, (∀ a ∈ R, ag a = 0) → cY ag R y = y + R.length ∧ cO ag R o = o
  | [], _, _, _ => ⟨rfl, rfl⟩
  | a :: r, y, o, h => by
    obtain ⟨i1, i2⟩ := cYO0 (R := r) (y := newY (ag a) y) (o := newO (ag a) o) fun x hx => h x (List.mem_cons_of_mem _ hx)
    show cY ag r _ = _ ∧ cO ag r _ = _
    rw [i1, i2, h a (List.mem_cons_self ..)]
    unfold newY newO
    rw [if_pos rfl, if_pos rfl, List.length_cons]; omega
theorem cYO1 {ag : Nat → Int} : ∀ {R : List Nat} {y o : Nat}, (∀ a ∈ R, ag a = 1) → cY ag R y = y ∧ cO ag R o = o + R.length
  | [], _, _, _ => ⟨rfl, rfl⟩
  | a :: r, y, o, h => by
    obtain ⟨i1, i2⟩ := cYO1 (R := r) (y := newY (ag a) y) (o := newO (ag a) o) fun x hx => h x (List.mem_cons_of_mem _ hx)
    show cY ag r _ = _ ∧ cO ag r _ = _
    rw [i1, i2, h a (List.mem_cons_self ..)]
    unfold newY newO
    rw [if_neg (by decide), if_neg (by decide), List.length_cons]; omega
theorem LZ.young0 (X : LZ m nds 0 M) (ag : ∀ k, k < nds.length → m.ag (2 * k + 1) = 0) (h : HowYoung m (odds nds.length) m' g) : LZ m' nds 0 (fun _ => false) ∧ (∀ k, k < nds.length → m'.ag (2 * k + 1) = 1) ∧ ∀ k, k < nds.length → g (2 * k + 1) = 2 * k + 1 := by
  obtain ⟨rl, rs, R, pl, ps, pr, prs, ry, rfl, rfl⟩ := h
  have MV := young_moved X.law.ok pl pr ry X.odds_ok
  have e0 := X.ms0
  rw [e0] at pl pr
  obtain rfl := pl.eq_nil
  obtain rfl := pr.eq_nil
  obtain rfl := X.reachY0 ry
  have L := X.law.movedS MV
  have on0 := X.on
  have agR : ∀ l : List Nat, (∀ a ∈ l, a ∈ R0 nds.length) → ∀ a ∈ l, m.ag a = 0 := fun l hl a ha => by
    obtain ⟨k, hk, rfl⟩ := List.mem_map.mp (hl a ha)
    exact ag k (List.mem_range.mp hk)
  obtain ⟨cy, co⟩ := cYO0 (ag := m.ag) (R := R0 nds.length) (y := 0) (o := m.on) (agR _ fun a h => h)
  have g0 : ∀ k, k < nds.length → gY m (R0 nds.length) (2 * k + 1) = 2 * k + 1 := fun k hk => by
    have h : k < (R0 nds.length).length := by rw [R0_len]; exact hk
    have := gY_at (m := m) (R0_nodup nds.length) h
    rw [nw_at h, agR _ (fun a h => h) _ (List.getElem_mem h), R0_at] at this
    rw [this]
    obtain ⟨c1, c2⟩ := cYO0 (ag := m.ag) (R := (R0 nds.length).take k) (y := 0) (o := m.on) (agR _ fun a h => List.mem_of_mem_take h)
    unfold newA
    rw [if_pos rfl, c1, List.length_take, R0_len]; omega
  refine ⟨⟨L.cong (fun k => ?_) (fun k hk => ?_), ?_, ?_, fun k h => absurd h (Nat.not_lt_zero _)⟩, fun k hk => ?_, g0⟩
  · rw [fA0]; constructor
    · intro h; exact ⟨h, .inr (R0_mem.mpr (by have := List.mem_range.mp h; omega))⟩
    · exact fun h => h.1
  · have := List.mem_range.mp hk.1
    rw [fA0, g0 k this]
  · show cY m.ag (R0 nds.length) 0 + 0 = _; rw [cy, R0_len]; omega
  · show cO m.ag (R0 nds.length) m.on = 0; rw [co, on0]
  · show (if 2 * k + 1 ∈ m.nw (R0 nds.length) then (1 : Int) else _) = 1
    rw [if_pos]
    have h1 : (2 * k + 1) ∈ R0 nds.length := R0_mem.mpr (by omega)
    have := (gY_mem (m := m) (R0_nodup nds.length) h1).1
    rw [g0 k hk] at this; exact this
theorem LZ.young1 (X : LZ m nds 0 M) (ag : ∀ k, k < nds.length → m.ag (2 * k + 1) = 1) (h : HowYoung m (odds nds.length) m' g) : LZ m' nds nds.length (fun _ => false) ∧ m'.ms = [] ∧ ∀ k, k < nds.length → g (2 * k + 1) = 2 * k := by
  obtain ⟨rl, rs, R, pl, ps, pr, prs, ry, rfl, rfl⟩ := h
  have MV := young_moved X.law.ok pl pr ry X.odds_ok
  have e0 := X.ms0
  rw [e0] at pl pr
  obtain rfl := pl.eq_nil
  obtain rfl := pr.eq_nil
  obtain rfl := X.reachY0 ry
  have L := X.law.movedS MV
  have on0 := X.on
  have agR : ∀ l : List Nat, (∀ a ∈ l, a ∈ R0 nds.length) → ∀ a ∈ l, m.ag a = 1 := fun l hl a ha => by
    obtain ⟨k, hk, rfl⟩ := List.mem_map.mp (hl a ha)
    exact ag k (List.mem_range.mp hk)
  obtain ⟨cy, co⟩ := cYO1 (ag := m.ag) (R := R0 nds.length) (y := 0) (o := m.on) (agR _ fun a h => h)
  have g0 : ∀ k, k < nds.length → gY m (R0 nds.length) (2 * k + 1) = 2 * k := fun k hk => by
    have h : k < (R0 nds.length).length := by rw [R0_len]; exact hk
    have := gY_at (m := m) (R0_nodup nds.length) h
    rw [nw_at h, agR _ (fun a h => h) _ (List.getElem_mem h), R0_at] at this
    rw [this]
    obtain ⟨c1, c2⟩ := cYO1 (ag := m.ag) (R := (R0 nds.length).take k) (y := 0) (o := m.on) (agR _ fun a h => List.mem_of_mem_take h)
    unfold newA
    rw [if_neg (by decide), c2, List.length_take, R0_len]; omega
  have yn0 : (m.young (R0 nds.length) []).yn = 0 := cy
  have ms0 : (m.young (R0 nds.length) []).ms = [] := by
    have none : ∀ x, x ∉ (m.young (R0 nds.length) []).ms := fun x hx => by
      have hx' : x ∈ m.ygM (R0 nds.length) ([] ++ m.nw (R0 nds.length)) := hx
      obtain ⟨_, _, y⟩ := ygM_mem.mp hx'
      have dx : (m.young (R0 nds.length) []).dom x := MV.ok.mkdom hx
      obtain ⟨a, ha, o⟩ := anyY_true.mp y
      obtain ⟨e, he, q⟩ := of_tgs ha
      have := (MV.ok.clo x dx e he).tg q
      unfold MM.dom at this
      omega
    cases e : (m.young (R0 nds.length) []).ms with
    | nil => rfl
    | cons a r => exact absurd (by rw [e]; exact List.mem_cons_self ..) (none a)
  refine ⟨⟨L.cong (fun k => ?_) (fun k hk => ?_), ?_, ?_, fun k h => by rw [ms0]; simp⟩, ms0, g0⟩
  · rw [fA0]; constructor
    · intro h; exact ⟨h, .inr (R0_mem.mpr (by have := List.mem_range.mp h; omega))⟩
    · exact fun h => h.1
  · have := List.mem_range.mp hk.1
    rw [fA0, g0 k this]; unfold fA; rw [if_pos this]
  · show cY m.ag (R0 nds.length) 0 + nds.length = _; rw [cy]; omega
  · show cO m.ag (R0 nds.length) m.on = _; rw [co, on0, R0_len]; omega
end
end D0
namespace D0
open PySem PySem.Spec PyProof.Rows L2 SX NumText
theorem rep_rf {H : Hp} {a : Addr} {k : Nat} (h : H a = some (.tup [.str (Str.ofString "ref"), .int (k : Nat)])) : Rep H (.ref a) ((Ent.pl (En.ref k)).d ixD) := by
  rw [eR] at h
  exact Rep.tupOf (ds := [.str wRef, .int (k : Nat)]) h (.cons (.str _) (.cons (.int _) .nil)) (by show 2 ≤ 2000; decide)
theorem deps_refs (f : Nat → Nat) : ∀ l : List Nat, deps (rowD ixD (l.map fun k => Ent.pl (En.ref (f k)))) ≤ 1
  | [] => by simp [rowD, deps]
  | k :: r => by
    have := deps_refs f r
    have e : rowD ixD ((k :: r).map fun k => Ent.pl (En.ref (f k))) = .tup [.str wRef, .int (f k : Nat)] :: rowD ixD (r.map fun k => Ent.pl (En.ref (f k))) := rfl
    rw [e]
    have d1 : dep (.tup [.str wRef, .int (f k : Nat)]) = 1 := by rw [dep_tup]; simp [D0.deps, D0.dep]
    unfold deps; rw [d1]; omega
theorem mvs_odds {g : Nat → Nat} {n : Nat} {f : Nat → Nat} (h : ∀ k, k < n → g (2 * k + 1) = f k) : mvs g (odds n) = (List.range n).map fun k => Ent.pl (En.ref (f k)) := by
  unfold mvs odds
  rw [List.map_map]
  refine List.map_congr_left fun k hk => ?_
  show Ent.pl (En.ref (g (2 * k + 1))) = _
  rw [h k (List.mem_range.mp hk)]
def spAged (K : PySem.W.Frag) (C CT : Addr) : Sp := fun vs H Q _ => ∃ (B : Addr) (many way : Nat) (F : List Addr) (m : MM) (nds : List Nd), vs = [.ref B, .int many, .int way] ∧ Mem K C CT H B F m ∧ LZ m nds 0 (fun _ => false) ∧ nds.length = many ∧ many ≤ 8 ∧ way < 3 ∧ (∀ a, m.ag a = 0) ∧
  ∀ F' m' H', Chg F H H' → (∀ x ∈ F', x ∈ F ∨ H x = none) → Mem K C CT H' B F' m' → LZ m' nds many (fun _ => false) → m'.ms = [] → Q (.bl true) H'
section
variable {P : Program} {w : World} {K : PySem.W.Frag} {mg : Str → Option Value} {base : Heap} {C CT : Addr}
theorem ok__law_aged (T : Txt K w mg) (BK : BM P w K mg base C CT) (Oe : OkD P w K mg base CX0 10 "_law_same" p__law_same (spSame K 9)) (Oc : OkD P w K mg base CX0 11 "_law_counts" p__law_counts (spCounts K C CT)) : OkD P w K mg base CX0 12 "_law_aged" p__law_aged (spAged K C CT) := by
  obtain ⟨fc, fdc, hmc, Fc, hb3, ⟨tf, rf, hb2⟩, hbk⟩ := BK.collect
  refine T.g__law_aged.ok sc__law_aged (fun vs H Q E h => ?_) (fun f cdv A outer s H vs Q E hr h => ?_)
  · obtain ⟨B, many, way, F, m, nds, rfl, _⟩ := h; rfl
  obtain ⟨B, many, way, F, m, nds, rfl, X, LZ0, ln, l8, lw, ag0, q⟩ := h
  refine ⟨_, (pss_cons (ps_setLc (i := 3) (own := [("k", 5)]) (g := gName 5) (tt := tYes) rfl sc__law_aged.nd rfl rfl rfl (pi_range1 rfl T.z_range (pa_cons (pv 1) pa_nil)) (blkOk_by (own := [("k", 5)]) (N := n__law_aged) (sc := defScope s__law_aged) (by decide +kernel)) (fun _ _ _ _ _ => (pg_name (i := 5) sc__law_aged.nd rfl (Or.inl rfl))) (fun _ _ _ _ _ => pts_nil) (fun _ _ _ _ _ => (pe_tup (pa_cons pe_str (pa_cons (pe_op op_add (pe_op op_mul pe_int (pv 5)) pe_int) pa_nil)))))
      (pss_cons (ps_setLc (i := 4) (own := [("k", 5)]) (g := gName 5) (tt := tYes) rfl sc__law_aged.nd rfl rfl rfl (pi_range1 rfl T.z_range (pa_cons (pv 1) pa_nil)) (blkOk_by (own := [("k", 5)]) (N := n__law_aged) (sc := defScope s__law_aged) (by decide +kernel)) (fun _ _ _ _ _ => (pg_name (i := 5) sc__law_aged.nd rfl (Or.inl rfl))) (fun _ _ _ _ _ => pts_nil) (fun _ _ _ _ _ => (pe_tup (pa_cons pe_str (pa_cons (pe_op op_mul pe_int (pv 5)) pa_nil)))))
      (pss_cons (PS.of (t' := fun D σ H' => ∃ (B od : Addr) (many way : Nat) (F : List Addr) (m : MM) (nds : List Nd) (us : List V), σ[0]? = some (some (.ref B)) ∧ σ[1]? = some (some (.int many)) ∧ σ[2]? = some (some (.int way)) ∧ σ[3]? = some (some (.ref od)) ∧ Mem K C CT H' B F m ∧ LZ m nds 0 (fun _ => false) ∧ nds.length = many ∧ many ≤ 8 ∧ (∀ a, m.ag a = 0) ∧ H' od = some (.lst us) ∧ Reps H' us (rowD ixD (odds many)) ∧ od ∉ F ∧
        ∀ F' m' H'', Chg F H' H'' → (∀ x ∈ F', x ∈ F ∨ H' x = none) → Mem K C CT H'' B F' m' → LZ m' nds 0 (fun _ => false) → (way = 0 → ∀ k, k < many → m'.ag (2 * k + 1) = 0) → (0 < way → ∀ k, k < many → m'.ag (2 * k + 1) = 1) → D.nx σ H'')
      (ps_if (pt_cmpR op_gt (pv 2) pe_int (nomark _)) (pss_cons (ps_if (PW.pt (pw_or (pt_not (pt_val (pcall Oe hr (pa_cons (pe_meth (pv 0) BK.cl hmc Fc (hr.mono (by decide)) hb2 (.cons rf .nil) pass0 (pa_cons (pe_callTy call_list_of (by rfl) T.z_list PyProof.Rows.boot_list (pa_cons (pv 3) pa_nil)) pa_nil)) (pa_cons (pv 3) pa_nil))))) (pw_or1 (pt_not (pt_val (pcall Oc hr (pa_cons (pv 0) (pa_cons (pv 1) (pa_cons pe_int pa_nil))))))))) (pss_one (ps_ret pe_bl)) pss_nil)
      (pss_one (ps_if (PW.pt (pw_or (pt_not (pt_val (pcall Oe hr (pa_cons (pprop BK.remembered BK.cl hr (pv 0)) (pa_cons (pe_lst pa_nil) pa_nil))))) (pw_or1 (pt_not (pt_val (pcall Oe hr (pa_cons (pmethE BK.faults BK.cl hr pass0 (pv 0) (pa_cons (pe_callTy call_list_of (by rfl) T.z_list PyProof.Rows.boot_list (pa_cons (pv 3) pa_nil)) pa_nil)) (pa_cons (pe_lst pa_nil) pa_nil)))))))) (pss_one (ps_ret pe_bl)) pss_nil))) pss_nil) ?if1)
      (pss_cons (ps_if (pt_not (pt_val (pcall Oe hr (pa_cons (pe_meth (pv 0) BK.cl hmc Fc (hr.mono (by decide)) hb3 .nil pass0 (pa_cons (pe_callTy call_list_of (by rfl) T.z_list PyProof.Rows.boot_list (pa_cons (pv 3) pa_nil)) (pa_cons (pe_cmpR op_ne (pv 2) pe_int (nomark _)) pa_nil))) (pa_cons (pv 4) pa_nil))))) (pss_one (ps_ret pe_bl)) pss_nil)
      (pss_one (ps_ret (pe_and (pcall Oc hr (pa_cons (pv 0) (pa_cons pe_int (pa_cons (pv 1) pa_nil)))) (pe_one (pcall Oe hr (pa_cons (pprop BK.remembered BK.cl hr (pv 0)) (pa_cons (pe_lst pa_nil) pa_nil))))))))))), ?_⟩
  case if1 =>
    rintro D σ H' ⟨B, od, many, way, F, m, nds, us, e0, e1, e2, e3, X, L0, ln, l8, ag0, hod, rod, nod, go⟩
    refine ⟨_, e2, _, _, rfl, rfl, _, rfl, ite2 (fun c => ?_) (fun c => go F m H' .refl (fun x h => .inl h) X L0 (fun _ k _ => ag0 _) (fun w0 => absurd (decide_eq_true (by show (way : Int) > 0; omega)) c))⟩
    have c : (way : Int) > 0 := of_decide_eq_true c
    have XN := X
    obtain ⟨td, md, L, Y, _⟩ := XN
    obtain ⟨dx, hB⟩ := Y.bk.hB
    have lus : us.length = many := by rw [rod.len, rowD_len]; simp [odds]
    refine ⟨_, e0, B, dx, _, rfl, hB, rfl, _, e3, od, us, rfl, .inl (SqL.of hod), fun p1 hp1 => ?_⟩
    have s1 := same_new hp1 (.lst us)
    have h1 : upd H' p1 (.lst us) p1 = some (.lst us) := upd_same
    generalize upd H' p1 (.lst us) = H1 at s1 h1 ⊢
    have X1 := X.same s1
    refine ⟨B, F, m, p1, us, odds many, false, rfl, X1, L0.law.ok, h1, rod.mono (.same s1), by rw [← ln]; exact L0.odds_ok, by simp [odds]; omega, X.fresh hp1, fun p us2 m' g S F' H2 MV _ hy N hp r2 fp np => ?_⟩
    rw [← ln] at hy
    obtain ⟨L1, ag1, g1⟩ := L0.young0 (fun k _ => ag0 _) (hy rfl)
    have em : mvs g (odds many) = odds many := by rw [mvs_odds (f := fun k => 2 * k + 1) (fun k hk => g1 k (by omega))]; rfl
    rw [em] at r2
    have hod2 := N.chg.keep od _ nod (s1 _ _ hod)
    have rod2 := (rod.mono (.same s1)).mono N.chg.tups
    have dp : deps (rowD ixD (odds many)) ≤ 7 := Nat.le_trans (deps_refs _ _) (by decide)
    refine ⟨_, e3, _, _, rfl, ⟨_, rfl, iteF ?_⟩, .inl (same_lst hp hod2 r2 rod2 (by rw [r2.len, rowD_len]; simp [odds]; omega) dp)⟩
    have yn1 := L1.yn
    refine ⟨_, e0, _, e1, B, many, 0, F', m', rfl, N.mem, by omega, L1.on, by omega, ⟨_, rfl, iteF ?_⟩⟩
    have XN := N.mem
    obtain ⟨td2, md2, L2', Y2, _⟩ := XN
    obtain ⟨dx2, hB2⟩ := Y2.bk.hB
    refine ⟨_, e0, B, dx2, _, rfl, hB2, B, dx2, td2, md2, _, _, m'.ms, rfl, hB2, Y2.hM, fun rl pr H3 pm so s3 fpr hpr => ?_⟩
    rw [L1.ms0] at pm
    obtain rfl := pm.eq_nil
    refine ⟨Nat.zero_le _, fun p3 hp3 => ?_⟩
    have s4 := same_new hp3 (.lst [])
    have h4 : upd H3 p3 (.lst []) p3 = some (.lst []) := upd_same
    generalize upd H3 p3 (.lst []) = H4 at s4 h4 ⊢
    have S4 := s3.trans s4
    refine ⟨_, _, rfl, ⟨_, rfl, iteF ?_⟩, .inl (same_lst (ds := []) (s4 _ _ hpr) h4 .nil .nil (by decide) (by decide))⟩
    have hod4 := S4 _ _ hod2
    refine ⟨_, e0, B, dx2, _, rfl, S4 _ _ hB2, rfl, _, e3, od, us, rfl, .inl (SqL.of hod4), fun p5 hp5 => ?_⟩
    have s5 := same_new hp5 (.lst us)
    have h5 : upd H4 p5 (.lst us) p5 = some (.lst us) := upd_same
    generalize upd H4 p5 (.lst us) = H5 at s5 h5 ⊢
    have S5 := S4.trans s5
    have X5 := N.mem.same S5
    have okd := L1.law.ok
    have odk : ∀ e ∈ odds many, e.okP m'.dom := by rw [← ln]; exact L1.odds_ok
    refine ⟨B, F', m', p5, us, odds many, m'.top, rfl, X5, fun x dx e he => (okd.clo x dx e he).ok fun k dk => MM.dom_lt dk, fun x dx => (okd.nd x dx).2, okd.mky, okd.le, h5, rod2.mono (.same S5), fun e he => (odk e he).ok fun k dk => MM.dom_lt dk, by simp [odds]; omega, fun p6 us6 ds6 H6 s6 fp6 hp6 r6 _ mem6 => ?_⟩
    have d0 : ds6 = [] := by
      cases ds6 with
      | nil => rfl
      | cons d r =>
        exfalso
        obtain ⟨n, h⟩ := (mem6 d).mp (List.mem_cons_self ..)
        rcases h with h | ⟨x, dx, h⟩
        · obtain ⟨e, he, q⟩ := of_tgs h
          exact n ((odk e he).tg q)
        · obtain ⟨e, he, q⟩ := of_tgs h
          exact n ((okd.clo x dx e he).tg q)
    rw [d0] at r6
    have u0 : us6 = [] := by
      have := r6.len
      cases us6 with
      | nil => rfl
      | cons => simp at this
    rw [u0] at hp6
    refine ⟨Nat.zero_le _, fun p7 hp7 => ?_⟩
    have s7 := same_new hp7 (.lst [])
    refine ⟨_, _, rfl, ⟨_, rfl, iteF ?_⟩, .inl (same_lst (ds := []) (s7 _ _ hp6) upd_same .nil .nil (by decide) (by decide))⟩
    have S7 := S5.trans (s6.trans s7)
    refine go F' m' _ (((Chg.same s1).trans N.chg).trans (.same S7)) (fun x hx => (N.new x hx).imp_right s1.free) (N.mem.same S7) L1 (fun w0 => by omega) (fun _ k hk => ag1 k (by omega))
  have lim := lim4
  have two : 2 ≤ sizeLine := by decide
  have snoc : ∀ (f : Nat → Nat) (i : Nat), (List.range (i + 1)).map (fun k => Ent.pl (En.ref (f k))) = (List.range i).map (fun k => Ent.pl (En.ref (f k))) ++ [Ent.pl (En.ref (f i))] := fun f i => by rw [List.range_succ, List.map_append]; rfl
  refine ⟨_, rfl, (many : Int), rfl, by omega, by omega, fun D1 hD1 => ?_⟩
  refine lc_it walk_range (fun i H' => Same H H' ∧ ∃ vs, H' D1 = some (.lst vs) ∧ vs.length = i ∧ Reps H' vs (rowD ixD (odds i))) ⟨same_new hD1 _, [], upd_same, rfl, .nil⟩ (fun _ _ _ _ => trivial) ?_ ?_
  · rintro i x H3 H4 hi ⟨s3, vs, h3, l3, r3⟩ ⟨rfl, rfl⟩
    have hi' : i < many := by simpa using hi
    refine ⟨rfl, iteT (B := True) (iteT ?_)⟩
    refine ⟨_, rfl, _, _, rfl, rfl, .inl ⟨by omega, by omega⟩, _, _, rfl, rfl, two, fun p hp => ?_⟩
    have s4 := same_new hp (.tup [.str (Str.ofString "ref"), .int (2 * (0 + (i : Int)) + 1)])
    have h4 := s4 _ _ h3
    refine ⟨_, h4, by omega, same_grow (s3.trans s4) hD1, _, upd_same, by simp [l3], ?_⟩
    show Reps _ _ (rowD ixD (odds (i + 1)))
    unfold odds; rw [snoc, rowD_app]
    refine ((r3.mono (.same s4)).mono (.lst h4)).app (.one (Rep.mono (.lst h4) (rep_rf ?_)))
    rw [upd_same, show (2 * (0 + (i : Int)) + 1) = ((2 * i + 1 : Nat) : Int) by omega]
  rintro H1 ⟨s1, us, h1, l1, r1⟩
  have r1 : Reps H1 us (rowD ixD (odds many)) := by simpa using r1
  have l1 : us.length = many := by simpa using l1
  refine ⟨_, rfl, (many : Int), rfl, by omega, by omega, fun D2 hD2 => ?_⟩
  refine lc_it walk_range (fun i H' => Same H1 H' ∧ ∃ vs, H' D2 = some (.lst vs) ∧ vs.length = i ∧ Reps H' vs (rowD ixD (evens i))) ⟨same_new hD2 _, [], upd_same, rfl, .nil⟩ (fun _ _ _ _ => trivial) ?_ ?_
  · rintro i x H3 H4 hi ⟨s3, vs, h3, l3, r3⟩ ⟨rfl, rfl⟩
    have hi' : i < many := by simpa using hi
    refine ⟨rfl, iteT (B := True) (iteT ?_)⟩
    refine ⟨_, rfl, _, _, rfl, rfl, .inl ⟨by omega, by omega⟩, two, fun p hp => ?_⟩
    have s4 := same_new hp (.tup [.str (Str.ofString "ref"), .int (2 * (0 + (i : Int)))])
    have h4 := s4 _ _ h3
    refine ⟨_, h4, by omega, same_grow (s3.trans s4) hD2, _, upd_same, by simp [l3], ?_⟩
    show Reps _ _ (rowD ixD (evens (i + 1)))
    unfold evens; rw [snoc, rowD_app]
    refine ((r3.mono (.same s4)).mono (.lst h4)).app (.one (Rep.mono (.lst h4) (rep_rf ?_)))
    rw [upd_same, show (2 * (0 + (i : Int))) = ((2 * i : Nat) : Int) by omega]
  rintro H2 ⟨s2, ws, h2, l2, r2⟩
  have r2 : Reps H2 ws (rowD ixD (evens many)) := by simpa using r2
  have l2 : ws.length = many := by simpa using l2
  have S2 := s1.trans s2
  have h12 := s2 _ _ h1
  have r12 := r1.mono (.same s2)
  have nD1 : D1 ∉ F := X.fresh hD1
  have nD2 : D2 ∉ F := X.fresh (s1.free hD2)
  refine ⟨B, D1, many, way, F, m, nds, us, rfl, rfl, rfl, rfl, X.same S2, LZ0, ln, l8, ag0, h12, r12, nD1, fun F2 m2 H4 c4 f4 X4 L2 a0 a1 => ?_⟩
  have h14 := c4.keep D1 _ nD1 h12
  have h24 := c4.keep D2 _ nD2 h2
  have r14 := r12.mono c4.tups
  have r24 := r2.mono c4.tups
  have live : ∀ {a : Addr} {o : HO}, H2 a = some o → a ∉ F → a ∉ F2 := fun e n z => (f4 _ z).elim n (fun h => by rw [e] at h; cases h)
  have nD24 := live h2 nD2
  have XN := X4
  obtain ⟨td, md, L, Y, _⟩ := XN
  obtain ⟨dx, hB⟩ := Y.bk.hB
  refine ⟨_, rfl, B, dx, _, rfl, hB, rfl, _, rfl, D1, us, rfl, .inl (SqL.of h14), fun p1 hp1 => ?_⟩
  have s5 := same_new hp1 (.lst us)
  have h5 : upd H4 p1 (.lst us) p1 = some (.lst us) := upd_same
  generalize upd H4 p1 (.lst us) = H5 at s5 h5 ⊢
  refine ⟨_, rfl, rfl, ?_⟩
  unfold tNil
  show spHCol K C CT [V.ref B, V.ref p1, V.bl _] H5 _ _
  refine ⟨B, F2, m2, p1, us, odds many, _, rfl, X4.same s5, L2.law.ok, h5, r14.mono (.same s5), by rw [← ln]; exact L2.odds_ok, by simp [odds]; omega, X4.fresh hp1, fun p us6 m6 g S F6 H6 MV hf hy N hp6 r6 fp6 np6 => ?_⟩
  have fin : LZ m6 nds nds.length (fun _ => false) ∧ m6.ms = [] ∧ ∀ k, k < nds.length → g (2 * k + 1) = 2 * k := by
    rw [← ln] at hf hy
    by_cases c : way = 1
    · exact L2.young1 (fun k hk => a1 (by omega) k (by omega)) (hy (by rw [c]; rfl))
    · refine L2.full0 (hf ?_)
      have : ¬ (V.int (way : Int) = V.int 1) := fun z => by have := V.int.inj z; omega
      simp [this]
  obtain ⟨L6, ms6, g6⟩ := fin
  have em : mvs g (odds many) = evens many := mvs_odds (f := fun k => 2 * k) (fun k hk => g6 k (by omega))
  rw [em] at r6
  have h26 := N.chg.keep D2 _ nD24 (s5 _ _ h24)
  have r26 := (r24.mono (.same s5)).mono N.chg.tups
  have dp : deps (rowD ixD (evens many)) ≤ 7 := Nat.le_trans (deps_refs _ _) (by decide)
  refine ⟨_, rfl, _, _, rfl, ⟨_, rfl, iteF ?_⟩, .inl (same_lst hp6 h26 r6 r26 (by rw [r6.len, rowD_len]; simp [evens]; omega) dp)⟩
  have yn6 := L6.yn
  rw [ln] at L6 yn6
  refine ⟨_, rfl, _, rfl, B, 0, many, F6, m6, rfl, N.mem, by omega, L6.on, by omega, ⟨true, rfl, ?_⟩⟩
  rw [if_pos rfl]
  have XN := N.mem
  obtain ⟨td2, md2, L2', Y2, _⟩ := XN
  obtain ⟨dx2, hB2⟩ := Y2.bk.hB
  refine ⟨_, rfl, B, dx2, _, rfl, hB2, B, dx2, td2, md2, _, _, m6.ms, rfl, hB2, Y2.hM, fun rl pr H7 pm so s7 fpr hpr => ?_⟩
  rw [ms6] at pm
  obtain rfl := pm.eq_nil
  refine ⟨Nat.zero_le _, fun p3 hp3 => ?_⟩
  have s8 := same_new hp3 (.lst [])
  have S8 := s7.trans s8
  refine ⟨_, _, rfl, ?_, .inl (same_lst (ds := []) (s8 _ _ hpr) upd_same .nil .nil (by decide) (by decide))⟩
  have C : Chg (F ++ F2) H (upd H7 p3 (.lst [])) := ((((Chg.same S2).trans c4).mono fun x hx => List.mem_append_left _ hx).trans (.same s5)).trans ((N.chg.trans (.same S8)).mono fun x hx => List.mem_append_right _ hx)
  refine q F6 m6 _ (C.drop fun x hx => ?_) (fun x hx => ?_) (N.mem.same S8) L6 ms6
  · rcases List.mem_append.mp hx with h | h
    · exact .inl h
    · exact (f4 x h).imp_right S2.free
  · rcases N.new x hx with h | h
    · exact (f4 x h).imp_right S2.free
    · exact .inr (S2.free (c4.live x (s5.free h)))
end
end D0
namespace D0
open PySem PySem.Spec PyProof.Rows L2 SX NumText
/-- the state of the law: the bank, its nodes, its marks; J speaks of what else is kept -/
structure SW (K : PySem.W.Frag) (C CT : Addr) (H0 : Hp) (J : Hp → Prop) (Z : List Addr) (aged : Nat) (H : Hp) (B nb mk : Addr) (bx : List Addr) (n : Nat) (F : List Addr) (m : MM) (as rs : List Addr) (nds : List Nd) (M : Nat → Bool) : Prop where
  mem : Mem K C CT H B F m
  bo : BoA H nb as rs nds
  hm : H mk = some (.lst (blF M aged))
  lz : LZ m nds aged M
  nm : mk ∉ FN nb as rs
  dj : ∀ a ∈ mk :: FN nb as rs, a ∉ F
  bag : ∀ b ∈ bx, Bag H b ∧ b ∉ mk :: FN nb as rs ∧ b ∉ F ∧ H0 b = none
  ln : nds.length ≤ n
  sm : Same H0 H
  f1 : ∀ a ∈ mk :: FN nb as rs, H0 a = none
  f2 : ∀ a ∈ F, H0 a = none
  jf : ∀ (E : List Addr) (H1 H2 : Hp), Chg E H1 H2 → (∀ a ∈ Z, a ∉ E) → J H1 → J H2
  jh : J H
  zd : ∀ a ∈ Z, a ∉ mk :: FN nb as rs ∧ a ∉ F ∧ a ∉ bx ∧ H a ≠ none
section
variable {K : PySem.W.Frag} {C CT : Addr} {H0 : Hp} {J : Hp → Prop} {Z : List Addr} {aged : Nat} {H H' : Hp} {B nb mk : Addr} {bx : List Addr} {n : Nat} {F : List Addr} {m : MM} {as rs : List Addr} {nds : List Nd} {M : Nat → Bool}
theorem SW.here (X : SW K C CT H0 J Z aged H B nb mk bx n F m as rs nds M) : ∀ a ∈ mk :: FN nb as rs, H a ≠ none := fun a ha => by
  rcases List.mem_cons.mp ha with h | h
  · rw [h, X.hm]; exact fun z => nomatch z
  · exact X.bo.here a h
theorem SW.step (X : SW K C CT H0 J Z aged H B nb mk bx n F m as rs nds M) {E : List Addr} (c : Chg E H H') (hE : ∀ a ∈ E, a ∈ mk :: FN nb as rs ∨ a ∈ F ∨ a ∈ bx) {F' : List Addr} {m' : MM} {as' rs' : List Addr} {nds' : List Nd} {M' : Nat → Bool} {n' : Nat}
    (mem' : Mem K C CT H' B F' m') (bo' : BoA H' nb as' rs' nds') (hm' : H' mk = some (.lst (blF M' aged))) (lz' : LZ m' nds' aged M') (nF : ∀ x ∈ F', x ∈ F ∨ H x = none) (nA : ∀ x ∈ FN nb as' rs', x ∈ FN nb as rs ∨ H x = none)
    (dj' : ∀ a ∈ FN nb as' rs', a ∉ F') (bg : ∀ b ∈ bx, Bag H' b) (ln' : nds'.length ≤ n') : SW K C CT H0 J Z aged H' B nb mk bx n' F' m' as' rs' nds' M' := by
  have hmk : H mk ≠ none := by rw [X.hm]; exact fun z => nomatch z
  have f0 : ∀ a ∈ E, H0 a = none := fun a ha => by
    rcases hE a ha with h | h | h
    · exact X.f1 a h
    · exact X.f2 a h
    · exact (X.bag a h).2.2.2
  have nA' : ∀ x ∈ mk :: FN nb as' rs', x ∈ mk :: FN nb as rs ∨ H x = none := fun x hx => by
    rcases List.mem_cons.mp hx with h | h
    · exact .inl (by rw [h]; exact List.mem_cons_self ..)
    · exact (nA x h).imp_left (List.mem_cons_of_mem _)
  have zE : ∀ a ∈ Z, a ∉ E := fun a ha z => by
    obtain ⟨z1, z2, z3, z4⟩ := X.zd a ha
    rcases hE a z with h | h | h
    · exact z1 h
    · exact z2 h
    · exact z3 h
  refine ⟨mem', bo', hm', lz', fun z => ?_, fun a ha => ?_, fun b hb => ?_, ln', same_chg X.sm c f0, fun a ha => ?_, fun a ha => ?_, X.jf, X.jf E H H' c zE X.jh, fun a ha => ?_⟩
  · rcases nA _ z with h | h
    · exact X.nm h
    · exact hmk h
  · rcases List.mem_cons.mp ha with h | h
    · rw [h]; exact fun z => (nF _ z).elim (X.dj mk (List.mem_cons_self ..)) hmk
    · exact dj' a h
  · obtain ⟨b1, b2, b3, b4⟩ := X.bag b hb
    exact ⟨bg b hb, fun z => (nA' b z).elim b2 b1.here, fun z => (nF b z).elim b3 b1.here, b4⟩
  · exact (nA' a ha).elim (X.f1 a) (fun h => X.sm.free h)
  · exact (nF a ha).elim (X.f2 a) (fun h => X.sm.free h)
  · obtain ⟨z1, z2, z3, z4⟩ := X.zd a ha
    exact ⟨fun z => (nA' a z).elim z1 z4, fun z => (nF a z).elim z2 z4, z3, fun z => z4 (c.live a z)⟩
theorem SW.stp (X : SW K C CT H0 J Z aged H B nb mk bx n F m as rs nds M) {b : Addr} (hb : b ∈ bx) (x : Stp b H H') : SW K C CT H0 J Z aged H' B nb mk bx n F m as rs nds M := by
  obtain ⟨b1, b2, b3, b4⟩ := X.bag b hb
  have ne : ∀ {l : List Addr}, b ∉ l → ∀ a ∈ l, a ∉ [b] := fun h a ha z => h (by rw [← List.mem_singleton.mp z]; exact ha)
  refine X.step x.chg (fun a ha => .inr (.inr (by rw [List.mem_singleton.mp ha]; exact hb))) (X.mem.frame x.chg (ne b3)) (X.bo.frame x.chg (fun a ha => ne b2 a (List.mem_cons_of_mem _ ha))) (x.chg.keep mk _ (ne b2 mk (List.mem_cons_self ..)) X.hm) X.lz (fun _ h => .inl h) (fun _ h => .inl h) (fun a ha => X.dj a (List.mem_cons_of_mem _ ha)) (fun c hc => ?_) X.ln
  by_cases e : c = b
  · rw [e]; exact x.b1
  · exact (X.bag c hc).1.keep x.chg (by simpa using e)
theorem SW.same (X : SW K C CT H0 J Z aged H B nb mk bx n F m as rs nds M) (s : Same H H') : SW K C CT H0 J Z aged H' B nb mk bx n F m as rs nds M :=
  X.step (E := []) (.same s) (fun _ h => by cases h) (X.mem.same s) (X.bo.same s) (s _ _ X.hm) X.lz (fun _ h => .inl h) (fun _ h => .inl h) (fun a ha => X.dj a (List.mem_cons_of_mem _ ha)) (fun c hc => (X.bag c hc).1.same s) X.ln
theorem SW.more (X : SW K C CT H0 J Z aged H B nb mk bx n F m as rs nds M) {n' : Nat} (h : n ≤ n') : SW K C CT H0 J Z aged H B nb mk bx n' F m as rs nds M :=
  ⟨X.mem, X.bo, X.hm, X.lz, X.nm, X.dj, X.bag, Nat.le_trans X.ln h, X.sm, X.f1, X.f2, X.jf, X.jh, X.zd⟩
end
def SV (K : PySem.W.Frag) (C CT : Addr) (H0 : Hp) (J : Hp → Prop) (Z : List Addr) (aged : Nat) (B nb mk : Addr) (bx : List Addr) (n : Nat) (H : Hp) : Prop := ∃ F m as rs nds M, SW K C CT H0 J Z aged H B nb mk bx n F m as rs nds M
def spMakeZ (K : PySem.W.Frag) (C CT : Addr) : Sp := fun vs H Q _ => ∃ (H0 : Hp) (J : Hp → Prop) (Z : List Addr) (aged : Nat) (b B nb mk pl er : Addr) (bx : List Addr) (n : Nat) (F : List Addr) (m : MM) (as rs : List Addr) (nds : List Nd) (M : Nat → Bool), vs = [.ref b, .ref B, .ref nb, .int aged, .ref pl, .ref er] ∧
  SW K C CT H0 J Z aged H B nb mk bx n F m as rs nds M ∧ b ∈ bx ∧ Pool H b pl (· ∈ List.range nds.length) ∧ Pool H b er (· ∈ List.range nds.length) ∧ n ≤ 90 ∧ ∀ H', SV K C CT H0 J Z aged B nb mk bx (n + 1) H' → Q (.bl true) H'
section
variable {P : Program} {w : World} {K : PySem.W.Frag} {mg : Str → Option Value} {base : Heap} {C CT : Addr}
theorem ok__law_make (T : Txt K w mg) (BK : BM P w K mg base C CT) (Ok : OkD P w K mg base CX0 2 "_law_kind" p__law_kind spKind) (Of : OkD P w K mg base CX0 7 "_law_form" p__law_form spForm) (Ot : OkD P w K mg base CX0 1 "_law_table" p__law_table spTableZ)
    (Os : OkD P w K mg base CX0 3 "_law_sent" p__law_sent spSent) (Osm : OkD P w K mg base CX0 10 "_law_same" p__law_same (spSame K 9)) : OkD P w K mg base CX0 11 "_law_make" p__law_make (spMakeZ K C CT) := by
  refine T.g__law_make.ok sc__law_make (fun vs H Q E h => ?_) (fun f0 cdv A0 outer s H vs Q E hr h => ?_)
  · obtain ⟨H0, J, Z, aged, b, B, nb, mk, pl, er, bx, n, F, m, as, rs, nds, M, rfl, _⟩ := h; rfl
  obtain ⟨H0, J, Z, aged, b, B, nb, mk, pl, er, bx, n, F, m, as, rs, nds, M, rfl, X, hb, ppl, per, ln, q⟩ := h
  refine ⟨_, (pss_cons (ps_set (i := 6) sc__law_make.nd rfl (.inl rfl) (pcall Ok hr (pa_cons (pv 0) pa_nil)))
      (pss_cons (ps_set (i := 7) sc__law_make.nd rfl (.inl rfl) (pcall Of hr (pa_cons (pv 0) (pa_cons (pv 6) (pa_cons (pv 4) (pa_cons (pv 5) pa_nil))))))
      (pss_cons (ps_set (i := 8) sc__law_make.nd rfl (.inl rfl) (pmethE BK.make BK.cl hr pass0 (pv 1) (pa_cons (pv 6) (pa_cons (pe_ix ix_tup (pv 7) pe_int (fun _ _ => rfl)) (pa_cons (pcall Os hr (pa_cons (pe_ix ix_tup (pv 7) pe_int (fun _ _ => rfl)) (pa_cons (pcall Ot hr (pa_cons (pe_callB call_len_seq (by rfl) T.z_len PySem.boot_len (pa_cons (pv 2) pa_nil)) (pa_cons (pv 3) pa_nil))) pa_nil))) pa_nil)))))
      (pss_cons (ps_expr (pe_bm PySem.F.plainAttrs_list PySem.F.slot_list_append PySem.F.type_list_append mt_append (pv 2) (pa_cons (pe_lst (pa_cons (pv 6) (pa_cons (pe_ix ix_tup (pv 7) pe_int (fun _ _ => rfl)) (pa_cons (pe_ix ix_tup (pv 7) pe_int (fun _ _ => rfl)) pa_nil)))) pa_nil)))
      (pss_one (ps_ret (pcall Osm hr (pa_cons (pv 8) (pa_cons (pe_tup (pa_cons pe_str (pa_cons (pe_op op_sub (pe_op op_mul pe_int (pe_op op_sub (pe_callB call_len_seq (by rfl) T.z_len PySem.boot_len (pa_cons (pv 2) pa_nil)) (pv 3))) pe_int) pa_nil))) pa_nil))))))))), ?_⟩
  have lim := lim4
  have two : 2 ≤ sizeLine := by decide
  obtain ⟨b1, b2, b3, b4⟩ := X.bag b hb
  have gln := X.ln
  have hyn := X.lz.yn
  have hon := X.lz.on
  refine ⟨_, rfl, b, rfl, b1, fun z H1 x1 _ => ?_⟩
  refine ⟨_, rfl, _, rfl, _, rfl, _, rfl, b, pl, er, z, (· ∈ List.range nds.length), rfl, x1.b1, ppl.stp x1, per.stp x1, fun pf tv r tag es vs H2 x2 hpf rt hd fr hr2 rv okE lE => ?_⟩
  have X1 := X.stp hb x1
  have X2 := X1.stp hb x2
  obtain ⟨zl, rfl⟩ : ∃ zl, z = S zl := ⟨cs z, (S_cs z)⟩
  have nrF : r ∉ F := X1.mem.fresh fr
  have nr8 : r ∉ mk :: FN nb as rs := fun z => X1.here r z fr
  have YN := X2.mem
  obtain ⟨td, md, L, Yb, _⟩ := YN
  obtain ⟨dx, hB⟩ := Yb.bk.hB
  have la : (as.map V.ref).length = nds.length := by rw [List.length_map, X.bo.la]
  refine ⟨_, rfl, B, dx, _, rfl, hB, rfl, _, rfl, _, rfl, pf, _, 0, _, rfl, rfl, SqT.of hpf, rfl, _, rfl, pf, _, 1, _, rfl, rfl, SqT.of hpf, rfl, _, rfl, nb, _, rfl, .inl (SqL.of X2.bo.h0), _, rfl, nds.length, aged, by rw [la]; rfl, by omega, by omega, fun pt H3 s3 fpt hpt => ?_⟩
  refine ⟨r, pt, vs, es, fI aged, nds.length, rfl, s3 _ _ hr2, rv.mono (.same s3), X.lz.lt okE, by omega, hpt, fun ps us1 H4 s4 fps hps r4 => ?_⟩
  rw [(fA_tells aged (· ∈ List.range nds.length)).row okE] at r4
  have S4 := s3.trans s4
  have X4 := X2.same S4
  refine ⟨B, F, m, zl, tv, ps, us1, tag, mvs (fA aged) es, rfl, X4.mem, by omega, rt.mono (.same S4), hps, r4, fun p F' H5 N hp5 fp np => ?_⟩
  have bo5 := X4.bo.frame N.chg (fun a ha => X.dj a (List.mem_cons_of_mem _ ha))
  have hpf5 := N.chg.tups pf _ (S4 _ _ hpf)
  refine ⟨_, rfl, .inl ⟨rfl, _, SqL.of bo5.h0⟩, _, rfl, _, rfl, pf, _, 0, _, rfl, rfl, SqT.of hpf5, rfl, _, rfl, pf, _, 1, _, rfl, rfl, SqT.of hpf5, rfl, by show 3 ≤ sizeLine; omega, fun a ha => ?_⟩
  have s6 := same_new ha (.lst [.str (S zl), tv, .ref r])
  have ha6 : upd H5 a (.lst [.str (S zl), tv, .ref r]) a = some (.lst [.str (S zl), tv, .ref r]) := upd_same
  generalize upd H5 a (.lst [.str (S zl), tv, .ref r]) = H6 at s6 ha6 ⊢
  have h06 := s6 _ _ bo5.h0
  refine ⟨nb, _, _, rfl, rfl, h06, by omega, ?_⟩
  have c67 : Chg [nb] H6 (upd H6 nb (.lst (as.map V.ref ++ [.ref a]))) := .upd h06 (fun _ z => by cases z) (List.mem_singleton_self _)
  have h07 : upd H6 nb (.lst (as.map V.ref ++ [.ref a])) nb = some (.lst (as.map V.ref ++ [.ref a])) := upd_same
  generalize upd H6 nb (.lst (as.map V.ref ++ [.ref a])) = H7 at c67 h07 ⊢
  have c57 : Chg [nb] H5 H7 := (Chg.same s6).trans c67
  have nbF : nb ∈ FN nb as rs := List.mem_cons_self ..
  have na : a ∉ FN nb as rs := fun z => bo5.here a z ha
  have nr : r ∉ FN nb as rs := fun z => nr8 (List.mem_cons_of_mem _ z)
  have n0 : ∀ {x : Addr}, x ∉ FN nb as rs → x ∉ [nb] := fun h z => h (by rw [List.mem_singleton.mp z]; exact nbF)
  have hr5 := N.chg.keep r _ nrF (S4 _ _ hr2)
  have nar : a ≠ r := fun z => by rw [z, hr5] at ha; cases ha
  have tups25 := (Tups.same S4).trans N.chg.tups
  have BO := bo5.more2 (n := ⟨zl, tag, es⟩) na nr nar c57 (fun x hx z => by
    rw [List.mem_singleton.mp z] at hx
    rcases List.mem_append.mp hx with h | h
    · exact bo5.nd.n1 h
    · exact bo5.nd.n2 h) h07 (c67.keep a _ (n0 na) ha6) (c57.keep r _ (n0 nr) hr5) ((rt.mono tups25).mono c57.tups) ((rv.mono tups25).mono c57.tups)
  have C27 : Chg (F ++ [nb]) H2 H7 := ((Chg.same S4).trans (N.chg.mono fun x hx => List.mem_append_left _ hx)).trans (c57.mono fun x hx => List.mem_append_right _ hx)
  have nF' : ∀ x ∈ F', x ∈ F ∨ H2 x = none := fun x hx => (N.new x hx).imp_right S4.free
  have l2 : ∀ {x : Addr}, H5 x = none → H2 x = none := fun h => S4.free (N.chg.live _ h)
  have nmk : mk ∉ F ++ [nb] := fun z => (List.mem_append.mp z).elim (X.dj mk (List.mem_cons_self ..)) (fun z => X.nm (by rw [List.mem_singleton.mp z]; exact nbF))
  have nbF' : nb ∉ F' := fun z => (nF' nb z).elim (X.dj nb (List.mem_cons_of_mem _ nbF)) (X2.bo.here nb nbF)
  have X7 : SW K C CT H0 J Z aged H7 B nb mk bx (n + 1) F' (m.make ⟨zl, tag, mvs (fA aged) es⟩) (as ++ [a]) (rs ++ [r]) (nds ++ [⟨zl, tag, es⟩]) M := by
    refine X1.step (E := b :: (F ++ [nb])) ((x2.chg.mono fun x hx => by rw [List.mem_singleton.mp hx]; exact List.mem_cons_self ..).trans (C27.mono fun x hx => List.mem_cons_of_mem _ hx)) (fun x hx => ?_) (N.mem.frame c57 (fun x hx z => nbF' (by rw [← List.mem_singleton.mp z]; exact hx))) BO (C27.keep mk _ nmk X2.hm) (X.lz.make hd lE okE (by omega)) (fun x hx => (nF' x hx).imp_right x2.free) (fun x hx => ?_) (fun x hx z => ?_) (fun c hc => ?_) (by rw [List.length_append]; show nds.length + 1 ≤ _; omega)
    · rcases List.mem_cons.mp hx with h | h
      · exact .inr (.inr (by rw [h]; exact hb))
      rcases List.mem_append.mp h with h | h
      · exact .inr (.inl h)
      · exact .inl (List.mem_cons_of_mem _ (by rw [List.mem_singleton.mp h]; exact nbF))
    · rcases FN_more hx with h | h | h
      · exact .inl h
      · exact .inr (by rw [h]; exact x2.free (l2 ha))
      · exact .inr (by rw [h]; exact fr)
    · rcases FN_more hx with h | h | h
      · exact (nF' x z).elim (X.dj x (List.mem_cons_of_mem _ h)) (X2.bo.here x h)
      · exact N.mem.fresh ha (by rw [← h]; exact z)
      · exact (N.new x z).elim (fun e => nrF (by rw [← h]; exact e)) (fun e => by rw [h, S4 _ _ hr2] at e; cases e)
    · obtain ⟨c1, c2, c3, c4⟩ := X2.bag c hc
      exact c1.keep C27 (fun z => (List.mem_append.mp z).elim c3 (fun z => c2 (List.mem_cons_of_mem _ (by rw [List.mem_singleton.mp z]; exact nbF))))
  have la7 : (as.map V.ref ++ [V.ref a]).length = nds.length + 1 := by rw [List.length_append, la]; rfl
  have hp7 := c57.tups p _ hp5
  refine ⟨_, rfl, _, rfl, nb, _, rfl, .inl (SqL.of h07), _, rfl, _, _, rfl, rfl, _, _, rfl, rfl, .inl ⟨by omega, by omega⟩, _, _, rfl, rfl, two, fun p8 h8 => ?_⟩
  have s8 := same_new h8 (.tup [.str (Str.ofString "ref"), .int (2 * (((as.map V.ref ++ [V.ref a]).length : Int) - (aged : Int)) - 1)])
  have hp8 := s8 _ _ hp7
  have h88 : upd H7 p8 (.tup [.str (Str.ofString "ref"), .int (2 * (((as.map V.ref ++ [V.ref a]).length : Int) - (aged : Int)) - 1)]) p8 = some (.tup [.str (Str.ofString "ref"), .int (2 * (((as.map V.ref ++ [V.ref a]).length : Int) - (aged : Int)) - 1)]) := upd_same
  generalize upd H7 p8 (.tup [.str (Str.ofString "ref"), .int (2 * (((as.map V.ref ++ [V.ref a]).length : Int) - (aged : Int)) - 1)]) = H8 at s8 hp8 h88 ⊢
  rw [show (2 * (((as.map V.ref ++ [V.ref a]).length : Int) - (aged : Int)) - 1) = ((2 * m.yn + 1 : Nat) : Int) by rw [la7]; omega] at h88
  exact ⟨_, _, rfl, q _ ⟨_, _, _, _, _, _, X7.same s8⟩, .inr ⟨_, rep_rf hp8, rep_rf h88, by show dep (.tup [.str wRef, .int ((2 * m.yn + 1 : Nat) : Int)]) < 9; rw [dep_tup]; simp [D0.deps, D0.dep]⟩⟩
end
end D0
namespace D0
open PySem PySem.Spec PyProof.Rows L2 SX NumText
def spChangeZ (K : PySem.W.Frag) (C CT : Addr) : Sp := fun vs H Q _ => ∃ (H0 : Hp) (J : Hp → Prop) (Z : List Addr) (aged : Nat) (b B nb mk pl er : Addr) (bx : List Addr) (n : Nat) (F : List Addr) (m : MM) (as rs : List Addr) (nds : List Nd) (M : Nat → Bool), vs = [.ref b, .ref B, .ref nb, .int aged, .ref mk, .ref pl, .ref er] ∧
  SW K C CT H0 J Z aged H B nb mk bx n F m as rs nds M ∧ b ∈ bx ∧ Pool H b pl (· ∈ List.range nds.length) ∧ Pool H b er (· ∈ List.range nds.length) ∧ n ≤ 90 ∧ 1 ≤ aged ∧ ∀ H', SV K C CT H0 J Z aged B nb mk bx n H' → Q (.bl true) H'
section
variable {P : Program} {w : World} {K : PySem.W.Frag} {mg : Str → Option Value} {base : Heap} {C CT : Addr}
theorem ok__law_change (T : Txt K w mg) (BK : BM P w K mg base C CT) (O : OkD P w K mg base CX0 1 "_law_take" p__law_take spTake) (Of : OkD P w K mg base CX0 7 "_law_form" p__law_form spForm) (Ono : OkD P w K mg base CX0 3 "_law_note" p__law_note spNoteZ) (Ot : OkD P w K mg base CX0 1 "_law_table" p__law_table spTableZ)
    (Os : OkD P w K mg base CX0 3 "_law_sent" p__law_sent spSent) (Osp : OkD P w K mg base CX0 11 "_law_spoil" p__law_spoil (spSpoil K)) : OkD P w K mg base CX0 12 "_law_change" p__law_change (spChangeZ K C CT) := by
  refine T.g__law_change.ok sc__law_change (fun vs H Q E h => ?_) (fun f0 cdv A0 outer s H vs Q E hr h => ?_)
  · obtain ⟨H0, J, Z, aged, b, B, nb, mk, pl, er, bx, n, F, m, as, rs, nds, M, rfl, _⟩ := h; rfl
  obtain ⟨H0, J, Z, aged, b, B, nb, mk, pl, er, bx, n, F, m, as, rs, nds, M, rfl, X, hb, ppl, per, ln, lag, q⟩ := h
  refine ⟨_, (pss_cons (ps_set (i := 7) sc__law_change.nd rfl (.inl rfl) (pcall O hr (pa_cons (pv 0) (pa_cons (pe_callB call_len_seq (by rfl) T.z_len PySem.boot_len (pa_cons (pv 2) pa_nil)) pa_nil))))
      (pss_cons (PS.of (t' := fun D σ H' => ∃ (b : Addr) (v1 v2 : Option V) (aged N k : Nat) (v4 v5 v6 : Option V) (r : List (Option V)), σ = some (.ref b) :: v1 :: v2 :: some (.int aged) :: v4 :: v5 :: v6 :: some (.int (k : Nat)) :: r ∧ Bag H' b ∧ 1 ≤ aged ∧ aged ≤ N ∧ N ≤ 1000 ∧ k < N ∧
        ∀ (k' : Nat) H'', k' < N → Stp b H' H'' → D.nx (some (.ref b) :: v1 :: v2 :: some (.int aged) :: v4 :: v5 :: v6 :: some (.int (k' : Nat)) :: r) H'')
      (ps_if (pt_cmpR op_gt (pcall O hr (pa_cons (pv 0) (pa_cons pe_int pa_nil))) pe_int (nomark _)) (pss_one (ps_set (i := 7) sc__law_change.nd rfl (.inl rfl) (pcall O hr (pa_cons (pv 0) (pa_cons (pv 3) pa_nil))))) pss_nil) ?if1)
      (pss_cons (ps_set (i := 8) sc__law_change.nd rfl (.inl rfl) (pe_ix ix_list (pe_ix ix_list (pv 2) (pv 7) (fun _ _ => rfl)) pe_int (fun _ _ => rfl)))
      (pss_cons (ps_set (i := 9) sc__law_change.nd rfl (.inl rfl) (pcall Of hr (pa_cons (pv 0) (pa_cons (pv 8) (pa_cons (pv 5) (pa_cons (pv 6) pa_nil))))))
      (pss_cons (ps_asg (pe_lst (pa_cons (pv 8) (pa_cons (pe_ix ix_tup (pv 9) pe_int (fun _ _ => rfl)) (pa_cons (pe_ix ix_tup (pv 9) pe_int (fun _ _ => rfl)) pa_nil)))) (pg_sub (pv 2) (pv 7) set_list))
      (pss_cons (ps_expr (pcall Ono hr (pa_cons (pv 3) (pa_cons (pv 4) (pa_cons (pv 7) (pa_cons (pe_ix ix_tup (pv 9) pe_int (fun _ _ => rfl)) pa_nil))))))
      (pss_cons (ps_set (i := 10) sc__law_change.nd rfl (.inl rfl) (pcall Ot hr (pa_cons (pe_callB call_len_seq (by rfl) T.z_len PySem.boot_len (pa_cons (pv 2) pa_nil)) (pa_cons (pv 3) pa_nil))))
      (pss_cons (ps_set (i := 11) sc__law_change.nd rfl (.inl rfl) (pcall Os hr (pa_cons (pe_ix ix_tup (pv 9) pe_int (fun _ _ => rfl)) (pa_cons (pv 10) pa_nil))))
      (pss_cons (ps_if (pt_cmpR op_notN (pmethE BK.change BK.cl hr pass0 (pv 1) (pa_cons (pe_tup (pa_cons pe_str (pa_cons (pe_ix ix_list (pv 10) (pv 7) (fun _ _ => rfl)) pa_nil))) (pa_cons (pe_ix ix_tup (pv 9) pe_int (fun _ _ => rfl)) (pa_cons (pv 11) pa_nil)))) pe_non (nomark _)) (pss_one (ps_ret pe_bl)) pss_nil)
      (pss_one (ps_ret (pcall Osp hr (pa_cons (pv 11) (pa_cons (pcall Os hr (pa_cons (pe_ix ix_tup (pv 9) pe_int (fun _ _ => rfl)) (pa_cons (pv 10) pa_nil))) pa_nil)))))))))))))), ?_⟩
  case if1 =>
    rintro D σ H' ⟨b, v1, v2, aged, N, k, v4, v5, v6, r, rfl, hb, l1, l2, l3, lk, go⟩
    refine ⟨_, rfl, b, 3, rfl, hb, by decide, by decide, fun r0 H2 _ _ x2 => ⟨_, _, rfl, rfl, _, rfl, ite2 (fun _ => ?_) (fun _ => go k _ lk x2)⟩⟩
    refine ⟨_, rfl, _, rfl, b, (aged : Int), rfl, x2.b1, by omega, by omega, fun r1 H3 r10 r11 x3 => ?_⟩
    obtain ⟨j, rfl⟩ : ∃ j : Nat, r1 = (j : Int) := ⟨r1.toNat, by omega⟩
    exact go j _ (by omega) (x2.trans x3)
  have lim := lim4
  have two : 2 ≤ sizeLine := by decide
  obtain ⟨b1, b2, b3, b4⟩ := X.bag b hb
  have gln := X.ln
  have hyn := X.lz.yn
  have hon := X.lz.on
  have la : (as.map V.ref).length = nds.length := by rw [List.length_map, X.bo.la]
  refine ⟨_, rfl, _, rfl, nb, _, rfl, .inl (SqL.of X.bo.h0), b, (nds.length : Nat), by rw [la]; rfl, b1, by omega, by omega, fun r0 H1 r00 r01 x1 => ?_⟩
  obtain ⟨k0, rfl⟩ : ∃ j : Nat, r0 = (j : Int) := ⟨r0.toNat, by omega⟩
  refine ⟨b, _, _, aged, nds.length, k0, _, _, _, _, rfl, x1.b1, lag, by omega, by omega, by omega, fun k H2 kl x2 => ?_⟩
  have x12 := x1.trans x2
  have X2 := X.stp hb x12
  have hni : nds[k]? = some (gOf nds k) := by rw [gOf_lt kl]; exact List.getElem?_eq_getElem kl
  obtain ⟨a, r0, tv0, vs0, ea, er0, g, rt0, g20, rr0, vl0⟩ := X2.bo.look hni
  refine ⟨_, rfl, _, rfl, nb, _, _, .ref a, rfl, rfl, SqL.of X2.bo.h0, node_at ea, a, _, 0, _, rfl, rfl, SqL.of g, rfl, ?_⟩
  refine ⟨_, rfl, _, rfl, _, rfl, _, rfl, b, pl, er, S (gOf nds k).kind, (· ∈ List.range nds.length), rfl, x12.b1, ppl.stp x12, per.stp x12, fun pf tv r tag es vs H3 x3 hpf rt hd fr hr2 rv okE lE => ?_⟩
  have X3 := X2.stp hb x3
  have nrF : r ∉ F := X2.mem.fresh fr
  have nr8 : r ∉ mk :: FN nb as rs := fun z => X2.here r z fr
  have nbN : nb ∈ FN nb as rs := List.mem_cons_self ..
  refine ⟨_, rfl, _, rfl, pf, _, 0, _, rfl, rfl, SqT.of hpf, rfl, _, rfl, pf, _, 1, _, rfl, rfl, SqT.of hpf, rfl, by show 3 ≤ sizeLine; omega, fun a2 ha2 => ?_⟩
  have s4 := same_new ha2 (.lst [.str (S (gOf nds k).kind), tv, .ref r])
  have ha4 : upd H3 a2 (.lst [.str (S (gOf nds k).kind), tv, .ref r]) a2 = some (.lst [.str (S (gOf nds k).kind), tv, .ref r]) := upd_same
  generalize upd H3 a2 (.lst [.str (S (gOf nds k).kind), tv, .ref r]) = H4 at s4 ha4 ⊢
  have h04 := s4 _ _ X3.bo.h0
  refine ⟨_, rfl, _, rfl, nb, _, _, k, rfl, rfl, h04, ixN_nat (by rw [la]; exact kl), ?_⟩
  have c45 : Chg [nb] H4 (upd H4 nb (.lst ((as.map V.ref).set k (.ref a2)))) := .upd h04 (fun _ z => by cases z) (List.mem_singleton_self _)
  have h05 : upd H4 nb (.lst ((as.map V.ref).set k (.ref a2))) nb = some (.lst ((as.map V.ref).set k (.ref a2))) := upd_same
  generalize upd H4 nb (.lst ((as.map V.ref).set k (.ref a2))) = H5 at c45 h05 ⊢
  have c35 : Chg [nb] H3 H5 := (Chg.same s4).trans c45
  have n0 : ∀ {x : Addr}, x ∉ FN nb as rs → x ∉ [nb] := fun h z => h (by rw [List.mem_singleton.mp z]; exact nbN)
  have na2 : a2 ∉ FN nb as rs := fun z => X3.bo.here a2 z ha2
  have nr2 : r ∉ FN nb as rs := fun z => nr8 (List.mem_cons_of_mem _ z)
  have nar : a2 ≠ r := fun z => by rw [z, hr2] at ha2; cases ha2
  have ha5 := c45.keep a2 _ (n0 na2) ha4
  have hr5 := c35.keep r _ (n0 nr2) hr2
  have hm5 := c35.keep mk _ (n0 X.nm) X3.hm
  have BO5 := X3.bo.setNode2 (n := ⟨(gOf nds k).kind, tag, es⟩) kl na2 nr2 nar c35 h05 ha5 hr5 (rt.mono c35.tups) (rv.mono c35.tups)
  have hpf5 := c35.tups pf _ hpf
  have okN := X.lz.lt okE
  refine ⟨_, rfl, _, rfl, _, rfl, _, rfl, pf, _, 1, _, rfl, rfl, SqT.of hpf5, rfl, ?_⟩
  have nrm : r ≠ mk := fun z => nr8 (by rw [z]; exact List.mem_cons_self ..)
  unfold tNil
  show spNoteZ [V.int (aged : Nat), V.ref mk, V.int (k : Nat), V.ref r] H5 _ _
  refine ⟨aged, k, nds.length, mk, r, M, vs, es, rfl, hm5, hr5, rv.mono c35.tups, okN, nrm, by omega, fun H6 c6 h6 => ?_⟩
  have nmF : ∀ x ∈ FN nb (as.set k a2) (rs.set k r), x ∉ [mk] := fun x hx z => by
    rw [List.mem_singleton.mp z] at hx
    rcases FN_set hx with h | h | h
    · exact X.nm h
    · rw [← h, X3.hm] at ha2; cases ha2
    · exact nrm h.symm
  have BO6 := BO5.frame c6 nmF
  have la6 : ((as.set k a2).map V.ref).length = nds.length := by rw [List.length_map, List.length_set, X.bo.la]
  have hpf6 := c6.tups pf _ hpf5
  have hr6 := c6.keep r _ (fun z => nrm (List.mem_singleton.mp z)) hr5
  have rv6 := (rv.mono c35.tups).mono c6.tups
  have rt6 := (rt.mono c35.tups).mono c6.tups
  refine ⟨_, rfl, nb, _, rfl, .inl (SqL.of BO6.h0), _, rfl, nds.length, aged, by rw [la6]; rfl, by omega, by omega, fun pt H7 s7 fpt hpt => ?_⟩
  refine ⟨_, rfl, pf, _, 1, _, rfl, rfl, SqT.of (s7 _ _ hpf6), rfl, _, rfl, r, pt, vs, es, fI aged, nds.length, rfl, s7 _ _ hr6, rv6.mono (.same s7), okN, by omega, hpt, fun gv us1 H8 s8 fgv hgv r8 => ?_⟩
  rw [(fA_tells aged (· ∈ List.range nds.length)).row okE] at r8
  have S8 := s7.trans s8
  have C38 : Chg (nb :: [mk]) H3 H8 := ((c35.mono fun x hx => by rw [List.mem_singleton.mp hx]; exact List.mem_cons_self ..).trans (c6.mono fun x hx => List.mem_cons_of_mem _ hx)).trans (.same S8)
  have djE : ∀ x ∈ F, x ∉ nb :: [mk] := fun x hx z => by
    rcases List.mem_cons.mp z with h | h
    · exact X.dj x (List.mem_cons_of_mem _ (by rw [h]; exact nbN)) hx
    · exact X.dj x (by rw [List.mem_singleton.mp h]; exact List.mem_cons_self ..) hx
  have mem8 := X3.mem.frame C38 djE
  have YN := mem8
  obtain ⟨td, md, L, Yb, _⟩ := YN
  obtain ⟨dx, hB⟩ := Yb.bk.hB
  have LM := X.lz.law
  have lms : m.ms.length ≤ 10000 := by
    have := nodup_le m.top LM.ok.mkn fun y hy => MM.dom_lt (LM.ok.mkdom hy)
    have h2 := LM.ok.le
    unfold MM.top at this; omega
  have kU : k ∈ List.range nds.length := List.mem_range.mpr kl
  have eG := LM.on.at_ k kU
  have hpt8 := s8 _ _ hpt
  have hpf8 := S8 _ _ hpf6
  refine ⟨_, rfl, B, dx, _, rfl, hB, rfl, _, rfl, _, rfl, pt, _, _, .int ((fA aged k : Nat) : Int), rfl, rfl, SqL.of hpt8, atI_nat (tbF_at kl), two, fun pa hpa => ?_⟩
  have s9 := same_new hpa (.tup [.str (Str.ofString "ref"), .int ((fA aged k : Nat) : Int)])
  have hpa9 : upd H8 pa (.tup [.str (Str.ofString "ref"), .int ((fA aged k : Nat) : Int)]) pa = some (.tup [.str (Str.ofString "ref"), .int ((fA aged k : Nat) : Int)]) := upd_same
  generalize upd H8 pa (.tup [.str (Str.ofString "ref"), .int ((fA aged k : Nat) : Int)]) = H9 at s9 hpa9 ⊢
  obtain ⟨M9, hMb⟩ := row_bound (fA aged) es
  refine ⟨_, rfl, pf, _, 0, _, rfl, rfl, SqT.of (s9 _ _ hpf8), rfl, _, rfl, B, F, m, _, tv, gv, us1, fA aged k, M9, tag, mvs (fA aged) es, rfl, mem8.same s9, lms, ⟨pa, _, rfl, hpa9⟩, LM.on.dom k kU, (rt6.mono (.same S8)).mono (.same s9), s9 _ _ hgv, r8.mono (.same s9), fun e he => ?_, fun F' H10 N => ?_⟩
  · obtain ⟨e0, h0, rfl⟩ := List.mem_map.mp he
    exact Ent.mv_ok (N := nds.length) (okN e0 h0) (hMb e0 h0)
  have en : (⟨(m.G (fA aged k)).kind, tag, mvs (fA aged) es⟩ : Nd) = Nd.mv (fA aged) ⟨(gOf nds k).kind, tag, es⟩ := by rw [eG]; rfl
  rw [en] at N
  refine ⟨rfl, _, rfl, iteF ?_⟩
  have l7 : ∀ {x : Addr}, H7 x = none → H3 x = none := fun h => c35.live _ (c6.live _ (s7.free h))
  have nptF : pt ∉ F := fun z => X3.mem.fresh (c35.live _ (c6.live _ fpt)) z
  have ngvF : gv ∉ F := fun z => X3.mem.fresh (l7 fgv) z
  have hpf10 := N.chg.tups pf _ (s9 _ _ hpf8)
  have hpt10 := N.chg.keep pt _ nptF (s9 _ _ hpt8)
  have hgv10 := N.chg.keep gv _ ngvF (s9 _ _ hgv)
  have hr10 := N.chg.keep r _ nrF (s9 _ _ (S8 _ _ hr6))
  have t610 : Tups H6 H10 := (Tups.same (S8.trans s9)).trans N.chg.tups
  have r10 := (r8.mono (.same s9)).mono N.chg.tups
  refine ⟨_, rfl, _, rfl, pf, _, 1, _, rfl, rfl, SqT.of hpf10, rfl, _, rfl, r, pt, vs, es, fI aged, nds.length, rfl, hr10, rv6.mono t610, okN, by omega, hpt10, fun du us2 H11 s11 fdu hdu r11 => ?_⟩
  rw [(fA_tells aged (· ∈ List.range nds.length)).row okE] at r11
  have dp : deps (rowD ixD (mvs (fA aged) es)) ≤ 3 := by
    rw [← (fA_tells aged (· ∈ List.range nds.length)).row okE]
    have := rowD_dep (f := fI aged) okN; omega
  refine ⟨gv, du, us1, us2, _, rfl, s11 _ _ hgv10, hdu, r10.mono (.same s11), r11, by rw [r10.len, rowD_len, mvs_len]; omega, dp, fun H12 zs c12 h12 => ?_⟩
  have ngv : ∀ {x : Addr}, H3 x ≠ none → x ∉ [gv] := fun h z => h (by rw [List.mem_singleton.mp z]; exact l7 fgv)
  have l10 : ∀ {x : Addr}, H9 x = none → H3 x = none := fun h => C38.live _ (s9.free h)
  have C : Chg ([nb, mk] ++ F ++ [gv]) H3 H12 := (((C38.mono fun x hx => List.mem_append_left _ (List.mem_append_left _ hx)).trans (.same s9)).trans (N.chg.mono fun x hx => List.mem_append_left _ (List.mem_append_right _ hx))).trans (((Chg.same s11).trans c12).mono fun x hx => List.mem_append_right _ hx)
  have C2 : Chg ([nb, mk] ++ F) H3 H12 := C.drop fun x hx => (List.mem_append.mp hx).imp_right fun h => by rw [List.mem_singleton.mp h]; exact l7 fgv
  have C1 : Chg (b :: ([nb, mk] ++ F)) H2 H12 := (x3.chg.mono fun x hx => by rw [List.mem_singleton.mp hx]; exact List.mem_cons_self ..).trans (C2.mono fun x hx => List.mem_cons_of_mem _ hx)
  have ngF' : gv ∉ F' := fun z => (N.new gv z).elim ngvF (fun h => by rw [s9 _ _ hgv] at h; cases h)
  have nFx : ∀ x ∈ F', x ∈ F ∨ H3 x = none := fun x hx => (N.new x hx).imp_right l10
  have djn : ∀ x ∈ FN nb (as.set k a2) (rs.set k r), x ∉ F' := fun x hx z => by
    rcases N.new x z with h | h
    · rcases FN_set hx with e | e | e
      · exact X.dj x (List.mem_cons_of_mem _ e) h
      · rw [e] at h; exact X3.mem.fresh ha2 h
      · rw [e] at h; exact nrF h
    · rcases FN_set hx with e | e | e
      · exact X3.bo.here x e (l10 h)
      · rw [e, s9 _ _ (S8 _ _ (c6.keep a2 _ (fun z => by rw [List.mem_singleton.mp z, X3.hm] at ha2; cases ha2) ha5))] at h; cases h
      · rw [e, s9 _ _ (S8 _ _ hr6)] at h; cases h
  have BO12 : BoA H12 nb (as.set k a2) (rs.set k r) (nds.set k ⟨(gOf nds k).kind, tag, es⟩) := ((((BO6.same (S8.trans s9)).frame N.chg (fun x hx z => djn x hx (N.sub x z))).same s11).frame c12 (fun x hx z => by
    rw [List.mem_singleton.mp z] at hx
    rcases FN_set hx with e | e | e
    · exact X3.bo.here gv e (l7 fgv)
    · have := c6.keep a2 _ (fun z => by rw [List.mem_singleton.mp z, X3.hm] at ha2; cases ha2) ha5
      rw [← e, s7.free fgv] at this; cases this
    · have := hr6
      rw [← e, s7.free fgv] at this; cases this))
  have lN : (nds.set k ⟨(gOf nds k).kind, tag, es⟩).length = nds.length := List.length_set ..
  have hm12 : H12 mk = some (.lst (blF (noteZ aged M k es) aged)) := by
    refine c12.keep mk _ (ngv (by rw [X3.hm]; exact fun z => nomatch z)) (s11 _ _ (N.chg.keep mk _ (X.dj mk (List.mem_cons_self ..)) (s9 _ _ (S8 _ _ h6))))
  refine q _ ⟨F', _, as.set k a2, rs.set k r, nds.set k ⟨(gOf nds k).kind, tag, es⟩, noteZ aged M k es, X2.step C1 (fun x hx => ?_) ((N.mem.same s11).frame c12 (fun x hx z => ngF' (by rw [← List.mem_singleton.mp z]; exact hx))) BO12 hm12 (X.lz.put (n := ⟨(gOf nds k).kind, tag, es⟩) kl hd lE okE (fun hy => .inl hy)) (fun x hx => (nFx x hx).imp_right x3.free) (fun x hx => ?_) djn (fun c hc => ?_) (by rw [lN]; exact gln)⟩
  · rcases List.mem_cons.mp hx with h | h
    · exact .inr (.inr (by rw [h]; exact hb))
    rcases List.mem_append.mp h with h | h
    · rcases List.mem_cons.mp h with h | h
      · exact .inl (List.mem_cons_of_mem _ (by rw [h]; exact nbN))
      · exact .inl (by rw [List.mem_singleton.mp h]; exact List.mem_cons_self ..)
    · exact .inr (.inl h)
  · rcases FN_set hx with h | h | h
    · exact .inl h
    · exact .inr (by rw [h]; exact x3.free ha2)
    · exact .inr (by rw [h]; exact fr)
  · obtain ⟨c1, c2, c3, c4⟩ := X3.bag c hc
    refine c1.keep C2 (fun z => ?_)
    rcases List.mem_append.mp z with h | h
    · rcases List.mem_cons.mp h with h | h
      · exact c2 (List.mem_cons_of_mem _ (by rw [h]; exact nbN))
      · exact c2 (by rw [List.mem_singleton.mp h]; exact List.mem_cons_self ..)
    · exact c3 h
end
end D0
namespace D0
open PySem PySem.Spec PyProof.Rows L2 SX NumText
theorem cut_mem {xs : List V} {lo hi : Option Int} {x : V} (h : x ∈ cutV xs lo hi) : x ∈ xs := List.mem_of_mem_drop (List.mem_of_mem_take h)
theorem nats_of : ∀ {xs : List V} {ks : List Nat}, (∀ x ∈ xs, x ∈ nats ks) → ∃ js, xs = nats js ∧ ∀ j ∈ js, j ∈ ks
  | [], _, _ => ⟨[], rfl, fun j h => by cases h⟩
  | x :: xs, ks, h => by
    obtain ⟨j, hj, e⟩ := List.mem_map.mp (h x (List.mem_cons_self ..))
    obtain ⟨js, e2, h2⟩ := nats_of (xs := xs) (ks := ks) fun y hy => h y (List.mem_cons_of_mem _ hy)
    refine ⟨j :: js, ?_, fun i hi => ?_⟩
    · unfold nats at e2 ⊢; rw [List.map_cons, ← e2, ← e]
    · rcases List.mem_cons.mp hi with rfl | hi
      · exact hj
      · exact h2 i hi
def spDeedZ (K : PySem.W.Frag) (C CT : Addr) : Sp := fun vs H Q _ => ∃ (H0 : Hp) (J : Hp → Prop) (Z : List Addr) (aged : Nat) (b B nb mk : Addr) (bx : List Addr) (n : Nat), vs = [.ref b, .ref B, .ref nb, .int aged, .ref mk] ∧
  SV K C CT H0 J Z aged B nb mk bx n H ∧ b ∈ bx ∧ n ≤ 90 ∧ 1 ≤ aged ∧ ∀ H', SV K C CT H0 J Z aged B nb mk bx (n + 1) H' → Q (.bl true) H'
section
variable {P : Program} {w : World} {K : PySem.W.Frag} {mg : Str → Option Value} {base : Heap} {C CT : Addr}
set_option maxHeartbeats 4000000 in
theorem ok__law_deed (T : Txt K w mg) (BK : BM P w K mg base C CT) (O : OkD P w K mg base CX0 1 "_law_take" p__law_take spTake) (Ofr : OkD P w K mg base CX0 1 "_law_free" p__law_free spFree) (Om : OkD P w K mg base CX0 1 "_law_marks" p__law_marks spMarks)
    (Oen : OkD P w K mg base CX0 6 "_law_entry" p__law_entry spMarked) (Omk : OkD P w K mg base CX0 11 "_law_make" p__law_make (spMakeZ K C CT)) (Och : OkD P w K mg base CX0 12 "_law_change" p__law_change (spChangeZ K C CT))
    (Ono : OkD P w K mg base CX0 3 "_law_note" p__law_note spNoteZ) (Ot : OkD P w K mg base CX0 1 "_law_table" p__law_table spTableZ) (Ov : OkD P w K mg base CX0 2 "_law_moved" p__law_moved spMoved) : OkD P w K mg base CX0 13 "_law_deed" p__law_deed (spDeedZ K C CT) := by
  refine T.g__law_deed.ok sc__law_deed (fun vs H Q E h => ?_) (fun f0 cdv A0 outer s H vs Q E hr h => ?_)
  · obtain ⟨H0, J, Z, aged, b, B, nb, mk, bx, n, rfl, _⟩ := h; rfl
  obtain ⟨H0, J, Z, aged, b, B, nb, mk, bx, n, rfl, ⟨F, m, as, rs, nds, M, X⟩, hb, ln, lag, q⟩ := h
  refine ⟨_, (pss_cons (ps_set (i := 5) sc__law_deed.nd rfl (.inl rfl) (pcall O hr (pa_cons (pv 0) (pa_cons pe_int pa_nil))))
      (pss_cons (ps_setLc (i := 6) (own := [("k", 15)]) (g := gName 15) (tt := tYes) rfl sc__law_deed.nd rfl rfl rfl (pi_range1 rfl T.z_range (pa_cons (pe_callB call_len_seq (by rfl) T.z_len PySem.boot_len (pa_cons (pv 2) pa_nil)) pa_nil)) (blkOk_by (own := [("k", 15)]) (N := n__law_deed) (sc := defScope s__law_deed) (by decide +kernel)) (fun _ _ _ _ _ => (pg_name (i := 15) sc__law_deed.nd rfl (Or.inl rfl))) (fun _ _ _ _ _ => pts_nil) (fun _ _ _ _ _ => (pv 15)))
      (pss_cons (PS.of (t' := fun D σ H' => ∃ (b nb p6 : Addr) (v1 v4 v5 : Option V) (aged N : Nat) (ws : List V) (r : List (Option V)), σ = some (.ref b) :: v1 :: some (.ref nb) :: some (.int aged) :: v4 :: v5 :: some (.ref p6) :: r ∧ Bag H' b ∧ H' nb = some (.lst ws) ∧ ws.length = N ∧ N ≤ 1000 ∧ Pool H' b p6 (· ∈ List.range N) ∧
        ∀ p H'', Stp b H' H'' → Pool H'' b p (· ∈ List.range N) → D.nx (some (.ref b) :: v1 :: some (.ref nb) :: some (.int aged) :: v4 :: v5 :: some (.ref p) :: r) H'')
      (ps_if (PW.pt (pw_and (pt_cmpR op_gt (pe_callB call_len_seq (by rfl) T.z_len PySem.boot_len (pa_cons (pv 2) pa_nil)) (pv 3) (nomark _)) (pw_and1 (pt_cmpR op_eq (pcall O hr (pa_cons (pv 0) (pa_cons pe_int pa_nil))) pe_int (nomark _))))) (pss_one (ps_set (i := 6) sc__law_deed.nd rfl (.inl rfl) (pe_slice sl_list (pv 6) (po_some (pv 3)) po_none))) pss_nil) ?if1)
      (pss_cons (ps_setLc (i := 7) (own := [("k", 15)]) (g := gName 15) rfl sc__law_deed.nd rfl rfl rfl (pi_list (pv 6)) (blkOk_by (own := [("k", 15)]) (N := n__law_deed) (sc := defScope s__law_deed) (by decide +kernel)) (fun _ _ _ _ _ => (pg_name (i := 15) sc__law_deed.nd rfl (Or.inl rfl))) (fun _ _ _ _ _ => (pts_one (pt_cmpR op_eq (pe_ix (show IxR _ (rIxL K) from ix_list) (pe_ix (show IxR _ (rIxL K) from ix_list) (pv 2) (pv 15) (fun _ _ => rfl)) pe_int (fun _ _ => rfl)) pe_str (nomark _)))) (fun _ _ _ _ _ => (pv 15)))
      (pss_cons (ps_setLc (i := 8) (own := [("k", 15)]) (g := gName 15) rfl sc__law_deed.nd rfl rfl rfl (pi_range1 rfl T.z_range (pa_cons (pe_callB call_len_seq (by rfl) T.z_len PySem.boot_len (pa_cons (pv 2) pa_nil)) pa_nil)) (blkOk_by (own := [("k", 15)]) (N := n__law_deed) (sc := defScope s__law_deed) (by decide +kernel)) (fun _ _ _ _ _ => (pg_name (i := 15) sc__law_deed.nd rfl (Or.inl rfl))) (fun _ _ _ _ _ => (pts_one (show PT _ _ (tTru K (tCall spFree [] E0 (tCons (tOp (rIxL K) (tVar 2) (tVar 15)) tNil))) from pt_truth (pcall Ofr hr (pa_cons (pe_ix (show IxR _ (rIxL K) from ix_list) (pv 2) (pv 15) (fun _ _ => rfl)) pa_nil)) (fun _ => rfl)))) (fun _ _ _ _ _ => (pv 15)))
      (pss_cons (PS.of (t' := fun D σ H' => ∃ (b ho : Addr) (v1 v2 v4 v5 v6 v7 : Option V) (aged : Nat) (hs : List Nat) (o9 o10 o11 o12 o13 o14 o15 : Option V), σ = some (.ref b) :: v1 :: v2 :: some (.int aged) :: v4 :: v5 :: v6 :: v7 :: some (.ref ho) :: [o9, o10, o11, o12, o13, o14, o15] ∧ Bag H' b ∧ H' ho = some (.lst (nats hs)) ∧ ho ≠ b ∧ hs.length ≤ 1000 ∧
        ∀ ho' hs' H'', Stp b H' H'' → H'' ho' = some (.lst (nats hs')) → ho' ≠ b → (∀ k ∈ hs', k ∈ hs) → hs'.length ≤ hs.length → D.nx (some (.ref b) :: v1 :: v2 :: some (.int aged) :: v4 :: v5 :: v6 :: v7 :: some (.ref ho') :: [o9, o10, o11, o12, o13, o14, o15]) H'')
      (ps_if (PW.pt (pw_and (pt_cmpR op_gt (pcall O hr (pa_cons (pv 0) (pa_cons pe_int pa_nil))) pe_int (nomark _)) (pw_and1 (pt_truth (pe_lc (own := [("k", 15)]) (g := gName 15) rfl sc__law_deed.nd (pi_list (pv 8)) (blkOk_by (own := [("k", 15)]) (N := n__law_deed) (sc := defScope s__law_deed) (by decide +kernel)) (fun _ _ _ _ _ => (pg_name (i := 15) sc__law_deed.nd rfl (Or.inl rfl))) (fun _ _ _ _ _ => (pts_one (pt_cmpR op_lt (pv 15) (pv 3) (nomark _)))) (fun _ _ _ _ _ => (pv 15))) (by intro _; rfl))))) (pss_one (ps_setLc (i := 8) (own := [("k", 15)]) (g := gName 15) rfl sc__law_deed.nd rfl rfl rfl (pi_list (pv 8)) (blkOk_by (own := [("k", 15)]) (N := n__law_deed) (sc := defScope s__law_deed) (by decide +kernel)) (fun _ _ _ _ _ => (pg_name (i := 15) sc__law_deed.nd rfl (Or.inl rfl))) (fun _ _ _ _ _ => (pts_one (pt_cmpR op_lt (pv 15) (pv 3) (nomark _)))) (fun _ _ _ _ _ => (pv 15)))) pss_nil) ?if2)
      (pss_cons (ps_if (PW.pt (pw_or (pt_cmpR op_lt (pv 5) pe_int (nomark _)) (pw_or1 (pt_not (pt_truth (pv 8) (by intro _; rfl)))))) (pss_one (ps_ret (pcall Omk hr (pa_cons (pv 0) (pa_cons (pv 1) (pa_cons (pv 2) (pa_cons (pv 3) (pa_cons (pv 6) (pa_cons (pv 7) pa_nil))))))))) pss_nil)
      (pss_cons (ps_if (pt_cmpR op_gt (pv 5) pe_int (nomark _)) (pss_one (ps_ret (pcall Och hr (pa_cons (pv 0) (pa_cons (pv 1) (pa_cons (pv 2) (pa_cons (pv 3) (pa_cons (pv 4) (pa_cons (pv 6) (pa_cons (pv 7) pa_nil)))))))))) pss_nil)
      (pss_cons (ps_set (i := 9) sc__law_deed.nd rfl (.inl rfl) (pe_ix ix_list (pv 8) (pcall O hr (pa_cons (pv 0) (pa_cons (pe_callB call_len_seq (by rfl) T.z_len PySem.boot_len (pa_cons (pv 8) pa_nil)) pa_nil))) (fun _ _ => rfl)))
      (pss_cons (ps_set (i := 10) sc__law_deed.nd rfl (.inl rfl) (pcall Ofr hr (pa_cons (pe_ix ix_list (pv 2) (pv 9) (fun _ _ => rfl)) pa_nil)))
      (pss_cons (ps_set (i := 11) sc__law_deed.nd rfl (.inl rfl) (pe_ix ix_list (pv 10) (pcall O hr (pa_cons (pv 0) (pa_cons (pe_callB call_len_seq (by rfl) T.z_len PySem.boot_len (pa_cons (pv 10) pa_nil)) pa_nil))) (fun _ _ => rfl)))
      (pss_cons (ps_set (i := 12) sc__law_deed.nd rfl (.inl rfl) (pcall Oen hr (pa_cons (pv 0) (pa_cons (pv 6) (pa_cons (pv 7) (pa_cons (pcall Om hr (pa_cons (pe_ix ix_list (pe_ix ix_list (pv 2) (pv 9) (fun _ _ => rfl)) pe_int (fun _ _ => rfl)) pa_nil)) pa_nil))))))
      (pss_cons (ps_set (i := 13) sc__law_deed.nd rfl (.inl rfl) (pe_ix ix_list (pe_ix ix_list (pv 2) (pv 9) (fun _ _ => rfl)) pe_int (fun _ _ => rfl)))
      (pss_cons (ps_asg (pv 12) (pg_sub (pv 13) (pv 11) set_list))
      (pss_cons (ps_expr (pcall Ono hr (pa_cons (pv 3) (pa_cons (pv 4) (pa_cons (pv 9) (pa_cons (pe_lst (pa_cons (pv 12) pa_nil)) pa_nil))))))
      (pss_cons (ps_set (i := 14) sc__law_deed.nd rfl (.inl rfl) (pcall Ot hr (pa_cons (pe_callB call_len_seq (by rfl) T.z_len PySem.boot_len (pa_cons (pv 2) pa_nil)) (pa_cons (pv 3) pa_nil))))
      (pss_one (ps_ret (pe_cmpR op_isN (pmethE BK.set_slot BK.cl hr pass0 (pv 1) (pa_cons (pe_tup (pa_cons pe_str (pa_cons (pe_ix ix_list (pv 14) (pv 9) (fun _ _ => rfl)) pa_nil))) (pa_cons (pv 11) (pa_cons (pcall Ov hr (pa_cons (pv 12) (pa_cons (pv 14) pa_nil))) pa_nil)))) pe_non (nomark _)))))))))))))))))))), ?_⟩
  case if1 =>
    rintro D σ H' ⟨b, nb, p6, v1, v4, v5, aged, N, ws, r, rfl, hb, hnb, lw, lN, pp, go⟩
    refine ⟨_, rfl, nb, _, rfl, .inl (SqL.of hnb), _, rfl, _, _, rfl, rfl, _, rfl, ite2 (fun _ => ?_) (fun _ => go p6 H' (.refl hb) pp)⟩
    refine ⟨_, rfl, b, 2, rfl, hb, by decide, by decide, fun r0 H2 _ _ x2 => ⟨rfl, _, rfl, ite2 (fun _ => ?_) (fun _ => go p6 H2 x2 (pp.stp x2))⟩⟩
    obtain ⟨np, ks, hks, kU, kl⟩ := pp.stp x2
    have hks : H2 p6 = some (.lst (nats ks)) := hks
    refine ⟨_, rfl, _, rfl, (aged : Int), rfl, p6, _, rfl, SqL.of hks, fun pz hpz => ?_⟩
    obtain ⟨js, ej, jk⟩ := nats_of (xs := cutV (nats ks) (some (aged : Int)) none) (ks := ks) fun x hx => cut_mem hx
    have lj : js.length ≤ ks.length := by
      have h1 := cutV_length (nats ks) (some (aged : Int)) none
      have h2 : (nats js).length = js.length := nats_len js
      rw [← ej] at h2
      rw [nats_len] at h1
      omega
    rw [ej]
    have s3 := same_new hpz (.lst (nats js))
    exact go pz _ (x2.trans (.same x2.b1 s3)) ⟨x2.b1.ne hpz, js, upd_same, fun k hk => kU k (jk k hk), by omega⟩
  case if2 =>
    rintro D σ H' ⟨b, ho, v1, v2, v4, v5, v6, v7, aged, hs, o9, o10, o11, o12, o13, o14, o15, rfl, hb, hho, nho, lhs, go⟩
    have lim := lim4
    have skip := go ho hs
    refine ⟨_, rfl, b, 3, rfl, hb, by decide, by decide, fun r0 H2 _ _ x2 => ⟨_, _, rfl, rfl, _, rfl, ite2 (fun _ => ?_) (fun _ => skip H2 x2 (x2.keep _ _ nho hho) nho (fun k h => h) (Nat.le_refl _))⟩⟩
    have hh2 := x2.keep _ _ nho hho
    refine ⟨_, rfl, ho, rfl, ⟨_, SqL.of hh2⟩, fun D1 hD1 => ?_⟩
    refine lc_it (walk_list (xs := nats hs)) (fun i H' => Same H2 H' ∧ ∃ ks, H' D1 = some (.lst (nats ks)) ∧ ks.length ≤ i) ⟨same_new hD1 _, [], upd_same, Nat.le_refl _⟩ (fun i H' _ h => SqL.of (h.1 _ _ hh2)) ?_ ?_
    · rintro j y H9 H10 hj ⟨s9, ks, h9, l9⟩ ⟨rfl, hx⟩
      have hj' : j < hs.length := by rw [nats_len] at hj; exact hj
      unfold nats at hx
      rw [List.getElem?_map, List.getElem?_eq_getElem hj'] at hx
      obtain rfl := Option.some.inj hx
      refine ⟨rfl, _, rfl, _, rfl, _, _, rfl, rfl, _, rfl, ite2 (fun _ => ?_) (fun _ => ⟨s9, ks, h9, by omega⟩)⟩
      exact ⟨_, rfl, _, h9, by rw [nats_len]; omega, same_grow s9 hD1, ks ++ [hs[j]], by rw [upd_same, nats_app]; rfl, by simp; omega⟩
    rintro H3 ⟨s3, ks3, h3, l3⟩
    refine ⟨_, .inl ⟨_, SqL.of h3, rfl⟩, ite2 (fun _ => ?_) (fun _ => skip H3 (x2.trans (.same x2.b1 s3)) (s3 _ _ hh2) nho (fun k h => h) (Nat.le_refl _))⟩
    have hh3 := s3 _ _ hh2
    refine ⟨_, rfl, ho, rfl, ⟨_, SqL.of hh3⟩, fun D2 hD2 => ?_⟩
    refine lc_it (walk_list (xs := nats hs)) (fun i H' => Same H3 H' ∧ ∃ ks, H' D2 = some (.lst (nats ks)) ∧ (∀ k ∈ ks, k ∈ hs) ∧ ks.length ≤ i) ⟨same_new hD2 _, [], upd_same, (fun k h => by cases h), Nat.le_refl _⟩ (fun i H' _ h => SqL.of (h.1 _ _ hh3)) ?_ ?_
    · rintro j y H9 H10 hj ⟨s9, ks, h9, o9, l9⟩ ⟨rfl, hx⟩
      have hj' : j < hs.length := by rw [nats_len] at hj; exact hj
      unfold nats at hx
      rw [List.getElem?_map, List.getElem?_eq_getElem hj'] at hx
      obtain rfl := Option.some.inj hx
      refine ⟨rfl, _, rfl, _, rfl, _, _, rfl, rfl, _, rfl, ite2 (fun _ => ?_) (fun _ => ⟨s9, ks, h9, o9, by omega⟩)⟩
      refine ⟨_, rfl, _, h9, by rw [nats_len]; omega, same_grow s9 hD2, ks ++ [hs[j]], by rw [upd_same, nats_app]; rfl, fun k hk => ?_, by simp; omega⟩
      rcases List.mem_append.mp hk with h | h
      · exact o9 k h
      · rw [List.mem_singleton.mp h]; exact List.getElem_mem _
    rintro H4 ⟨s4, ks, h4, o4, l4⟩
    rw [nats_len] at l4
    have S := s3.trans s4
    exact go D2 ks H4 (x2.trans (.same x2.b1 S)) h4 ((x2.b1.same s3).ne hD2) o4 l4
  have lim := lim4
  have two : 2 ≤ sizeLine := by decide
  obtain ⟨b1, b2, b3, b4⟩ := X.bag b hb
  have gln := X.ln
  have hyn := X.lz.yn
  have hon := X.lz.on
  have la : (as.map V.ref).length = nds.length := by rw [List.length_map, X.bo.la]
  refine ⟨_, rfl, b, 8, rfl, b1, by decide, by decide, fun way H1 w0 w1 x1 => ?_⟩
  have X1 := X.stp hb x1
  refine ⟨_, rfl, nb, _, rfl, .inl (SqL.of X1.bo.h0), (nds.length : Int), by rw [la], by omega, by omega, fun D1 hD1 => ?_⟩
  refine lc_it walk_range (fun j H' => Same H1 H' ∧ H' D1 = some (.lst (nats (List.range j)))) ⟨same_new hD1 _, upd_same⟩ (fun _ _ _ _ => trivial) ?_ ?_
  · rintro j x H7 H8 hj ⟨s7, h7⟩ ⟨rfl, rfl⟩
    have hj' : j < nds.length := by simpa using hj
    refine ⟨rfl, iteT (B := True) (iteT ?_)⟩
    refine ⟨_, rfl, _, h7, by rw [nats_len, List.length_range]; omega, same_grow s7 hD1, ?_⟩
    rw [upd_same, List.range_succ, nats_app]
    show some (HO.lst (_ ++ [V.int (0 + (j : Int))])) = _
    rw [Int.zero_add]; rfl
  rintro H2 ⟨s2, h2⟩
  have h2 : H2 D1 = some (.lst (nats (List.range nds.length))) := by simpa using h2
  have X2 := X1.same s2
  have nD1 : D1 ≠ b := x1.b1.ne hD1
  refine ⟨b, nb, D1, _, _, _, aged, nds.length, _, _, rfl, x1.b1.same s2, X2.bo.h0, la, by omega, ⟨nD1, _, h2, fun k h => h, by rw [List.length_range]; omega⟩, fun pl H3 x3 PU => ?_⟩
  have X3 := X2.stp hb x3
  have bo3 := X3.bo
  obtain ⟨npl, ps, hps, psU, lps⟩ := PU
  have hps : H3 pl = some (.lst (nats ps)) := hps
  -- errors
  refine ⟨_, rfl, pl, rfl, ⟨_, SqL.of hps⟩, fun er her => ?_⟩
  have ner : er ≠ b := x3.b1.ne her
  refine lc_it (walk_list (xs := nats ps)) (fun i H' => Same H3 H' ∧ ∃ ks, H' er = some (.lst (nats ks)) ∧ (∀ k ∈ ks, k ∈ List.range nds.length) ∧ ks.length ≤ i) ⟨same_new her _, [], upd_same, (fun k h => by cases h), Nat.le_refl _⟩ (fun i H' _ h => SqL.of (h.1 _ _ hps)) ?_ ?_
  · rintro j y H9 H10 hj ⟨s9, ks, h9, o9, l9⟩ ⟨rfl, hx⟩
    have hj' : j < ps.length := by rw [nats_len] at hj; exact hj
    unfold nats at hx
    rw [List.getElem?_map, List.getElem?_eq_getElem hj'] at hx
    have hx := Option.some.inj hx
    subst hx
    have ku := psU _ (List.getElem_mem hj')
    obtain ⟨n, hni⟩ : ∃ n, nds[ps[j]]? = some n := ⟨_, List.getElem?_eq_getElem (List.mem_range.mp ku)⟩
    have X10 := bo3.same s9
    obtain ⟨a1, r, tv, vs, ea, er', g, rt, g2, rr, vl⟩ := X10.look hni
    refine ⟨rfl, ?_⟩
    refine ⟨_, rfl, _, rfl, nb, _, _, .ref a1, rfl, rfl, SqL.of X10.h0, node_at ea, a1, _, 0, _, rfl, rfl, SqL.of g, rfl, rfl, _, rfl, ite2 (fun _ => ?_) (fun _ => ⟨s9, ks, h9, o9, by omega⟩)⟩
    refine ⟨_, rfl, _, h9, by rw [nats_len]; omega, same_grow s9 her, ks ++ [ps[j]], by rw [upd_same, nats_app]; rfl, fun k hk' => ?_, by simp; omega⟩
    rcases List.mem_append.mp hk' with h | h
    · exact o9 k h
    · rw [List.mem_singleton.mp h]; exact ku
  rintro H4 ⟨s4, es4, he4, oe4, le4⟩
  rw [nats_len] at le4
  have bo4 := bo3.same s4
  -- holders
  refine ⟨_, rfl, nb, _, rfl, .inl (SqL.of bo4.h0), (nds.length : Int), by rw [la], by omega, by omega, fun ho hho => ?_⟩
  have nho : ho ≠ b := (x3.b1.same s4).ne hho
  refine lc_it walk_range (fun i H' => Same H4 H' ∧ ∃ hs, H' ho = some (.lst (nats hs)) ∧ (∀ k ∈ hs, k < nds.length ∧ frees (S (gOf nds k).kind) (gOf nds k).row.length ≠ []) ∧ hs.length ≤ i) ⟨same_new hho _, [], upd_same, (fun k h => by cases h), Nat.le_refl _⟩ (fun _ _ _ _ => trivial) ?_ ?_
  · rintro j x H9 H10 hj ⟨s9, hs, h9, o9, l9⟩ ⟨rfl, rfl⟩
    have kl : j < nds.length := by simpa using hj
    have hni : nds[j]? = some (gOf nds j) := by rw [gOf_lt kl]; exact List.getElem?_eq_getElem kl
    have nl := X.lz.law.row (gOf nds j) (List.mem_of_getElem? hni)
    have X10 := bo4.same s9
    obtain ⟨a1, r, tv, vs, ea, er', g, rt, g2, rr, vl⟩ := X10.look hni
    refine ⟨rfl, ?_⟩
    refine ⟨_, rfl, _, rfl, nb, _, _, .ref a1, rfl, rfl, SqL.of X10.h0, by rw [Int.zero_add]; exact node_at ea, a1, _, tv, r, vs, rfl, g, g2, by have := nl.len; omega, fun p H5 s5 fp hp => ⟨_, .inl ⟨_, SqL.of hp, rfl⟩, ?_⟩⟩
    have s35 := s9.trans s5
    have h5 := s5 _ _ h9
    refine ite2 (fun c => ?_) (fun c => ⟨s35, hs, h5, o9, by omega⟩)
    refine ⟨_, rfl, _, h5, by rw [nats_len]; omega, same_grow s35 hho, hs ++ [j], by rw [upd_same, nats_app]; show some (HO.lst (_ ++ [V.int (0 + (j : Int))])) = _; rw [Int.zero_add]; rfl, fun k hk => ?_, by simp; omega⟩
    rcases List.mem_append.mp hk with h | h
    · exact o9 k h
    · rw [List.mem_singleton.mp h]
      refine ⟨kl, fun z => ?_⟩
      rw [vl, z] at c
      exact absurd c (by decide)
  rintro H5 ⟨s5, hs0, hh0, ok0, lh0⟩
  have lh0 : hs0.length ≤ nds.length := by simpa using lh0
  have bx5 : Bag H5 b := (x3.b1.same s4).same s5
  refine ⟨b, ho, _, _, _, _, _, _, aged, hs0, _, _, _, _, _, _, _, rfl, bx5, hh0, nho, by omega, fun ho2 hs H6 x6 hh6 nho2 ok6 lh6 => ?_⟩
  have okh : ∀ k ∈ hs, k < nds.length ∧ frees (S (gOf nds k).kind) (gOf nds k).row.length ≠ [] := fun k hk => ok0 k (ok6 k hk)
  have S35 := s4.trans s5
  have X6 := (X3.same S35).stp hb x6
  have PE : Pool H6 b er (· ∈ List.range nds.length) := ⟨ner, es4, x6.keep _ _ ner (s5 _ _ he4), oe4, by omega⟩
  have PU : Pool H6 b pl (· ∈ List.range nds.length) := ⟨npl, ps, x6.keep _ _ npl (S35 _ _ hps), psU, lps⟩
  clear bo4 bo3 X3 X2 X1
  -- a new one
  have new : spMakeZ K C CT [.ref b, .ref B, .ref nb, .int aged, .ref pl, .ref er] H6 Q E :=
    ⟨H0, J, Z, aged, b, B, nb, mk, pl, er, bx, n, F, m, as, rs, nds, M, rfl, X6, hb, PU, PE, ln, fun H' X' => q _ X'⟩
  have up : ∀ {H'}, SV K C CT H0 J Z aged B nb mk bx n H' → SV K C CT H0 J Z aged B nb mk bx (n + 1) H' := fun ⟨F, m, as, rs, nds, M, Y⟩ => ⟨F, m, as, rs, nds, M, Y.more (Nat.le_succ _)⟩
  refine ⟨_, rfl, _, _, rfl, rfl, _, rfl, ite2 (fun _ => ⟨_, rfl, _, rfl, _, rfl, _, rfl, _, rfl, _, rfl, new⟩) (fun _ => ⟨_, rfl, _, .inl ⟨_, SqL.of hh6, rfl⟩, ite2 (fun _ => ⟨_, rfl, _, rfl, _, rfl, _, rfl, _, rfl, _, rfl, new⟩) (fun hne => ?_)⟩)⟩
  have hne : hs ≠ [] := fun z => by subst z; exact absurd hne (by decide)
  refine ⟨_, rfl, _, _, rfl, rfl, _, rfl, ite2 (fun _ => ?_) (fun _ => ?_)⟩
  · exact ⟨_, rfl, _, rfl, _, rfl, _, rfl, _, rfl, _, rfl, _, rfl, H0, J, Z, aged, b, B, nb, mk, pl, er, bx, n, F, m, as, rs, nds, M, rfl, X6, hb, PU, PE, ln, lag, fun H' X' => q _ (up X')⟩
  -- one slot
  have hpos : 0 < hs.length := List.length_pos_iff.mpr hne
  refine ⟨_, rfl, _, rfl, _, rfl, ho2, _, rfl, .inl (SqL.of hh6), b, (hs.length : Nat), by rw [nats_len]; rfl, x6.b1, by omega, by omega, fun rr H7 r0 rn x7 => ?_⟩
  obtain ⟨j0, rfl⟩ : ∃ j : Nat, rr = (j : Int) := ⟨rr.toNat, by omega⟩
  have hj0 : j0 < hs.length := by omega
  refine ⟨ho2, _, _, .int (hs[j0] : Nat), rfl, rfl, SqL.of (x7.keep _ _ nho2 hh6), nats_at hj0, ?_⟩
  obtain ⟨kl, kf⟩ := okh _ (List.getElem_mem hj0)
  generalize hs[j0] = k at kl kf
  have X7 := X6.stp hb x7
  have hni : nds[k]? = some (gOf nds k) := by rw [gOf_lt kl]; exact List.getElem?_eq_getElem kl
  have nok := X.lz.law.row (gOf nds k) (List.mem_of_getElem? hni)
  have l100 := nok.len
  obtain ⟨a, r, tv, us0, ea, er', g, rt, g2, rr, vl⟩ := X7.bo.look hni
  refine ⟨_, rfl, _, rfl, nb, _, _, .ref a, rfl, rfl, SqL.of X7.bo.h0, node_at ea, a, S (gOf nds k).kind, tv, r, us0, rfl, g, g2, by omega, fun p1 H8 s8 fp1 hp1 => ?_⟩
  rw [vl] at hp1
  obtain ⟨fs, efs⟩ : ∃ fs, fs = frees (S (gOf nds k).kind) (gOf nds k).row.length := ⟨_, rfl⟩
  have flt : ∀ j ∈ fs, j < (gOf nds k).row.length := fun j hj => frees_lt (by rw [efs] at hj; exact hj)
  have fl := frees_len (S (gOf nds k).kind) (gOf nds k).row.length
  rw [← efs] at hp1 kf fl
  have fpos : 0 < fs.length := List.length_pos_iff.mpr kf
  refine ⟨_, rfl, _, rfl, _, rfl, p1, _, rfl, .inl (SqL.of hp1), b, (fs.length : Nat), by rw [nats_len]; rfl, x7.b1.same s8, by omega, by omega, fun rr0 H9 r0 rn x9 => ?_⟩
  obtain ⟨j, rfl⟩ : ∃ j : Nat, rr0 = (j : Int) := ⟨rr0.toNat, by omega⟩
  have hj : j < fs.length := by omega
  have np1 : p1 ≠ b := x7.b1.ne fp1
  refine ⟨p1, _, _, .int (fs[j] : Nat), rfl, rfl, SqL.of (x9.keep _ _ np1 hp1), nats_at hj, ?_⟩
  have hi := flt _ (List.getElem_mem hj)
  generalize fs[j] = i at hi
  have X9 := (X7.same s8).stp hb x9
  have x79 := (Stp.same x7.b1 s8).trans x9
  obtain ⟨a', r', tv', us', ea', er2, g', rt', g2', rr', vl'⟩ := X9.bo.look hni
  rw [ea] at ea'
  obtain rfl := Option.some.inj ea'
  rw [er'] at er2
  obtain rfl := Option.some.inj er2
  have x69 := x7.trans x79
  refine ⟨_, rfl, _, rfl, _, rfl, _, rfl, _, rfl, nb, _, _, .ref a, rfl, rfl, SqL.of X9.bo.h0, node_at ea, a, _, 0, _, rfl, rfl, SqL.of g', rfl, _, rfl, fun mi => ?_⟩
  refine ⟨b, pl, er, (· ∈ List.range nds.length), mi, rfl, x9.b1, PU.stp x69, PE.stp x69, fun v e H10 x10 oe re => ?_⟩
  have X10 := X9.stp hb x10
  obtain ⟨a', r', tv', us', ea', er2, g', rt', g2', rr', vl'⟩ := X10.bo.look hni
  rw [ea] at ea'
  obtain rfl := Option.some.inj ea'
  rw [er'] at er2
  obtain rfl := Option.some.inj er2
  refine ⟨_, rfl, _, rfl, nb, _, _, .ref a, rfl, rfl, SqL.of X10.bo.h0, node_at ea, a, _, 2, _, rfl, rfl, SqL.of g', rfl, ?_⟩
  refine ⟨_, rfl, _, rfl, _, rfl, r, _, _, i, rfl, rfl, g2', ixN_nat (by rw [vl']; exact hi), ?_⟩
  have er3 : (rowD ixD (gOf nds k).row).set i (e.d ixD) = rowD ixD ((gOf nds k).row.set i e) := by unfold rowD; rw [List.map_set]
  obtain ⟨BO11, c11⟩ := X10.bo.setRow (vs := us'.set i v) (row := (gOf nds k).row.set i e) hni er' (by rw [← er3]; exact rr'.set re)
  have rFN : r ∈ FN nb as rs := by have := List.mem_of_getElem? er'; simp [FN, this]
  have re11 := re.mono c11.tups
  have nmr : mk ∉ [r] := fun z => X.nm (by rw [List.mem_singleton.mp z]; exact rFN)
  have hm11 := c11.keep mk _ nmr X10.hm
  generalize upd H10 r (.lst (us'.set i v)) = H11 at BO11 c11 re11 hm11 ⊢
  have lN : (nds.set k ⟨(gOf nds k).kind, (gOf nds k).tag, (gOf nds k).row.set i e⟩).length = nds.length := List.length_set ..
  have oek : e.ok nds.length := oe.ok X.lz.law.on.lt
  refine ⟨_, rfl, _, rfl, _, rfl, _, rfl, by show 1 ≤ sizeLine; omega, fun pn hpn => ?_⟩
  have s12 := same_new hpn (.lst [v])
  have hpn12 : upd H11 pn (.lst [v]) pn = some (.lst [v]) := upd_same
  have hm12 := s12 _ _ hm11
  generalize upd H11 pn (.lst [v]) = H12 at s12 hpn12 hm12 ⊢
  unfold tNil
  show spNoteZ [V.int (aged : Nat), V.ref mk, V.int (k : Nat), V.ref pn] H12 _ _
  have nnm : pn ≠ mk := fun z => by rw [z, hm11] at hpn; cases hpn
  refine ⟨aged, k, nds.length, mk, pn, M, [v], [e], rfl, hm12, hpn12, .one (re11.mono (.same s12)), (fun x hx => by rw [List.mem_singleton.mp hx]; exact oek), nnm, by show 1 ≤ 1000; omega, fun H13 c13 h13 => ?_⟩
  have BO13 := (BO11.same s12).frame c13 (fun x hx z => X.nm (by rw [← List.mem_singleton.mp z]; exact hx))
  have re13 := (re11.mono (.same s12)).mono c13.tups
  refine ⟨_, rfl, nb, _, rfl, .inl (SqL.of BO13.h0), _, rfl, nds.length, aged, by rw [la]; rfl, by omega, by omega, fun pt H14 s14 fpt hpt => ?_⟩
  have C1014 : Chg [r, mk] H10 H14 := (((c11.mono fun x hx => by rw [List.mem_singleton.mp hx]; exact List.mem_cons_self ..).trans (.same s12)).trans (c13.mono fun x hx => by rw [List.mem_singleton.mp hx]; exact List.mem_cons_of_mem _ (List.mem_singleton_self _))).trans (.same s14)
  have Ein : ∀ x ∈ [r, mk], x ∈ mk :: FN nb as rs := fun x hx => by
    rcases List.mem_cons.mp hx with h | h
    · rw [h]; exact List.mem_cons_of_mem _ rFN
    · rw [List.mem_singleton.mp h]; exact List.mem_cons_self ..
  have mem14 := X10.mem.frame C1014 (fun x hx z => X.dj x (Ein x z) hx)
  have YN := mem14
  obtain ⟨td, md, L, Yb, _⟩ := YN
  obtain ⟨dx, hB⟩ := Yb.bk.hB
  have LM := X.lz.law
  have lms : m.ms.length ≤ 10000 := by
    have := nodup_le m.top LM.ok.mkn fun y hy => MM.dom_lt (LM.ok.mkdom hy)
    have h2 := LM.ok.le
    unfold MM.top at this; omega
  have kU : k ∈ List.range nds.length := List.mem_range.mpr kl
  have eG := LM.on.at_ k kU
  refine ⟨_, rfl, B, dx, _, rfl, hB, rfl, _, rfl, _, rfl, pt, _, _, .int ((fA aged k : Nat) : Int), rfl, rfl, SqL.of hpt, atI_nat (tbF_at kl), two, fun pa hpa => ?_⟩
  have s15 := same_new hpa (.tup [.str (Str.ofString "ref"), .int ((fA aged k : Nat) : Int)])
  have hpa15 : upd H14 pa (.tup [.str (Str.ofString "ref"), .int ((fA aged k : Nat) : Int)]) pa = some (.tup [.str (Str.ofString "ref"), .int ((fA aged k : Nat) : Int)]) := upd_same
  generalize upd H14 pa (.tup [.str (Str.ofString "ref"), .int ((fA aged k : Nat) : Int)]) = H15 at s15 hpa15 ⊢
  refine ⟨_, rfl, _, rfl, _, rfl, v, pt, e, fI aged, nds.length, rfl, (re13.mono (.same s14)).mono (.same s15), oek, s15 _ _ hpt, fun v2 H16 s16 r2 => ?_⟩
  rw [(fA_tells aged (· ∈ List.range nds.length)).d oe] at r2
  have S16 := s15.trans s16
  have er : (m.G (fA aged k)).row = mvs (fA aged) (gOf nds k).row := by rw [eG]; rfl
  obtain ⟨M9, hMb⟩ := row_bound (fA aged) [e]
  refine ⟨B, F, m, _, v2, fA aged k, i, M9, e.mv (fA aged), rfl, mem14.same S16, lms, ⟨pa, _, rfl, s16 _ _ hpa15⟩, LM.on.dom k kU, by rw [er, mvs_len]; exact hi, r2, Ent.mv_ok (N := nds.length) oek (hMb e (List.mem_singleton_self _)), fun F' H17 N => ?_⟩
  refine ⟨rfl, ?_⟩
  rw [decide_eq_true rfl]
  have en : (⟨(m.G (fA aged k)).kind, (m.G (fA aged k)).tag, (m.G (fA aged k)).row.set i (e.mv (fA aged))⟩ : Nd) = Nd.mv (fA aged) ⟨(gOf nds k).kind, (gOf nds k).tag, (gOf nds k).row.set i e⟩ := by
    rw [eG]; unfold Nd.mv mvs; rw [List.map_set]
  rw [en] at N
  have LZ2 := X.lz.put (n := ⟨(gOf nds k).kind, (gOf nds k).tag, (gOf nds k).row.set i e⟩) (es := [e]) kl nok.tag (by rw [List.length_set]; exact nok.len) (fun x hx => by
    rcases List.mem_or_eq_of_mem_set hx with h | rfl
    · exact LM.on.clo k kU x h
    · exact oe) (fun hy => by
      obtain ⟨c, hc, co⟩ := anyY_true.mp hy
      have hc : c ∈ tgs (mvs (fA aged) ((gOf nds k).row.set i e)) := hc
      rw [mvs_tgs] at hc
      obtain ⟨j, hj, rfl⟩ := List.mem_map.mp hc
      rcases tgs_set hj with h | h
      · exact .inr (anyY_true.mpr ⟨fA aged j, by rw [er, mvs_tgs]; exact List.mem_map_of_mem h, co⟩)
      · exact .inl (anyY_true.mpr ⟨fA aged j, mem_tgs (e := e.mv (fA aged)) (List.mem_singleton_self _) (by rw [Ent.mv_tg, h]; rfl), co⟩))
  have C17 : Chg ([r, mk] ++ F) H10 H17 := ((C1014.mono fun x hx => List.mem_append_left _ hx).trans (.same S16)).trans (N.chg.mono fun x hx => List.mem_append_right _ hx)
  have l16 : ∀ {x : Addr}, H16 x = none → H10 x = none := fun h => C1014.live _ (S16.free h)
  have nFx : ∀ x ∈ F', x ∈ F ∨ H10 x = none := fun x hx => (N.new x hx).imp_right l16
  have djn : ∀ x ∈ FN nb as rs, x ∉ F' := fun x hx z => (nFx x z).elim (X.dj x (List.mem_cons_of_mem _ hx)) (X10.bo.here x hx)
  refine q _ (up ⟨F', _, as, rs, _, _, X10.step C17 (fun x hx => ?_) N.mem (((BO13.same s14).same S16).frame N.chg (fun x hx => X.dj x (List.mem_cons_of_mem _ hx))) (N.chg.keep mk _ (X.dj mk (List.mem_cons_self ..)) (S16 _ _ (s14 _ _ h13))) LZ2 nFx (fun x hx => .inl hx) djn (fun c hc => ?_) (by rw [lN]; exact gln)⟩)
  · rcases List.mem_append.mp hx with h | h
    · exact .inl (Ein x h)
    · exact .inr (.inl h)
  · obtain ⟨c1, c2, c3, c4⟩ := X10.bag c hc
    exact c1.keep C17 (fun z => (List.mem_append.mp z).elim (fun h => c2 (Ein c h)) c3)
end
end D0
namespace D0
open PySem PySem.Spec PyProof.Rows L2 SX NumText
theorem sorted_eq : ∀ {a b : List Nat}, a.Pairwise (· < ·) → b.Pairwise (· < ·) → (∀ x, x ∈ a ↔ x ∈ b) → a = b
  | [], [], _, _, _ => rfl
  | [], y :: b, _, _, h => absurd ((h y).mpr (List.mem_cons_self ..)) (by simp)
  | x :: a, [], _, _, h => absurd ((h x).mp (List.mem_cons_self ..)) (by simp)
  | x :: a, y :: b, pa, pb, h => by
    obtain ⟨a1, a2⟩ := List.pairwise_cons.mp pa
    obtain ⟨b1, b2⟩ := List.pairwise_cons.mp pb
    have e : x = y := by
      rcases List.mem_cons.mp ((h x).mp (List.mem_cons_self ..)) with e | e
      · exact e
      rcases List.mem_cons.mp ((h y).mpr (List.mem_cons_self ..)) with e' | e'
      · exact e'.symm
      have := b1 x e
      have := a1 y e'
      omega
    subst e
    rw [sorted_eq a2 b2 fun z => ?_]
    constructor
    · intro hz
      rcases List.mem_cons.mp ((h z).mp (List.mem_cons_of_mem _ hz)) with e | e
      · have := a1 z hz; omega
      · exact e
    · intro hz
      rcases List.mem_cons.mp ((h z).mpr (List.mem_cons_of_mem _ hz)) with e | e
      · have := b1 z hz; omega
      · exact e
def dgP (d : Nat) : PyData := .tuple [.str (Str.ofString "dangling"), .int (d : Nat)]
theorem Rep.dg {K : PySem.W.Frag} {H : Hp} {v : V} {d : Nat} (h : Rep H v (dgD d)) : Dp K H v (dgP d) := by
  cases h with
  | tup h hl rs => cases rs with
    | cons r1 r2 => cases r1; cases r2 with
      | cons r3 r4 => cases r3; cases r4; exact .tup (SqT.of h) (.cons (by rw [← eDg]; exact .str _) (.cons (.int _) .nil))
theorem Reps.dg {K : PySem.W.Frag} {H : Hp} : ∀ {vs : List V} {ds : List Nat}, Reps H vs (ds.map dgD) → DpAll K H vs (ds.map dgP)
  | [], [], _ => .nil
  | _ :: _, _ :: _, .cons h t => .cons h.dg (Reps.dg t)
theorem dg_shaped (d : Nat) : SeqAt.shaped (dgP d) = true := by
  unfold SeqAt.shaped
  rw [Bool.and_eq_true]
  have e : PyData.canLay0 (dgP d) = PyData.canLay0 (dgP 0) := rfl
  exact ⟨by rw [e]; decide +kernel, decide_eq_true (by show 1 ≤ 64; decide)⟩
theorem dgs_can : ∀ ds : List Nat, PyData.canLayAll0 (ds.map dgP) = true
  | [] => rfl
  | d :: r => by
    show (PyData.canLay0 (dgP d) && PyData.canLayAll0 (r.map dgP)) = true
    rw [dgs_can r, SeqAt.canLay_of_shaped (dg_shaped d)]; rfl
theorem dgs_depth : ∀ ds : List Nat, PyData.depthAll (ds.map dgP) ≤ 1
  | [] => by decide
  | d :: r => by
    show max (PyData.depth (dgP d)) (PyData.depthAll (r.map dgP)) ≤ 1
    have := dgs_depth r
    have e : PyData.depth (dgP d) = 1 := rfl
    rw [e]; omega
theorem dgs_shaped (ds : List Nat) : SeqAt.shaped (.list (ds.map dgP)) = true := by
  unfold SeqAt.shaped
  rw [Bool.and_eq_true]
  refine ⟨dgs_can ds, decide_eq_true ?_⟩
  have := dgs_depth ds
  show PyData.depthAll (ds.map dgP) + 1 ≤ 64
  omega
theorem dg_any (ds : List Nat) (d : Nat) : ((ds.map dgP).any fun z => PyData.eqv z (dgP d)) = decide (d ∈ ds) := by
  have e : ∀ a b : Nat, PyData.eqv (dgP a) (dgP b) = decide (a = b) := fun a b => by
    show ((Str.ofString "dangling" == Str.ofString "dangling") && (((a : Int) == (b : Int)) && true)) = decide (a = b)
    rw [beq_self_eq_true, Bool.true_and, Bool.and_true, Bool.eq_iff_iff]
    simp only [beq_iff_eq, decide_eq_true_eq]
    omega
  induction ds with
  | nil => rfl
  | cons a r ih =>
    rw [List.map_cons, List.any_cons, ih, e, Bool.eq_iff_iff]
    simp only [Bool.or_eq_true, decide_eq_true_eq, List.mem_cons]
    exact or_congr eq_comm Iff.rfl
theorem deps_dg : ∀ ds : List Nat, deps (ds.map dgD) ≤ 1
  | [] => by simp [deps]
  | d :: r => by
    have := deps_dg r
    have d1 : dep (dgD d) = 1 := by unfold dgD; rw [dep_tup]; simp [D0.deps, D0.dep]
    rw [List.map_cons]; unfold deps; rw [d1]; omega
theorem rep_dg {H : Hp} {a : Addr} {d : Nat} (h : H a = some (.tup [.str (Str.ofString "dangling"), .int (d : Nat)])) : Rep H (.ref a) (dgD d) := by
  rw [eDg] at h
  exact Rep.tupOf (ds := [.str wDg, .int (d : Nat)]) h (.cons (.str _) (.cons (.int _) .nil)) (by show 2 ≤ 2000; decide)
theorem Stp.of {b : Addr} {H H' : Hp} (h : Bag H b) (h' : Bag H' b) (c : Chg [b] H H') : Stp b H H' := ⟨h, h', fun a o n e => c.keep a o (by simpa using n) e⟩
end D0
namespace D0
open PySem PySem.Spec PyProof.Rows L2 SX NumText
def strayE (i d : Nat) : Ent := if i % 3 = 0 then .pl (.ref d) else if i % 3 = 1 then .pl (.hand d) else .pend 4 (.hand d)
theorem strayE_tg (i d : Nat) : (strayE i d).tg = some d := by
  unfold strayE
  split
  · rfl
  · split
    · rfl
    · rfl
theorem room65 {k : Nat} {A : Around} (r : Room k A) : A.units + 65 < cLine := by have := r.un; omega
def rLenS (K : PySem.W.Frag) : List V → Hp → VK → Prop := fun xs H Q => ∃ p ys, xs = [V.ref p] ∧ (SqL K H p ys ∨ SqT K H p ys) ∧ Q (V.int (ys.length : Nat)) H
def strayL (ps : List Nat) (i : Nat) : List Ent := (List.range i).map fun j => strayE j (ps.getD j 0)
def spStrays (K : PySem.W.Frag) (C CT : Addr) : Sp := fun vs H Q _ => ∃ (b B nb : Addr) (aged : Nat) (F : List Addr) (m : MM) (as rs : List Addr) (nds : List Nd) (M : Nat → Bool), vs = [.ref b, .ref B, .ref nb, .int aged] ∧ Bag H b ∧ Mem K C CT H B F m ∧ BoA H nb as rs nds ∧ LZ m nds aged M ∧ b ∉ F ∧ b ∉ FN nb as rs ∧ nds.length ≤ 100 ∧ 1 ≤ nds.length ∧
  ∀ H', Stp b H H' → Q (.bl true) H'
section
variable {P : Program} {w : World} {K : PySem.W.Frag} {mg : Str → Option Value} {base : Heap} {C CT : Addr}
set_option maxHeartbeats 4000000 in
theorem ok__law_strays (T : Txt K w mg) (BK : BM P w K mg base C CT) (O : OkD P w K mg base CX0 1 "_law_take" p__law_take spTake) (Ot : OkD P w K mg base CX0 1 "_law_table" p__law_table spTableZ) (Oe : OkD P w K mg base CX0 10 "_law_same" p__law_same (spSame K 9)) : OkD P w K mg base CX0 11 "_law_strays" p__law_strays (spStrays K C CT) := by
  refine T.g__law_strays.ok sc__law_strays (fun vs H Q E h => ?_) (fun f0 cdv A0 outer s H vs Q E hr h => ?_)
  · obtain ⟨b, B, nb, aged, F, m, as, rs, nds, M, rfl, _⟩ := h; rfl
  obtain ⟨b, B, nb, aged, F, m, as, rs, nds, M, rfl, hb, X, bo, lz, nbF, nbN, lnd, pnd, q⟩ := h
  refine ⟨_, (pss_cons (ps_set (i := 4) sc__law_strays.nd rfl (.inr rfl) (pcall Ot hr (pa_cons (pe_callB call_len_seq (by rfl) T.z_len PySem.boot_len (pa_cons (pv 2) pa_nil)) (pa_cons (pv 3) pa_nil))))
      (pss_cons (ps_setLc (i := 6) (own := [("k", 5)]) (g := gName 5) (tt := tYes) rfl sc__law_strays.nd rfl rfl rfl (pi_range1 rfl T.z_range (pa_cons (pcall O hr (pa_cons (pv 0) (pa_cons pe_int pa_nil))) pa_nil)) (blkOk_by (own := [("k", 5)]) (N := n__law_strays) (sc := defScope s__law_strays) (by decide +kernel)) (fun _ _ _ _ _ => (pg_name (i := 5) sc__law_strays.nd rfl (Or.inl rfl))) (fun _ _ _ _ _ => pts_nil) (fun _ _ _ _ _ => (pe_tup (pa_cons pe_str (pa_cons (pe_ix (show IxR _ (rIxL K) from ix_list) (pv 4) (pcall O hr (pa_cons (pv 0) (pa_cons (pe_callB (show CallR _ _ (rLenS K) from call_len_seq) (by rfl) T.z_len PySem.boot_len (pa_cons (pv 4) pa_nil)) pa_nil))) (fun _ _ => rfl)) pa_nil)))))
      (pss_cons (ps_if (pt_not (pt_val (pcall Oe hr (pa_cons (pmethE BK.faults BK.cl hr pass0 (pv 1) (pa_cons (pe_callTy call_list_of (by rfl) T.z_list PyProof.Rows.boot_list (pa_cons (pv 6) pa_nil)) pa_nil)) (pa_cons (pe_lst pa_nil) pa_nil))))) (pss_one (ps_ret pe_bl)) pss_nil)
      (pss_cons (ps_set (i := 7) sc__law_strays.nd rfl (.inr rfl) (pe_tup (pa_cons (pe_op op_mul pe_int (pv 3)) (pa_cons (pe_op op_add (pe_op op_mul pe_int (pe_op op_sub (pe_callB call_len_seq (by rfl) T.z_len PySem.boot_len (pa_cons (pv 2) pa_nil)) (pv 3))) pe_int) pa_nil))))
      (pss_cons (ps_setLc (i := 8) (own := [("k", 5)]) (g := gName 5) (tt := tYes) rfl sc__law_strays.nd rfl rfl rfl (pi_range1 rfl T.z_range (pa_cons (pcall O hr (pa_cons (pv 0) (pa_cons pe_int pa_nil))) pa_nil)) (blkOk_by (own := [("k", 5)]) (N := n__law_strays) (sc := defScope s__law_strays) (by decide +kernel)) (fun _ _ _ _ _ => (pg_name (i := 5) sc__law_strays.nd rfl (Or.inl rfl))) (fun _ _ _ _ _ => pts_nil) (fun _ _ _ _ _ => (pe_op op_add (pe_ix (show IxR _ (rIxT K) from ix_tup) (pv 7) (pcall O hr (pa_cons (pv 0) (pa_cons pe_int pa_nil))) (fun _ _ => rfl)) (pe_op op_mul pe_int (pcall O hr (pa_cons (pv 0) (pa_cons pe_int pa_nil)))))))
      (pss_cons (ps_for PassesOwn.never rfl (pi_range1 rfl T.z_range (pa_cons (pe_callB call_len_seq (by rfl) T.z_len PySem.boot_len (pa_cons (pv 8) pa_nil)) pa_nil)) (pg_name (i := 5) sc__law_strays.nd rfl (Or.inl rfl)) (pss_cons (ps_set (i := 9) sc__law_strays.nd rfl (.inl rfl) (pe_tup (pa_cons (pe_tup (pa_cons pe_str (pa_cons (pe_ix ix_list (pv 8) (pv 5) (fun _ _ => rfl)) pa_nil))) (pa_cons (pe_tup (pa_cons pe_str (pa_cons (pe_ix ix_list (pv 8) (pv 5) (fun _ _ => rfl)) pa_nil))) (pa_cons (pe_tup (pa_cons pe_str (pa_cons pe_int (pa_cons (pe_tup (pa_cons pe_str (pa_cons (pe_ix ix_list (pv 8) (pv 5) (fun _ _ => rfl)) pa_nil))) pa_nil)))) pa_nil)))))
      (pss_one (ps_expr (pe_bm PySem.F.plainAttrs_list PySem.F.slot_list_append PySem.F.type_list_append mt_append (pv 6) (pa_cons (pe_ix ix_tup (pv 9) (pe_op op_mod (pe_callTy call_int1 (by rfl) T.z_int PyProof.Rows.boot_int (pa_cons (pv 5) pa_nil)) pe_int) (fun _ _ => rfl)) pa_nil))))))
      (pss_cons (ps_set (i := 10) sc__law_strays.nd rfl (.inl rfl) (pe_lst pa_nil))
      (pss_cons (ps_for PassesOwn.never rfl (pi_list (pe_callB cr_sortedI (by rfl) T.z_sorted (by decide +kernel) (pa_cons (pv 8) pa_nil))) (pg_name (i := 11) sc__law_strays.nd rfl (Or.inl rfl)) (pss_one (ps_if (pt_cmpR (op_notInD (room65 hr)) (pe_tup (pa_cons pe_str (pa_cons (pv 11) pa_nil))) (pv 10) (by rfl)) (pss_one (ps_expr (pe_bm PySem.F.plainAttrs_list PySem.F.slot_list_append PySem.F.type_list_append mt_append (pv 10) (pa_cons (pe_tup (pa_cons pe_str (pa_cons (pv 11) pa_nil))) pa_nil)))) pss_nil)))
      (pss_cons (ps_set (i := 12) sc__law_strays.nd rfl (.inl rfl) (pe_callTy call_list_of (by rfl) T.z_list PyProof.Rows.boot_list (pa_cons (pv 6) pa_nil)))
      (pss_cons (ps_set (i := 13) sc__law_strays.nd rfl (.inl rfl) (pmethE BK.faults BK.cl hr pass0 (pv 1) (pa_cons (pv 12) pa_nil)))
      (pss_cons (ps_if (PW.pt (pw_or (pt_not (pt_val (pcall Oe hr (pa_cons (pv 13) (pa_cons (pv 10) pa_nil))))) (pw_or1 (pt_not (pt_val (pcall Oe hr (pa_cons (pv 12) (pa_cons (pv 6) pa_nil)))))))) (pss_one (ps_ret pe_bl)) pss_nil)
      (pss_cons (ps_expr (pe_bm PySem.F.plainAttrs_list PySem.F.slot_list_append PySem.F.type_list_append mt_append (pv 13) (pa_cons (pe_tup (pa_cons pe_str (pa_cons (pe_un un_neg pe_int) pa_nil))) pa_nil)))
      (pss_one (ps_ret (pcall Oe hr (pa_cons (pmethE BK.faults BK.cl hr pass0 (pv 1) (pa_cons (pv 12) pa_nil)) (pa_cons (pv 10) pa_nil))))))))))))))))), ?_⟩
  have lim := lim4
  have two : 2 ≤ sizeLine := by decide
  have hyn := lz.yn
  have hon := lz.on
  have la : (as.map V.ref).length = nds.length := by rw [List.length_map, bo.la]
  have okd := lz.law.ok
  have mrow : ∀ x, m.dom x → ∀ e ∈ (m.G x).row, e.ok (m.top + 100000) := fun x dx e he => (okd.clo x dx e he).ok fun k dk => by have := MM.dom_lt dk; omega
  have nodg : ∀ x, m.dom x → ∀ d ∈ tgs (m.G x).row, m.dom d := fun x dx d hd => by
    obtain ⟨e, he, q⟩ := of_tgs hd
    exact (okd.clo x dx e he).tg q
  refine ⟨_, rfl, nb, _, rfl, .inl (SqL.of bo.h0), _, rfl, nds.length, aged, by rw [la]; rfl, by omega, by omega, fun tb H1 s1 ftb htb => ?_⟩
  have y1 : Stp b H H1 := .same hb s1
  have ntb : tb ≠ b := hb.ne ftb
  refine ⟨_, rfl, b, 4, rfl, y1.b1, by decide, by decide, fun n1 H2 n10 n11 x2 => ?_⟩
  obtain ⟨j1, rfl⟩ : ∃ j : Nat, n1 = (j : Int) := ⟨n1.toNat, by omega⟩
  have y2 := y1.trans x2
  have htb2 := x2.keep tb _ ntb htb
  refine ⟨(j1 : Int), rfl, by omega, by omega, fun D1 hD1 => ?_⟩
  have nD1 : D1 ≠ b := y2.b1.ne hD1
  refine lc_it walk_range (fun i H' => Stp b H2 H' ∧ ∃ vs es, H' D1 = some (.lst vs) ∧ Reps H' vs (rowD ixD es) ∧ (∀ e ∈ es, e.okP m.dom) ∧ es.length = i) ⟨(Stp.refl y2.b1).new hD1, [], [], upd_same, .nil, (fun _ h => by cases h), rfl⟩ (fun _ _ _ _ => trivial) ?_ ?_
  · rintro i x H3 H4 hi ⟨x3, vs, es, h3, r3, o3, l3⟩ ⟨rfl, rfl⟩
    have hi' : i < j1 := by simpa using hi
    refine ⟨rfl, iteT (B := True) (iteT ?_)⟩
    have htb3 := x3.keep tb _ ntb htb2
    refine ⟨_, rfl, _, rfl, _, rfl, tb, _, rfl, .inl (SqL.of htb3), b, (nds.length : Nat), by rw [tbF_len]; rfl, x3.b1, by omega, by omega, fun r H5 r0 r1 x5 => ?_⟩
    obtain ⟨k, rfl⟩ : ∃ j : Nat, r = (j : Int) := ⟨r.toNat, by omega⟩
    have kl : k < nds.length := by omega
    refine ⟨tb, _, _, .int ((fA aged k : Nat) : Int), rfl, rfl, SqL.of (x5.keep tb _ ntb htb3), atI_nat (tbF_at kl), two, fun p hp => ?_⟩
    have x6 := (x3.trans x5).new (o := HO.tup [.str (Str.ofString "ref"), .int ((fA aged k : Nat) : Int)]) hp
    have h5 := x5.keep _ _ nD1 h3
    have h6 : upd H5 p (.tup [.str (Str.ofString "ref"), .int ((fA aged k : Nat) : Int)]) D1 = some (.lst vs) := by rw [upd_ne (ne_of_none h5 hp)]; exact h5
    have vl : vs.length = i := by rw [r3.len, rowD_len]; exact l3
    refine ⟨_, h6, by omega, x6.grow hD1 nD1, _, es ++ [.pl (.ref (fA aged k))], upd_same, ?_, fun e he => ?_, by simp [l3]⟩
    · rw [rowD_app]
      exact (r3.mono ((x5.tups.trans (Tups.new hp)).trans (.lst h6))).app (.one (Rep.mono (.lst h6) (rep_rf upd_same)))
    · rcases List.mem_append.mp he with h | h
      · exact o3 e h
      · rw [List.mem_singleton.mp h]; exact lz.law.on.dom k (List.mem_range.mpr kl)
  rintro H3 ⟨x3, vs1, es1, h3, r3, o3, l3⟩
  have l3 : es1.length = j1 := by simpa using l3
  have y3 := y2.trans x3
  have fD1 : H D1 = none := y2.free hD1
  have memS : ∀ {H'}, Stp b H H' → Mem K C CT H' B F m := fun y => X.frame y.chg (fun a ha z => nbF (by rw [← List.mem_singleton.mp z]; exact ha))
  have boS : ∀ {H'}, Stp b H H' → BoA H' nb as rs nds := fun y => bo.frame y.chg (fun a ha z => nbN (by rw [← List.mem_singleton.mp z]; exact ha))
  have X3 := memS y3
  have XN := X3
  obtain ⟨td, md, L, Y, _⟩ := XN
  obtain ⟨dx, hB⟩ := Y.bk.hB
  refine ⟨_, rfl, B, dx, _, rfl, hB, rfl, _, rfl, D1, vs1, rfl, .inl (SqL.of h3), fun p4 hp4 => ?_⟩
  have s4 := same_new hp4 (.lst vs1)
  have h44 : upd H3 p4 (.lst vs1) p4 = some (.lst vs1) := upd_same
  generalize upd H3 p4 (.lst vs1) = H4 at s4 h44 ⊢
  refine ⟨B, F, m, p4, vs1, es1, m.top + 100000, rfl, X3.same s4, mrow, (fun x dx => (okd.nd x dx).2), okd.mky, okd.le, h44, r3.mono (.same s4), (fun e he => (o3 e he).ok fun k dk => by have := MM.dom_lt dk; omega), by omega, fun p5 us5 ds5 H5 s5 fp5 hp5 r5 _ mem5 => ?_⟩
  have d0 : ds5 = [] := by
    cases ds5 with
    | nil => rfl
    | cons d r =>
      exfalso
      obtain ⟨n, h⟩ := (mem5 d).mp (List.mem_cons_self ..)
      rcases h with h | ⟨x, dx, h⟩
      · obtain ⟨e, he, q⟩ := of_tgs h
        exact n ((o3 e he).tg q)
      · exact n (nodg x dx d h)
  rw [d0] at r5
  have u0 : us5 = [] := by
    have := r5.len
    cases us5 with
    | nil => rfl
    | cons => simp at this
  rw [u0] at hp5
  refine ⟨Nat.zero_le _, fun p6 hp6 => ?_⟩
  have s6 := same_new hp6 (.lst [])
  refine ⟨_, _, rfl, ⟨_, rfl, iteF ?_⟩, .inl (same_lst (ds := []) (s6 _ _ hp5) upd_same .nil .nil (by decide) (by decide))⟩
  have S36 := s4.trans (s5.trans s6)
  generalize upd H5 p6 (.lst []) = H6 at S36 ⊢
  have y6 := y3.trans (.same y3.b1 S36)
  have h36 := S36 _ _ h3
  have r36 := r3.mono (.same S36)
  have bo6 := boS y6
  -- where nothing stands
  refine ⟨_, rfl, _, _, rfl, rfl, .inl ⟨by omega, by omega⟩, _, rfl, nb, _, rfl, .inl (SqL.of bo6.h0), _, rfl, _, _, rfl, rfl, _, _, rfl, rfl, .inl ⟨by omega, by omega⟩, _, _, rfl, rfl, two, fun pf hpf => ?_⟩
  have s7 := same_new hpf (.tup [.int (2 * (aged : Int)), .int (2 * (((as.map V.ref).length : Int) - (aged : Int)) + 1)])
  have hpf7 : upd H6 pf (.tup [.int (2 * (aged : Int)), .int (2 * (((as.map V.ref).length : Int) - (aged : Int)) + 1)]) pf = some (.tup [.int (2 * (aged : Int)), .int (2 * (((as.map V.ref).length : Int) - (aged : Int)) + 1)]) := upd_same
  generalize upd H6 pf (.tup [.int (2 * (aged : Int)), .int (2 * (((as.map V.ref).length : Int) - (aged : Int)) + 1)]) = H7 at s7 hpf7 ⊢
  have y7 := y6.trans (.same y6.b1 s7)
  have h37 := s7 _ _ h36
  have r37 := r36.mono (.same s7)
  refine ⟨_, rfl, b, 5, rfl, y7.b1, by decide, by decide, fun n2 H8 n20 n21 x8 => ?_⟩
  obtain ⟨j2, rfl⟩ : ∃ j : Nat, n2 = (j : Int) := ⟨n2.toNat, by omega⟩
  have y8 := y7.trans x8
  have hpf8 := x8.tups pf _ hpf7
  refine ⟨(j2 : Int), rfl, by omega, by omega, fun D2 hD2 => ?_⟩
  have nD2 : D2 ≠ b := y8.b1.ne hD2
  refine lc_it walk_range (fun i H' => Stp b H8 H' ∧ ∃ ps : List Nat, H' D2 = some (.lst (nats ps)) ∧ ps.length = i ∧ ∀ p ∈ ps, ¬ m.dom p ∧ p < m.top + 100000) ⟨(Stp.refl y8.b1).new hD2, [], upd_same, rfl, (fun _ h => by cases h)⟩ (fun _ _ _ _ => trivial) ?_ ?_
  · rintro i x H9 H10 hi ⟨x9, ps, h9, l9, p9⟩ ⟨rfl, rfl⟩
    have hi' : i < j2 := by simpa using hi
    refine ⟨rfl, iteT (B := True) (iteT ?_)⟩
    refine ⟨_, rfl, _, rfl, b, 2, rfl, x9.b1, by decide, by decide, fun r H11 r0 r1 x11 => ?_⟩
    obtain ⟨fv, efv, hfv, dfv⟩ : ∃ fv : Nat, atI [V.int (2 * (aged : Int)), .int (2 * (((as.map V.ref).length : Int) - (aged : Int)) + 1)] r = some (.int (fv : Nat)) ∧ (∀ t : Nat, t < 4 → ¬ m.dom (fv + 2 * t)) ∧ fv ≤ 1000 := by
      rcases (by omega : r = 0 ∨ r = 1) with rfl | rfl
      · refine ⟨2 * aged, ?_, fun t ht => by unfold MM.dom; omega, by omega⟩
        show some (V.int (2 * (aged : Int))) = some (V.int ((2 * aged : Nat) : Int)); congr 2
      · refine ⟨2 * m.yn + 1, ?_, fun t ht => by unfold MM.dom; omega, by omega⟩
        show some (V.int (2 * (((as.map V.ref).length : Int) - (aged : Int)) + 1)) = some (V.int ((2 * m.yn + 1 : Nat) : Int))
        rw [la]; congr 2; omega
    refine ⟨pf, _, _, .int (fv : Nat), rfl, rfl, SqT.of (x11.tups pf _ (x9.tups pf _ hpf8)), efv, ?_⟩
    refine ⟨_, rfl, b, 4, rfl, x11.b1, by decide, by decide, fun r2 H12 r20 r21 x12 => ?_⟩
    obtain ⟨t2, rfl⟩ : ∃ j : Nat, r2 = (j : Int) := ⟨r2.toNat, by omega⟩
    have x912 := x11.trans x12
    have h12 := x912.keep D2 _ nD2 h9
    refine ⟨_, _, rfl, rfl, .inl ⟨by omega, by omega⟩, _, _, rfl, rfl, _, h12, by rw [nats_len]; omega, (x9.trans x912).grow hD2 nD2, ps ++ [fv + 2 * t2], ?_, by simp [l9], fun p hp => ?_⟩
    · rw [upd_same, nats_app]
      show some (HO.lst (_ ++ [V.int ((fv : Int) + 2 * (t2 : Int))])) = some (HO.lst (_ ++ [V.int ((fv + 2 * t2 : Nat) : Int)]))
      rw [show ((fv : Int) + 2 * (t2 : Int)) = ((fv + 2 * t2 : Nat) : Int) by omega]
    · rcases List.mem_append.mp hp with h | h
      · exact p9 p h
      · rw [List.mem_singleton.mp h]; exact ⟨hfv t2 (by omega), by omega⟩
  rintro H9 ⟨x9, ps, h9, l9, p9⟩
  have l9 : ps.length = j2 := by simpa using l9
  have y9 := y8.trans x9
  have x79 := x8.trans x9
  have h39 := x79.keep D1 _ nD1 h37
  have r39 := r37.mono x79.tups
  have n12 : D1 ≠ D2 := fun z => by rw [← z, x8.keep D1 _ nD1 h37] at hD2; cases hD2
  -- the strays put behind the others
  refine ⟨_, rfl, D2, _, rfl, .inl (SqL.of h9), (ps.length : Int), by rw [nats_len], by omega, by omega, ?_⟩
  refine for_range (lo := 0) (n := ps.length) (fun i σ H' => ∃ o5 o9, σ = [some (.ref b), some (.ref B), some (.ref nb), some (.int (aged : Nat)), some (.ref tb), o5, some (.ref D1), some (.ref pf), some (.ref D2), o9, none, none, none, none] ∧ Chg [D1] H9 H' ∧ ∃ vs, H' D1 = some (.lst vs) ∧ Reps H' vs (rowD ixD (es1 ++ strayL ps i))) ⟨_, none, rfl, .refl, vs1, h39, by simp only [strayL, List.range_zero, List.map_nil, List.append_nil]; exact r39⟩ ?_ ?_
  · rintro i σ H10 hi ⟨o5, o9, rfl, c10, vs, h10, r10⟩
    have zi : (0 + (i : Int)) = (i : Int) := Int.zero_add _
    have h910 := c10.keep D2 _ (by simpa using (Ne.symm n12)) h9
    have at1 : atI (nats ps) (0 + (i : Int)) = some (.int (ps[i] : Nat)) := by rw [zi]; exact nats_at hi
    refine ⟨_, rfl, _, rfl, D2, _, _, _, rfl, rfl, SqL.of h910, at1, two, fun t1 ht1 => ?_⟩
    have s1 := same_new ht1 (.tup [.str (Str.ofString "ref"), .int (ps[i] : Nat)])
    have e1 : upd H10 t1 (.tup [.str (Str.ofString "ref"), .int (ps[i] : Nat)]) t1 = some (.tup [.str (Str.ofString "ref"), .int (ps[i] : Nat)]) := upd_same
    generalize upd H10 t1 (.tup [.str (Str.ofString "ref"), .int (ps[i] : Nat)]) = Ha at s1 e1 ⊢
    refine ⟨_, rfl, _, rfl, D2, _, _, _, rfl, rfl, SqL.of (s1 _ _ h910), at1, two, fun t2 ht2 => ?_⟩
    have s2 := same_new ht2 (.tup [.str (Str.ofString "handled"), .int (ps[i] : Nat)])
    have e2 : upd Ha t2 (.tup [.str (Str.ofString "handled"), .int (ps[i] : Nat)]) t2 = some (.tup [.str (Str.ofString "handled"), .int (ps[i] : Nat)]) := upd_same
    generalize upd Ha t2 (.tup [.str (Str.ofString "handled"), .int (ps[i] : Nat)]) = Hb at s2 e2 ⊢
    refine ⟨_, rfl, _, rfl, D2, _, _, _, rfl, rfl, SqL.of (s2 _ _ (s1 _ _ h910)), at1, two, fun t3 ht3 => ?_⟩
    have s3 := same_new ht3 (.tup [.str (Str.ofString "handled"), .int (ps[i] : Nat)])
    have e3 : upd Hb t3 (.tup [.str (Str.ofString "handled"), .int (ps[i] : Nat)]) t3 = some (.tup [.str (Str.ofString "handled"), .int (ps[i] : Nat)]) := upd_same
    generalize upd Hb t3 (.tup [.str (Str.ofString "handled"), .int (ps[i] : Nat)]) = Hc at s3 e3 ⊢
    refine ⟨by show 3 ≤ sizeLine; omega, fun t4 ht4 => ?_⟩
    have s4 := same_new ht4 (.tup [.str (Str.ofString "pending"), .int 4, .ref t3])
    have e4 : upd Hc t4 (.tup [.str (Str.ofString "pending"), .int 4, .ref t3]) t4 = some (.tup [.str (Str.ofString "pending"), .int 4, .ref t3]) := upd_same
    generalize upd Hc t4 (.tup [.str (Str.ofString "pending"), .int 4, .ref t3]) = Hd at s4 e4 ⊢
    refine ⟨by show 3 ≤ sizeLine; omega, fun t5 ht5 => ?_⟩
    have s5 := same_new ht5 (.tup [.ref t1, .ref t2, .ref t4])
    have e5 : upd Hd t5 (.tup [.ref t1, .ref t2, .ref t4]) t5 = some (.tup [.ref t1, .ref t2, .ref t4]) := upd_same
    generalize upd Hd t5 (.tup [.ref t1, .ref t2, .ref t4]) = He at s5 e5 ⊢
    have S := s1.trans (s2.trans (s3.trans (s4.trans s5)))
    have hE := S _ _ h10
    have rE := r10.mono (.same S)
    obtain ⟨v, ev, rv⟩ : ∃ v, atI [V.ref t1, .ref t2, .ref t4] ((i : Int) % 3) = some v ∧ Rep He v ((strayE i ps[i]).d ixD) := by
      have q3 := (s5 _ _ (s4 _ _ e3))
      unfold strayE
      rcases (by omega : i % 3 = 0 ∨ i % 3 = 1 ∨ i % 3 = 2) with m3 | m3 | m3
      · rw [if_pos m3, show ((i : Int) % 3) = 0 by omega]
        exact ⟨_, rfl, D0.rep_ref (f := ixD) ((s2.trans (s3.trans (s4.trans s5))) _ _ e1) rfl⟩
      · rw [if_neg (by omega), if_pos m3, show ((i : Int) % 3) = 1 by omega]
        exact ⟨_, rfl, D0.rep_hand (f := ixD) ((s3.trans (s4.trans s5)) _ _ e2) rfl⟩
      · rw [if_neg (by omega), if_neg (by omega), show ((i : Int) % 3) = 2 by omega]
        exact ⟨_, rfl, D0.rep_pend (f := ixD) (s5 _ _ e4) (D0.rep_hand (f := ixD) q3 rfl)⟩
    refine ⟨_, rfl, .inl ⟨rfl, _, SqL.of hE⟩, _, rfl, _, rfl, .inl ⟨_, rfl, _, _, rfl, rfl, (by show (0 : Int) < _; decide), t5, _, _, v, rfl, rfl, SqT.of e5, by rw [zi]; exact ev, ?_⟩⟩
    have lv : vs.length = es1.length + i := by rw [r10.len, rowD_len]; simp [strayL]
    refine ⟨D1, _, _, rfl, rfl, hE, by omega, ?_⟩
    have cE : Chg [D1] He (upd He D1 (.lst (vs ++ [v]))) := .upd hE (fun _ z => by cases z) (List.mem_singleton_self _)
    refine ⟨_, _, rfl, (c10.trans (.same S)).trans cE, _, upd_same, ?_⟩
    have es : strayL ps (i + 1) = strayL ps i ++ [strayE i ps[i]] := by
      unfold strayL
      rw [List.range_succ, List.map_append]
      show _ ++ [strayE i (ps.getD i 0)] = _
      rw [List.getD_eq_getElem?_getD, List.getElem?_eq_getElem hi]; rfl
    rw [es, ← List.append_assoc, rowD_app]
    exact (rE.mono cE.tups).app (.one (rv.mono cE.tups))
  rintro σ H10 ⟨o5, o9, rfl, c10, vs, h10, r10⟩
  have h910 := c10.keep D2 _ (by simpa using (Ne.symm n12)) h9
  -- what is due
  refine ⟨Nat.zero_le _, fun du hdu => ?_⟩
  have s11 := same_new hdu (.lst [])
  have hd11 : upd H10 du (.lst []) du = some (.lst []) := upd_same
  generalize upd H10 du (.lst []) = H11 at s11 hd11 ⊢
  refine ⟨_, rfl, D2, ps.map fun k => ((k : Nat) : Int), rfl, by rw [List.map_map]; exact SqL.of (s11 _ _ h910), fun ns p12 perm srt hp12 => ?_⟩
  have s12 := same_new hp12 (.lst (ns.map V.int))
  have h12 : upd H11 p12 (.lst (ns.map V.int)) p12 = some (.lst (ns.map V.int)) := upd_same
  generalize upd H11 p12 (.lst (ns.map V.int)) = H12 at s12 h12 ⊢
  have hd12 := s12 _ _ hd11
  have inPs : ∀ c, c ∈ ns ↔ ∃ p ∈ ps, c = ((p : Nat) : Int) := fun c => by
    rw [perm.mem_iff, List.mem_map]
    exact ⟨fun ⟨p, h, e⟩ => ⟨p, h, e.symm⟩, fun ⟨p, h, e⟩ => ⟨p, h, e.symm⟩⟩
  have lns : ns.length = ps.length := by rw [perm.length_eq, List.length_map]
  refine ⟨p12, rfl, ⟨_, SqL.of h12⟩, ?_⟩
  have ndu12 : p12 ≠ du := fun z => by rw [z, hd11] at hp12; cases hp12
  refine for_it (walk_list (xs := ns.map V.int)) (fun i σ H' => ∃ o11, σ = [some (.ref b), some (.ref B), some (.ref nb), some (.int (aged : Nat)), some (.ref tb), o5, some (.ref D1), some (.ref pf), some (.ref D2), o9, some (.ref du), o11, none, none] ∧ Chg [du] H12 H' ∧ ∃ vs ds, H' du = some (.lst vs) ∧ Reps H' vs (ds.map dgD) ∧ ds.Pairwise (· < ·) ∧ ds.length ≤ i ∧ ∀ d : Nat, d ∈ ds ↔ (d : Int) ∈ ns.take i)
    ⟨none, rfl, .refl, [], [], hd12, .nil, .nil, Nat.le_refl _, fun d => by simp⟩ (fun i σ H' _ h => by
      obtain ⟨_, _, c, _⟩ := h
      exact SqL.of (c.keep p12 _ (by simpa using ndu12) h12)) ?_ ?_
  · rintro i x σ H13 H14 hi ⟨o11, rfl, c13, us, ds, h13, r13, w13, l13, m13⟩ ⟨rfl, hx⟩
    rw [List.length_map] at hi
    rw [List.getElem?_map, List.getElem?_eq_getElem hi] at hx
    obtain rfl := Option.some.inj hx
    obtain ⟨p, hp, ep⟩ := (inPs _).mp (List.getElem_mem hi)
    have nx : ns.take (i + 1) = ns.take i ++ [(p : Int)] := by rw [take_next hi, ep]
    rw [ep]
    refine ⟨_, rfl, two, fun t ht => ?_⟩
    have s15 := same_new ht (.tup [.str (Str.ofString "dangling"), .int (p : Nat)])
    have e15 : upd H14 t (.tup [.str (Str.ofString "dangling"), .int (p : Nat)]) t = some (.tup [.str (Str.ofString "dangling"), .int (p : Nat)]) := upd_same
    generalize upd H14 t (.tup [.str (Str.ofString "dangling"), .int (p : Nat)]) = H15 at s15 e15 ⊢
    have h15 := s15 _ _ h13
    have r15 := r13.mono (.same s15)
    have lu : us.length = ds.length := by rw [r13.len, List.length_map]
    refine ⟨_, rfl, dgP p, ds.map dgP, (rep_dg e15).dg, .lst (SqL.of h15) (Reps.dg r15), dg_shaped p, dgs_shaped ds, _, rfl, ?_⟩
    rw [dg_any]
    by_cases c : p ∈ ds
    · rw [decide_eq_true c]
      refine iteF ⟨_, rfl, c13.trans (.same s15), us, ds, h15, r15, w13, by omega, fun d => ?_⟩
      rw [m13 d, nx, List.mem_append]
      refine ⟨.inl, fun h => h.elim id fun h => ?_⟩
      have : d = p := by have := List.mem_singleton.mp h; omega
      rw [this]; exact (m13 p).mp c
    · rw [decide_eq_false c]
      refine iteT ⟨_, rfl, .inl ⟨rfl, _, SqL.of h15⟩, _, rfl, two, fun t2 ht2 => ?_⟩
      have s16 := same_new ht2 (.tup [.str (Str.ofString "dangling"), .int (p : Nat)])
      have e16 : upd H15 t2 (.tup [.str (Str.ofString "dangling"), .int (p : Nat)]) t2 = some (.tup [.str (Str.ofString "dangling"), .int (p : Nat)]) := upd_same
      generalize upd H15 t2 (.tup [.str (Str.ofString "dangling"), .int (p : Nat)]) = H16 at s16 e16 ⊢
      have h16 := s16 _ _ h15
      refine ⟨du, _, _, rfl, rfl, h16, by omega, ?_⟩
      have cE : Chg [du] H16 (upd H16 du (.lst (us ++ [.ref t2]))) := .upd h16 (fun _ z => by cases z) (List.mem_singleton_self _)
      refine ⟨_, rfl, ((c13.trans (.same s15)).trans (.same s16)).trans cE, us ++ [.ref t2], ds ++ [p], upd_same, ?_, ?_, by simp; omega, fun d => ?_⟩
      · rw [List.map_append]
        exact ((r15.mono (.same s16)).mono cE.tups).app (.one ((rep_dg e16).mono cE.tups))
      · refine List.pairwise_append.mpr ⟨w13, List.pairwise_singleton _ _, fun d hd x hx => ?_⟩
        rw [List.mem_singleton.mp hx]
        obtain ⟨j, hj, e⟩ := List.getElem_of_mem ((m13 d).mp hd)
        have hj' : j < i := by rw [List.length_take] at hj; omega
        rw [List.getElem_take] at e
        have := List.pairwise_iff_getElem.mp srt j i (by omega) hi hj'
        have ne : d ≠ p := fun z => c (by rw [← z]; exact hd)
        omega
      · rw [List.mem_append, m13 d, nx, List.mem_append]
        refine or_congr Iff.rfl ?_
        rw [List.mem_singleton, List.mem_singleton]
        omega
  rintro σ H13 ⟨o11, rfl, c13, us, ds, h13, r13, w13, l13, m13⟩
  rw [List.length_map] at m13 l13
  rw [List.take_length] at m13
  have inDs : ∀ d, d ∈ ds ↔ d ∈ ps := fun d => by
    rw [m13 d, inPs]
    constructor
    · rintro ⟨p, hp, e⟩
      have : d = p := by omega
      rw [this]; exact hp
    · exact fun h => ⟨d, h, rfl⟩
  have ndu1 : D1 ≠ du := fun z => by rw [z, hdu] at h10; cases h10
  have h1x := c13.keep D1 _ (by simpa using ndu1) (s12 _ _ (s11 _ _ h10))
  have t1013 : Tups H10 H13 := (Tups.same (s11.trans s12)).trans c13.tups
  have r1x := r10.mono t1013
  have fdu : H du = none := (Chg.live (c10) du hdu) |> fun h => y9.free h
  have C13 : Chg [D1, du] H9 H13 := ((c10.mono fun x hx => by rw [List.mem_singleton.mp hx]; exact List.mem_cons_self ..).trans (.same (s11.trans s12))).trans (c13.mono fun x hx => by rw [List.mem_singleton.mp hx]; exact List.mem_cons_of_mem _ (List.mem_singleton_self _))
  have nb9 : ∀ {x : Addr}, H x = none → x ≠ b := fun h => hb.ne h
  have b13 : Bag H13 b := by
    obtain ⟨c0, n0, t0, u0, v0, g⟩ := y9.b1
    exact ⟨c0, n0, t0, u0, v0, C13.keep b _ (fun z => by
      rcases List.mem_cons.mp z with h | h
      · exact nD1 h.symm
      · exact nb9 fdu (List.mem_singleton.mp h).symm) g⟩
  have CB13 : Chg [b] H H13 := Chg.drop (E := b :: [D1, du]) ((y9.chg.mono fun x hx => by rw [List.mem_singleton.mp hx]; exact List.mem_cons_self ..).trans (C13.mono fun x hx => List.mem_cons_of_mem _ hx)) fun x hx => by
    rcases List.mem_cons.mp hx with h | h
    · exact .inl (by rw [h]; exact List.mem_singleton_self _)
    rcases List.mem_cons.mp h with h | h
    · exact .inr (by rw [h]; exact fD1)
    · exact .inr (by rw [List.mem_singleton.mp h]; exact fdu)
  have y13 : Stp b H H13 := .of hb b13 CB13
  refine ⟨_, rfl, D1, vs, rfl, .inl (SqL.of h1x), fun hd hhd => ?_⟩
  have s14 := same_new hhd (.lst vs)
  have h14 : upd H13 hd (.lst vs) hd = some (.lst vs) := upd_same
  generalize upd H13 hd (.lst vs) = H14 at s14 h14 ⊢
  have y14 := y13.trans (.same y13.b1 s14)
  have X14 := memS y14
  have XN := X14
  obtain ⟨td2, md2, L2', Y2, _⟩ := XN
  obtain ⟨dx2, hB2⟩ := Y2.bk.hB
  have tgL : tgs (strayL ps ps.length) = ps := by
    unfold tgs strayL
    rw [List.filterMap_map]
    have e : (Ent.tg ∘ fun j => strayE j (ps.getD j 0)) = fun j => some (ps.getD j 0) := funext fun j => strayE_tg j _
    have e2 : (List.range ps.length).filterMap (fun j => some (ps.getD j 0)) = (List.range ps.length).map fun j => ps.getD j 0 := congrFun (List.filterMap_eq_map (f := fun j => ps.getD j 0)) _
    rw [e, e2]
    refine List.ext_getElem (by simp) fun j h1 h2 => ?_
    simp [List.getD_eq_getElem?_getD, List.getElem?_eq_getElem h2]
  have esOk : ∀ e ∈ es1 ++ strayL ps ps.length, e.ok (m.top + 100000) := fun e he => by
    rcases List.mem_append.mp he with h | h
    · exact (o3 e h).ok fun k dk => by have := MM.dom_lt dk; omega
    · obtain ⟨j, hj, rfl⟩ := List.mem_map.mp h
      have hj := List.mem_range.mp hj
      have pl := (p9 ps[j] (List.getElem_mem hj)).2
      have eg : ps.getD j 0 = ps[j] := by rw [List.getD_eq_getElem?_getD, List.getElem?_eq_getElem hj]; rfl
      rw [eg]
      unfold strayE
      split
      · exact pl
      · split
        · exact pl
        · exact pl
  have esL : (es1 ++ strayL ps ps.length).length ≤ 1000 := by
    rw [List.length_append]; unfold strayL; rw [List.length_map, List.length_range]; omega
  have r14 := r1x.mono (.same s14)
  have dgEq : ∀ dsf : List Nat, dsf.Pairwise (· < ·) → (∀ d, d ∈ dsf ↔ ¬ m.dom d ∧ (d ∈ tgs (es1 ++ strayL ps ps.length) ∨ ∃ x, m.dom x ∧ d ∈ tgs (m.G x).row)) → dsf = ds := fun dsf w mm => by
    refine sorted_eq w w13 fun d => ?_
    rw [mm d, inDs d, tgs_app, List.mem_append, tgL]
    constructor
    · rintro ⟨nd, (h | h) | ⟨x, dx, h⟩⟩
      · obtain ⟨e, he, q⟩ := of_tgs h
        exact absurd ((o3 e he).tg q) nd
      · exact h
      · exact absurd (nodg x dx d h) nd
    · intro h
      exact ⟨(p9 d h).1, .inl (.inr h)⟩
  refine ⟨_, rfl, B, dx2, _, rfl, hB2, rfl, _, rfl, B, F, m, hd, vs, _, m.top + 100000, rfl, X14, mrow, (fun x dx => (okd.nd x dx).2), okd.mky, okd.le, h14, r14, esOk, esL, fun rw0 us2 dsf H15 s15 frw hrw rrw pw15 mem15 => ?_⟩
  rw [dgEq dsf pw15 mem15] at rrw
  have hdu15 := s15 _ _ (s14 _ _ h13)
  have rdu15 := (r13.mono (.same s14)).mono (.same s15)
  have lds : ds.length ≤ 5 := by omega
  have dpd : deps (ds.map dgD) ≤ 7 := Nat.le_trans (deps_dg ds) (by decide)
  have dpe : deps (rowD ixD (es1 ++ strayL ps ps.length)) ≤ 7 := by have := rowD_dep (f := ixD) esOk; omega
  have lvs : vs.length ≤ 2000 := by rw [r14.len, rowD_len]; omega
  refine ⟨_, rfl, _, rfl, _, _, rfl, ⟨_, rfl, iteF ⟨_, rfl, _, rfl, _, _, rfl, ⟨_, rfl, iteF ?_⟩, .inl (same_lst (s15 _ _ h14) (s15 _ _ (s14 _ _ h1x)) (r14.mono (.same s15)) (r14.mono (.same s15)) lvs dpe)⟩⟩, .inl (same_lst hrw hdu15 rrw rdu15 (by rw [rrw.len, List.length_map]; omega) dpd)⟩
  refine ⟨_, rfl, .inl ⟨rfl, _, SqL.of hrw⟩, _, rfl, two, fun pz hpz => ?_⟩
  have s16 := same_new hpz (.tup [.str (Str.ofString "dangling"), .int (-2)])
  have lrw : us2.length ≤ 5 := by rw [rrw.len, List.length_map]; exact lds
  refine ⟨rw0, _, _, rfl, rfl, s16 _ _ hrw, by omega, ?_⟩
  generalize upd H15 pz _ = H16 at s16 ⊢
  have hrw16 := s16 _ _ hrw
  have c17 : Chg [rw0] H16 (upd H16 rw0 (.lst (us2 ++ [.ref pz]))) := .upd hrw16 (fun _ z => by cases z) (List.mem_singleton_self _)
  generalize upd H16 rw0 (.lst (us2 ++ [.ref pz])) = H17 at c17 ⊢
  have C1417 : Same H14 H17 := fun a o e => c17.keep a o (fun z => by rw [List.mem_singleton.mp z, frw] at e; cases e) (s16 _ _ (s15 _ _ e))
  have y17 := y14.trans (.same y14.b1 C1417)
  have X17 := memS y17
  have XN := X17
  obtain ⟨td3, md3, L3, Y3, _⟩ := XN
  obtain ⟨dx3, hB3⟩ := Y3.bk.hB
  refine ⟨_, rfl, B, dx3, _, rfl, hB3, rfl, _, rfl, B, F, m, hd, vs, _, m.top + 100000, rfl, X17, mrow, (fun x dx => (okd.nd x dx).2), okd.mky, okd.le, C1417 _ _ h14, r14.mono (.same C1417), esOk, esL, fun rw1 us3 dsg H18 s18 frw1 hrw1 rrw1 pw18 mem18 => ?_⟩
  rw [dgEq dsg pw18 mem18] at rrw1
  have hdu17 := C1417 _ _ (s14 _ _ h13)
  have rdu17 := (r13.mono (.same s14)).mono (.same C1417)
  exact ⟨_, rfl, _, _, rfl, q _ (y17.trans (.same y17.b1 s18)), .inl (same_lst hrw1 (s18 _ _ hdu17) rrw1 (rdu17.mono (.same s18)) (by rw [rrw1.len, List.length_map]; omega) dpd)⟩
end
end D0
namespace D0
open PySem PySem.Spec PyProof.Rows L2 SX NumText
def markd (M : Nat → Bool) (aged : Nat) : List Nat := ((List.range aged).filter M).map fun k => 2 * k
theorem markd_sorted (M : Nat → Bool) (aged : Nat) : (markd M aged).Pairwise (· < ·) :=
  List.pairwise_map.mpr (List.Pairwise.imp (fun {a b} h => by omega) (List.Pairwise.filter _ List.pairwise_lt_range))
theorem markd_len (M : Nat → Bool) (aged : Nat) : (markd M aged).length ≤ aged := by
  unfold markd; rw [List.length_map]
  have := List.length_filter_le M (List.range aged)
  rw [List.length_range] at this; exact this
theorem LZ.marked {m : MM} {nds : List Nd} {aged : Nat} {M : Nat → Bool} (X : LZ m nds aged M) {rl : List Nat} (pm : rl.Perm m.ms) (so : rl.Pairwise (· ≤ ·)) : rl = markd M aged := by
  refine sorted_eq ?_ (markd_sorted M aged) fun z => ?_
  · have nd : rl.Nodup := pm.symm.nodup X.law.ok.mkn
    exact List.Pairwise.imp (fun h => Nat.lt_of_le_of_ne h.1 h.2) (so.and nd)
  · rw [pm.mem_iff]
    have hon := X.on
    constructor
    · intro hz
      obtain ⟨z1, z2⟩ := X.law.ok.mkd z hz
      have e : 2 * (z / 2) = z := by omega
      refine List.mem_map.mpr ⟨z / 2, List.mem_filter.mpr ⟨List.mem_range.mpr (by omega), ?_⟩, e⟩
      exact (X.mkd (z / 2) (by omega)).mpr (by rw [e]; exact hz)
    · intro hz
      obtain ⟨k, hk, rfl⟩ := List.mem_map.mp hz
      obtain ⟨k1, k2⟩ := List.mem_filter.mp hk
      exact (X.mkd k (List.mem_range.mp k1)).mp k2
theorem ordV_nats (rl : List Nat) : ordV ixD rl = (rl.map fun k => ((k : Nat) : Int)).map V.int := by
  unfold ordV; rw [List.map_map]; rfl
def spTold (K : PySem.W.Frag) (C CT : Addr) : Sp := fun vs H Q _ => ∃ (H0 : Hp) (J : Hp → Prop) (Z : List Addr) (aged : Nat) (b B nb mk : Addr) (bx : List Addr) (n : Nat), vs = [.ref b, .ref B, .ref nb, .int aged, .ref mk] ∧
  SV K C CT H0 J Z aged B nb mk bx n H ∧ b ∈ bx ∧ n ≤ 90 ∧ 1 ≤ aged ∧ ∀ H', SV K C CT H0 J Z aged B nb mk bx n H' → Q (.bl true) H'
section
variable {P : Program} {w : World} {K : PySem.W.Frag} {mg : Str → Option Value} {base : Heap} {C CT : Addr}
theorem ok__law_told (T : Txt K w mg) (BK : BM P w K mg base C CT) (Oe : OkD P w K mg base CX0 10 "_law_same" p__law_same (spSame K 9)) (Oc : OkD P w K mg base CX0 11 "_law_counts" p__law_counts (spCounts K C CT)) (Ot : OkD P w K mg base CX0 1 "_law_table" p__law_table spTableZ)
    (Os : OkD P w K mg base CX0 3 "_law_sent" p__law_sent spSent) (Ost : OkD P w K mg base CX0 11 "_law_strays" p__law_strays (spStrays K C CT)) : OkD P w K mg base CX0 12 "_law_told" p__law_told (spTold K C CT) := by
  refine T.g__law_told.ok sc__law_told (fun vs H Q E h => ?_) (fun f0 cdv A0 outer s H vs Q E hr h => ?_)
  · obtain ⟨H0, J, Z, aged, b, B, nb, mk, bx, n, rfl, _⟩ := h; rfl
  obtain ⟨H0, J, Z, aged, b, B, nb, mk, bx, n, rfl, ⟨F, m, as, rs, nds, M, X⟩, hb, ln, lag, q⟩ := h
  refine ⟨_, (pss_cons (ps_setLc (i := 6) (own := [("k", 5)]) (g := gName 5) rfl sc__law_told.nd rfl rfl rfl (pi_range1 rfl T.z_range (pa_cons (pv 3) pa_nil)) (blkOk_by (own := [("k", 5)]) (N := n__law_told) (sc := defScope s__law_told) (by decide +kernel)) (fun _ _ _ _ _ => (pg_name (i := 5) sc__law_told.nd rfl (Or.inl rfl))) (fun _ _ _ _ _ => (pts_one (pt_val (pe_ix (show IxR _ (rIxL K) from ix_list) (pv 4) (pv 5) (fun _ _ => rfl))))) (fun _ _ _ _ _ => (pe_op op_mul pe_int (pv 5))))
      (pss_cons (ps_set (i := 7) sc__law_told.nd rfl (.inl rfl) (pprop BK.remembered BK.cl hr (pv 1)))
      (pss_cons (ps_if (PW.pt (pw_or (pt_not (pt_val (pcall Oe hr (pa_cons (pv 7) (pa_cons (pv 6) pa_nil))))) (pw_or1 (pt_not (pt_val (pcall Oc hr (pa_cons (pv 1) (pa_cons (pe_op op_sub (pe_callB call_len_seq (by rfl) T.z_len PySem.boot_len (pa_cons (pv 2) pa_nil)) (pv 3)) (pa_cons (pv 3) pa_nil))))))))) (pss_one (ps_ret pe_bl)) pss_nil)
      (pss_cons (ps_expr (pe_bm PySem.F.plainAttrs_list PySem.F.slot_list_append PySem.F.type_list_append mt_append (pv 7) (pa_cons (pe_un un_neg pe_int) pa_nil)))
      (pss_cons (ps_if (pt_not (pt_val (pcall Oe hr (pa_cons (pprop BK.remembered BK.cl hr (pv 1)) (pa_cons (pv 6) pa_nil))))) (pss_one (ps_ret pe_bl)) pss_nil)
      (pss_cons (ps_set (i := 8) sc__law_told.nd rfl (.inl rfl) (pcall Ot hr (pa_cons (pe_callB call_len_seq (by rfl) T.z_len PySem.boot_len (pa_cons (pv 2) pa_nil)) (pa_cons (pv 3) pa_nil))))
      (pss_cons (ps_for PassesOwn.never rfl (pi_range1 rfl T.z_range (pa_cons (pe_callB call_len_seq (by rfl) T.z_len PySem.boot_len (pa_cons (pv 2) pa_nil)) pa_nil)) (pg_name (i := 5) sc__law_told.nd rfl (Or.inl rfl)) (pss_one (ps_if (pt_not (pt_val (pcall Oe hr (pa_cons (pmethE BK.slots_of BK.cl hr pass0 (pv 1) (pa_cons (pe_tup (pa_cons pe_str (pa_cons (pe_ix ix_list (pv 8) (pv 5) (fun _ _ => rfl)) pa_nil))) pa_nil)) (pa_cons (pcall Os hr (pa_cons (pe_ix ix_list (pe_ix ix_list (pv 2) (pv 5) (fun _ _ => rfl)) pe_int (fun _ _ => rfl)) (pa_cons (pv 8) pa_nil))) pa_nil))))) (pss_one (ps_ret pe_bl)) pss_nil)))
      (pss_one (ps_ret (pcall Ost hr (pa_cons (pv 0) (pa_cons (pv 1) (pa_cons (pv 2) (pa_cons (pv 3) pa_nil)))))))))))))), ?_⟩
  have lim := lim4
  have two : 2 ≤ sizeLine := by decide
  have hyn := X.lz.yn
  have hon := X.lz.on
  have gln := X.ln
  have la : (as.map V.ref).length = nds.length := by rw [List.length_map, X.bo.la]
  obtain ⟨b1, b2, b3, b4⟩ := X.bag b hb
  refine ⟨_, rfl, (aged : Int), rfl, by omega, by omega, fun D1 hD1 => ?_⟩
  refine lc_it walk_range (fun i H' => Same H H' ∧ ∃ ks : List Nat, H' D1 = some (.lst (nats ks)) ∧ ks = markd M i) ⟨same_new hD1 _, [], upd_same, rfl⟩ (fun _ _ _ _ => trivial) ?_ ?_
  · rintro i x H3 H4 hi ⟨s3, ks, h3, e3⟩ ⟨rfl, rfl⟩
    have hi' : i < aged := by simpa using hi
    have hmk := s3 _ _ X.hm
    have ek : markd M (i + 1) = markd M i ++ (if M i = true then [2 * i] else []) := by
      unfold markd
      rw [List.range_succ, List.filter_append, List.map_append]
      congr 1
      cases e : M i <;> simp [e]
    refine ⟨rfl, _, rfl, _, rfl, mk, _, _, .bl (M i), rfl, rfl, SqL.of hmk, by rw [Int.zero_add]; exact atI_nat (blF_at hi'), _, rfl, ?_⟩
    rw [ek]
    cases c : M i with
    | true =>
      refine iteT ⟨_, rfl, _, _, rfl, rfl, .inl ⟨by omega, by omega⟩, _, h3, ?_, same_grow s3 hD1, ks ++ [2 * i], ?_, by rw [if_pos rfl, e3]⟩
      · rw [nats_len, e3]; have := markd_len M i; omega
      · rw [upd_same, nats_app]
        show some (HO.lst (_ ++ [V.int (2 * (0 + (i : Int)))])) = some (HO.lst (_ ++ [V.int ((2 * i : Nat) : Int)]))
        rw [show (2 * (0 + (i : Int))) = ((2 * i : Nat) : Int) by omega]
    | false =>
      exact iteF ⟨s3, ks, h3, by rw [if_neg Bool.false_ne_true, List.append_nil]; exact e3⟩
  rintro H1 ⟨s1, ks, h1, e1⟩
  have e1 : ks = markd M aged := by simpa using e1
  have lks : ks.length ≤ aged := by rw [e1]; exact markd_len M aged
  have X1 := X.same s1
  have XN := X1.mem
  obtain ⟨td, md, L, Y, _⟩ := XN
  obtain ⟨dx, hB⟩ := Y.bk.hB
  refine ⟨_, rfl, B, dx, _, rfl, hB, B, dx, td, md, _, _, m.ms, rfl, hB, Y.hM, fun rl pr H2 pm so s2 fpr hpr => ?_⟩
  have el := X.lz.marked pm so
  rw [ordV_nats] at hpr
  have X2 := X1.same s2
  have hk2 := s2 _ _ h1
  have nE : nats ks = (ks.map fun k => ((k : Nat) : Int)).map V.int := by unfold nats; rw [List.map_map]; rfl
  have dp : ∀ l : List Int, deps (l.map D.int) ≤ 7 := fun l => Nat.le_trans (deps_ints l) (by decide)
  refine ⟨_, rfl, _, rfl, _, _, rfl, ⟨_, rfl, iteF ?_⟩, .inl (same_lst hpr (by rw [hk2, nE, e1, ← el]) (reps_ints _) (reps_ints _) (by rw [List.length_map, List.length_map, el, ← e1]; omega) (dp _))⟩
  refine ⟨_, rfl, _, rfl, nb, _, rfl, .inl (SqL.of X2.bo.h0), _, rfl, _, _, rfl, rfl, _, rfl, B, m.yn, aged, F, m, by rw [la]; show [V.ref B, V.int ((nds.length : Int) - (aged : Int)), V.int (aged : Nat)] = _; rw [show ((nds.length : Int) - (aged : Int)) = ((m.yn : Nat) : Int) by omega], X2.mem, rfl, hon, by omega, ⟨_, rfl, iteF ?_⟩⟩
  refine ⟨_, rfl, .inl ⟨rfl, _, SqL.of hpr⟩, _, rfl, ?_⟩
  refine ⟨pr, _, _, rfl, rfl, hpr, by rw [List.length_map, List.length_map, el, ← e1]; omega, ?_⟩
  generalize hH3 : upd H2 pr _ = H3
  have S3 : Same H1 H3 := fun a o e => by rw [← hH3, upd_ne (ne_of_none e fpr)]; exact s2 _ _ e
  have X3 := X1.same S3
  have XN := X3.mem
  obtain ⟨td3, md3, L3, Y3, _⟩ := XN
  obtain ⟨dx3, hB3⟩ := Y3.bk.hB
  refine ⟨_, rfl, B, dx3, _, rfl, hB3, B, dx3, td3, md3, _, _, m.ms, rfl, hB3, Y3.hM, fun rl2 pr2 H4 pm2 so2 s4 fpr2 hpr2 => ?_⟩
  have el2 := X.lz.marked pm2 so2
  rw [ordV_nats] at hpr2
  have hk4 := s4 _ _ (S3 _ _ h1)
  refine ⟨_, rfl, _, _, rfl, ⟨_, rfl, iteF ?_⟩, .inl (same_lst hpr2 (by rw [hk4, nE, e1, ← el2]) (reps_ints _) (reps_ints _) (by rw [List.length_map, List.length_map, el2, ← e1]; omega) (dp _))⟩
  have X4 := X3.same s4
  refine ⟨_, rfl, nb, _, rfl, .inl (SqL.of X4.bo.h0), _, rfl, nds.length, aged, by rw [la]; rfl, by omega, by omega, fun pt H5 s5 fpt hpt => ?_⟩
  have X5 := X4.same s5
  refine ⟨_, rfl, nb, _, rfl, .inl (SqL.of X5.bo.h0), (nds.length : Int), by rw [la], by omega, by omega, ?_⟩
  refine for_range (lo := 0) (n := nds.length) (fun i σ H' => ∃ o5, σ = [some (.ref b), some (.ref B), some (.ref nb), some (.int (aged : Nat)), some (.ref mk), o5, some (.ref D1), some (.ref pr), some (.ref pt)] ∧ Same H5 H') ⟨_, rfl, .refl _⟩ ?_ ?_
  · rintro i σ H6 hi ⟨o5, rfl, S6⟩
    have X6 := X5.same S6
    have hpt6 := S6 _ _ hpt
    have zi : (0 + (i : Int)) = (i : Int) := Int.zero_add _
    have XN := X6.mem
    obtain ⟨td6, md6, L6, Y6, _⟩ := XN
    obtain ⟨dx6, hB6⟩ := Y6.bk.hB
    have LM := X.lz.law
    have kU : i ∈ List.range nds.length := List.mem_range.mpr hi
    have eG := LM.on.at_ i kU
    have oR := LM.on.clo i kU
    have hni : nds[i]? = some (gOf nds i) := by rw [gOf_lt hi]; exact List.getElem?_eq_getElem hi
    have nk := LM.row (gOf nds i) (List.mem_of_getElem? hni)
    refine ⟨_, rfl, B, dx6, _, rfl, hB6, rfl, _, rfl, _, rfl, pt, _, _, .int ((fA aged i : Nat) : Int), rfl, rfl, SqL.of hpt6, by rw [zi]; exact atI_nat (tbF_at hi), two, fun pa hpa => ?_⟩
    have s7 := same_new hpa (.tup [.str (Str.ofString "ref"), .int ((fA aged i : Nat) : Int)])
    have hpa7 : upd H6 pa (.tup [.str (Str.ofString "ref"), .int ((fA aged i : Nat) : Int)]) pa = some (.tup [.str (Str.ofString "ref"), .int ((fA aged i : Nat) : Int)]) := upd_same
    generalize upd H6 pa (.tup [.str (Str.ofString "ref"), .int ((fA aged i : Nat) : Int)]) = H7 at s7 hpa7 ⊢
    refine ⟨B, F, m, _, fA aged i, rfl, X6.mem.same s7, ⟨pa, _, rfl, hpa7⟩, LM.on.dom i kU, fun p us2 hp r2 => ?_⟩
    have s8 := same_new hp (.lst us2)
    have hp8 : upd H7 p (.lst us2) p = some (.lst us2) := upd_same
    generalize upd H7 p (.lst us2) = H8 at s8 hp8 ⊢
    have S8 := s7.trans s8
    have X8 := X6.same S8
    obtain ⟨a, r, tv, vs, ea, er, g, rt, g2, rr, vl⟩ := X8.bo.look hni
    have l100 := nk.len
    refine ⟨_, rfl, _, rfl, nb, _, _, .ref a, rfl, rfl, SqL.of X8.bo.h0, by rw [zi]; exact node_at ea, a, _, 2, _, rfl, rfl, SqL.of g, rfl, _, rfl, r, pt, vs, (gOf nds i).row, fI aged, nds.length, rfl, g2, rr, nk.row, by omega, S8 _ _ hpt6, fun pq us3 H9 s9 fpq hpq r3 => ?_⟩
    have r2' : Reps H7 us2 (rowD (fI aged) (gOf nds i).row) := by
      rw [eG] at r2
      rw [(fA_tells aged (· ∈ List.range nds.length)).row oR]; exact r2
    have dp2 := rowD_dep (f := fI aged) nk.row
    exact ⟨_, _, rfl, ⟨_, rfl, iteF ⟨_, rfl, S6.trans (S8.trans s9)⟩⟩, .inl (same_lst (s9 _ _ hp8) hpq (r2'.mono (.same (s8.trans s9))) r3 (by rw [r2'.len, rowD_len]; omega) (by omega))⟩
  rintro σ H6 ⟨o5, rfl, S6⟩
  have X6 := X5.same S6
  obtain ⟨c1, c2, c3, c4⟩ := X6.bag b hb
  exact ⟨_, rfl, _, rfl, _, rfl, _, rfl, b, B, nb, aged, F, m, as, rs, nds, M, rfl, c1, X6.mem, X6.bo, X.lz, c3, (fun z => c2 (List.mem_cons_of_mem _ z)), by omega, by omega, fun H' y => q H' ⟨_, _, _, _, _, _, X6.stp hb y⟩⟩
end
end D0
namespace D0
open PySem PySem.Spec PyProof.Rows L2 SX NumText
def spOther (K : PySem.W.Frag) (C CT : Addr) : Sp := fun vs H Q _ => ∃ (B nb : Addr) (aged : Nat) (F : List Addr) (m : MM) (as rs : List Addr) (nds ndsB : List Nd), vs = [.ref B, .ref nb, .int aged] ∧ Mem K C CT H B F m ∧ LZ m ndsB aged (fun _ => false) ∧ ndsB.length = aged ∧ m.ms = [] ∧ BoA H nb as rs nds ∧ nds.length = aged ∧ aged ≤ 8 ∧
  (∀ k, k < aged → (gOf nds k).row.length = (gOf ndsB k).row.length) ∧ (∀ a ∈ FN nb as rs, a ∉ F) ∧ ∀ (p : Addr) (ds : List Nat) (F' : List Addr) (m' : MM) (H' : Hp), Chg F H H' → (∀ x ∈ F', x ∈ F ∨ H x = none) → Mem K C CT H' B F' m' → m'.yn = 1 → m'.on = aged → m'.ms = ds → ds.length ≤ 1 → m'.ok → H p = none → p ∉ F' → H' p = some (.lst (nats ds)) → Q (.ref p) H'
section
variable {P : Program} {w : World} {K : PySem.W.Frag} {mg : Str → Option Value} {base : Heap} {C CT : Addr}
theorem ok__law_other (T : Txt K w mg) (BK : BM P w K mg base C CT) (Ofr : OkD P w K mg base CX0 1 "_law_free" p__law_free spFree) (Oe : OkD P w K mg base CX0 10 "_law_same" p__law_same (spSame K 9)) : OkD P w K mg base CX0 11 "_law_other" p__law_other (spOther K C CT) := by
  refine T.g__law_other.ok sc__law_other (fun vs H Q E h => ?_) (fun f0 cdv A0 outer s H vs Q E hr h => ?_)
  · obtain ⟨B, nb, aged, F, m, as, rs, nds, ndsB, rfl, _⟩ := h; rfl
  obtain ⟨B, nb, aged, F, m, as, rs, nds, ndsB, rfl, X, lz, lnB, ms0, bo, lnd, l8, lrow, dj, q⟩ := h
  refine ⟨_, (pss_cons (ps_setLc (i := 3) (own := [("k", 6)]) (g := gName 6) rfl sc__law_other.nd rfl rfl rfl (pi_range1 rfl T.z_range (pa_cons (pv 2) pa_nil)) (blkOk_by (own := [("k", 6)]) (N := n__law_other) (sc := defScope s__law_other) (by decide +kernel)) (fun _ _ _ _ _ => (pg_name (i := 6) sc__law_other.nd rfl (Or.inl rfl))) (fun _ _ _ _ _ => (pts_one (show PT _ _ (tTru K (tCall spFree [] E0 (tCons (tOp (rIxL K) (tVar 1) (tVar 6)) tNil))) from pt_truth (pcall Ofr hr (pa_cons (pe_ix (show IxR _ (rIxL K) from ix_list) (pv 1) (pv 6) (fun _ _ => rfl)) pa_nil)) (fun _ => rfl)))) (fun _ _ _ _ _ => (pv 6)))
      (pss_cons (ps_if (pt_not (pt_val (pcall Oe hr (pa_cons (pmethE BK.make BK.cl hr pass0 (pv 0) (pa_cons pe_str (pa_cons pe_non (pa_cons (pe_lst pa_nil) pa_nil)))) (pa_cons (pe_tup (pa_cons pe_str (pa_cons pe_int pa_nil))) pa_nil))))) (pss_one (ps_ret pe_non)) pss_nil)
      (pss_cons (ps_if (pt_not (pt_truth (pv 3) (by intro _; rfl))) (pss_one (ps_ret (pe_lst pa_nil))) pss_nil)
      (pss_cons (ps_set (i := 4) sc__law_other.nd rfl (.inl rfl) (pe_ix ix_list (pv 3) (pe_op op_sub (pe_callB call_len_seq (by rfl) T.z_len PySem.boot_len (pa_cons (pv 3) pa_nil)) pe_int) (fun _ _ => rfl)))
      (pss_cons (ps_set (i := 5) sc__law_other.nd rfl (.inl rfl) (pcall Ofr hr (pa_cons (pe_ix ix_list (pv 1) (pv 4) (fun _ _ => rfl)) pa_nil)))
      (pss_cons (ps_expr (pmethE BK.set_slot BK.cl hr pass0 (pv 0) (pa_cons (pe_tup (pa_cons pe_str (pa_cons (pe_op op_mul pe_int (pv 4)) pa_nil))) (pa_cons (pe_ix ix_list (pv 5) (pe_op op_sub (pe_callB call_len_seq (by rfl) T.z_len PySem.boot_len (pa_cons (pv 5) pa_nil)) pe_int) (fun _ _ => rfl)) (pa_cons (pe_tup (pa_cons pe_str (pa_cons pe_int pa_nil))) pa_nil)))))
      (pss_one (ps_ret (pe_lst (pa_cons (pe_op op_mul pe_int (pv 4)) pa_nil)))))))))), ?_⟩
  have lim := lim4
  have two : 2 ≤ sizeLine := by decide
  have hyn := lz.yn
  have hon := lz.on
  have rowL : ∀ k, k < aged → (gOf nds k).row.length ≤ 100 := fun k hk => by
    rw [lrow k hk]
    have hk' : k < ndsB.length := by omega
    exact (lz.law.row (gOf ndsB k) (by rw [gOf_lt hk']; exact List.getElem_mem _)).len
  have look : ∀ {H'}, BoA H' nb as rs nds → ∀ k, k < aged → ∃ a r tv vs, as[k]? = some a ∧ H' a = some (.lst [.str (S (gOf nds k).kind), tv, .ref r]) ∧ H' r = some (.lst vs) ∧ vs.length = (gOf nds k).row.length := fun b k hk => by
    have hk' : k < nds.length := by omega
    have hni : nds[k]? = some (gOf nds k) := by rw [gOf_lt hk']; exact List.getElem?_eq_getElem hk'
    obtain ⟨a, r, tv, vs, ea, er', g, rt, g2, rr, vl⟩ := b.look hni
    exact ⟨a, r, tv, vs, ea, g, g2, vl⟩
  refine ⟨_, rfl, (aged : Int), rfl, by omega, by omega, fun ho hho => ?_⟩
  refine lc_it walk_range (fun i H' => Same H H' ∧ ∃ hs, H' ho = some (.lst (nats hs)) ∧ (∀ k ∈ hs, k < aged ∧ frees (S (gOf nds k).kind) (gOf nds k).row.length ≠ []) ∧ hs.length ≤ i) ⟨same_new hho _, [], upd_same, (fun k h => by cases h), Nat.le_refl _⟩ (fun _ _ _ _ => trivial) ?_ ?_
  · rintro j x H9 H10 hj ⟨s9, hs, h9, o9, l9⟩ ⟨rfl, rfl⟩
    have kl : j < aged := by simpa using hj
    have X10 := bo.same s9
    obtain ⟨a1, r, tv, vs, ea, g, g2, vl⟩ := look X10 j kl
    refine ⟨rfl, ?_⟩
    refine ⟨_, rfl, _, rfl, nb, _, _, .ref a1, rfl, rfl, SqL.of X10.h0, by rw [Int.zero_add]; exact node_at ea, a1, _, tv, r, vs, rfl, g, g2, by have := rowL j kl; omega, fun p H5 s5 fp hp => ⟨_, .inl ⟨_, SqL.of hp, rfl⟩, ?_⟩⟩
    have s35 := s9.trans s5
    have h5 := s5 _ _ h9
    refine ite2 (fun c => ?_) (fun c => ⟨s35, hs, h5, o9, by omega⟩)
    refine ⟨_, rfl, _, h5, by rw [nats_len]; omega, same_grow s35 hho, hs ++ [j], by rw [upd_same, nats_app]; show some (HO.lst (_ ++ [V.int (0 + (j : Int))])) = _; rw [Int.zero_add]; rfl, fun k hk => ?_, by simp; omega⟩
    rcases List.mem_append.mp hk with h | h
    · exact o9 k h
    · rw [List.mem_singleton.mp h]
      refine ⟨kl, fun z => ?_⟩
      rw [vl, z] at c
      exact absurd c (by decide)
  rintro H1 ⟨s1, hs, h1, okh, lh⟩
  have lh : hs.length ≤ aged := by simpa using lh
  have X1 := X.same s1
  have XN := X1
  obtain ⟨td, md, L, Y, _⟩ := XN
  obtain ⟨dx, hB⟩ := Y.bk.hB
  have el : S (cs (Str.ofString "list")) = Str.ofString "list" := (S_cs _).symm
  refine ⟨_, rfl, B, dx, _, rfl, hB, rfl, Nat.zero_le _, fun p2 hp2 => ?_⟩
  have s2 := same_new hp2 (.lst [])
  have h2 : upd H1 p2 (.lst []) p2 = some (.lst []) := upd_same
  generalize upd H1 p2 (.lst []) = H2 at s2 h2 ⊢
  refine ⟨B, F, m, cs (Str.ofString "list"), .non, p2, [], .non, mvs (fA aged) [], by rw [el]; rfl, X1.same s2, by omega, .non, h2, .nil, fun pm F3 H3 N hp3 fpm npm => ?_⟩
  have L3 := lz.make (z := cs (Str.ofString "list")) (tag := .non) (es := []) (by decide) (by decide) (fun e h => by cases h) (by omega)
  refine ⟨two, fun p7 h7 => ?_⟩
  have s4 := same_new h7 (.tup [.str (Str.ofString "ref"), .int 1])
  have h74 : upd H3 p7 (.tup [.str (Str.ofString "ref"), .int 1]) p7 = some (.tup [.str (Str.ofString "ref"), .int 1]) := upd_same
  have hp4 := s4 _ _ hp3
  generalize upd H3 p7 (.tup [.str (Str.ofString "ref"), .int 1]) = H4 at s4 h74 hp4 ⊢
  have y0 : m.yn = 0 := by omega
  rw [show ((2 * m.yn + 1 : Nat) : Int) = ((1 : Nat) : Int) by rw [y0]] at hp4
  refine ⟨_, _, rfl, ⟨_, rfl, iteF ?_⟩, .inr ⟨_, rep_rf hp4, rep_rf (k := 1) h74, by show dep (.tup [.str wRef, .int ((1 : Nat) : Int)]) < 9; rw [dep_tup]; simp [D0.deps, D0.dep]⟩⟩
  have S12 := s1.trans s2
  have C04 : Chg F H H4 := ((Chg.same S12).trans N.chg).trans (.same s4)
  have mem4 := N.mem.same s4
  have nF3 : ∀ x ∈ F3, x ∈ F ∨ H x = none := fun x hx => (N.new x hx).imp_right S12.free
  have hho4 := s4 _ _ (N.chg.keep ho _ (X.fresh hho) (s2 _ _ h1))
  have bo4 := bo.frame C04 dj
  refine ⟨_, rfl, _, .inl ⟨_, SqL.of hho4, rfl⟩, ?_⟩
  refine ite2 (fun _ => ?_) (fun hne => ?_)
  · refine ⟨Nat.zero_le _, fun p5 hp5 => ?_⟩
    have s5 := same_new hp5 (.lst [])
    exact q p5 [] F3 _ _ (C04.trans (.same s5)) nF3 (mem4.same s5) (by show m.yn + 1 = 1; omega) hon ms0 (by decide) L3.law.ok (C04.live p5 hp5) (mem4.fresh hp5) upd_same
  have hne : hs ≠ [] := fun z => by subst z; exact hne (by decide)
  have hpos : 0 < hs.length := List.length_pos_iff.mpr hne
  have hl : hs.length - 1 < hs.length := by omega
  refine ⟨_, rfl, _, rfl, ho, _, rfl, .inl (SqL.of hho4), _, _, rfl, rfl, ho, _, _, .int (hs[hs.length - 1] : Nat), rfl, rfl, SqL.of hho4, ?_, ?_⟩
  · rw [nats_len, show ((hs.length : Int) - 1) = ((hs.length - 1 : Nat) : Int) by omega]
    exact nats_at hl
  obtain ⟨kl, kf⟩ := okh _ (List.getElem_mem hl)
  generalize hs[hs.length - 1] = k at kl kf
  obtain ⟨a1, r, tv, vs, ea, g, g2, vl⟩ := look bo4 k kl
  refine ⟨_, rfl, _, rfl, nb, _, _, .ref a1, rfl, rfl, SqL.of bo4.h0, node_at ea, a1, _, tv, r, vs, rfl, g, g2, by have := rowL k kl; omega, fun p5 H5 s5 fp5 hp5 => ?_⟩
  rw [vl] at hp5
  obtain ⟨fs, efs⟩ : ∃ fs, fs = frees (S (gOf nds k).kind) (gOf nds k).row.length := ⟨_, rfl⟩
  have flt : ∀ j ∈ fs, j < (gOf nds k).row.length := fun j hj => frees_lt (by rw [efs] at hj; exact hj)
  rw [← efs] at hp5 kf
  have fpos : 0 < fs.length := List.length_pos_iff.mpr kf
  have fl : fs.length - 1 < fs.length := by omega
  have mem5 := mem4.same s5
  have XN := mem5
  obtain ⟨td5, md5, L5, Y5, _⟩ := XN
  obtain ⟨dx5, hB5⟩ := Y5.bk.hB
  refine ⟨_, rfl, B, dx5, _, rfl, hB5, rfl, _, rfl, _, _, rfl, rfl, .inl ⟨by omega, by omega⟩, two, fun pa hpa => ?_⟩
  have s6 := same_new hpa (.tup [.str (Str.ofString "ref"), .int (2 * (k : Int))])
  have hpa6 : upd H5 pa (.tup [.str (Str.ofString "ref"), .int (2 * (k : Int))]) pa = some (.tup [.str (Str.ofString "ref"), .int (2 * (k : Int))]) := upd_same
  generalize upd H5 pa (.tup [.str (Str.ofString "ref"), .int (2 * (k : Int))]) = H6 at s6 hpa6 ⊢
  rw [show (2 * (k : Int)) = ((2 * k : Nat) : Int) by omega] at hpa6
  have hp6 := s6 _ _ hp5
  refine ⟨_, rfl, _, rfl, p5, _, rfl, .inl (SqL.of hp6), _, _, rfl, rfl, p5, _, _, .int (fs[fs.length - 1] : Nat), rfl, rfl, SqL.of hp6, ?_, two, fun pv hpv => ?_⟩
  · rw [nats_len, show ((fs.length : Int) - 1) = ((fs.length - 1 : Nat) : Int) by omega]
    exact nats_at fl
  have hi := flt _ (List.getElem_mem fl)
  generalize fs[fs.length - 1] = i at hi
  have s7 := same_new hpv (.tup [.str (Str.ofString "ref"), .int 1])
  have hpv7 : upd H6 pv (.tup [.str (Str.ofString "ref"), .int 1]) pv = some (.tup [.str (Str.ofString "ref"), .int 1]) := upd_same
  generalize upd H6 pv (.tup [.str (Str.ofString "ref"), .int 1]) = H7 at s7 hpv7 ⊢
  have S47 := s5.trans (s6.trans s7)
  have k3 : k < (ndsB ++ [⟨cs (Str.ofString "list"), .non, []⟩] : List Nd).length := by rw [List.length_append]; omega
  have kU := List.mem_range.mpr k3
  have fk : fA aged k = 2 * k := by unfold fA; rw [if_pos kl]
  have f1 : fA aged aged = 1 := by unfold fA; rw [if_neg (by omega)]; omega
  have eG := L3.law.on.at_ k kU
  rw [fk] at eG
  have gB : gOf (ndsB ++ [⟨cs (Str.ofString "list"), .non, []⟩]) k = gOf ndsB k := gOf_app (by omega)
  have eRow : ((m.make ⟨cs (Str.ofString "list"), .non, mvs (fA aged) []⟩).G (2 * k)).row = mvs (fA aged) (gOf ndsB k).row := by rw [eG, gB]; rfl
  have d2 := L3.law.on.dom k kU
  rw [fk] at d2
  refine ⟨B, F3, _, _, .ref pv, 2 * k, i, 2, .pl (.ref 1), rfl, mem4.same S47, ?_, ⟨pa, _, rfl, s7 _ _ hpa6⟩, d2, by rw [eRow, mvs_len, ← lrow k kl]; exact hi, rep_rf (k := 1) hpv7, (by show 1 < 2; omega), fun F8 H8 N8 => ?_⟩
  · show m.ms.length ≤ 10000; rw [ms0]; decide
  refine ⟨_, rfl, _, _, rfl, rfl, .inl ⟨by omega, by omega⟩, by show 1 ≤ sizeLine; omega, fun p9 hp9 => ?_⟩
  have s9 := same_new hp9 (.lst [.int (2 * (k : Int))])
  have okB : ∀ e ∈ (gOf ndsB k).row, e.okP (· ∈ List.range (ndsB ++ [⟨cs (Str.ofString "list"), .non, []⟩] : List Nd).length) := by
    have := L3.law.on.clo k kU
    rw [gB] at this; exact this
  have nokB := lz.law.row (gOf ndsB k) (by rw [gOf_lt (by omega)]; exact List.getElem_mem _)
  have okN : ∀ e ∈ (gOf ndsB k).row.set i (.pl (.ref aged)), e.okP (· ∈ List.range (ndsB ++ [⟨cs (Str.ofString "list"), .non, []⟩] : List Nd).length) := fun e he => by
    rcases List.mem_or_eq_of_mem_set he with h | rfl
    · exact okB e h
    · exact List.mem_range.mpr (by rw [List.length_append]; show aged < ndsB.length + 1; omega)
  have an : anyY (mvs (fA aged) [Ent.pl (En.ref aged)]) = true := anyY_true.mpr ⟨1, by show 1 ∈ [fA aged aged]; rw [f1]; exact List.mem_singleton_self _, by decide⟩
  have L8 := L3.put (n := ⟨(gOf ndsB k).kind, (gOf ndsB k).tag, (gOf ndsB k).row.set i (.pl (.ref aged))⟩) (es := [.pl (.ref aged)]) k3 nokB.tag (by rw [List.length_set]; exact nokB.len) okN (fun _ => .inl an)
  have e1 : mvs (fA aged) [Ent.pl (En.ref aged)] = [Ent.pl (En.ref 1)] := by show [Ent.pl (En.ref (fA aged aged))] = _; rw [f1]
  have en : Nd.mv (fA aged) ⟨(gOf ndsB k).kind, (gOf ndsB k).tag, (gOf ndsB k).row.set i (.pl (.ref aged))⟩ = ⟨((m.make ⟨cs (Str.ofString "list"), .non, mvs (fA aged) []⟩).G (2 * k)).kind, ((m.make ⟨cs (Str.ofString "list"), .non, mvs (fA aged) []⟩).G (2 * k)).tag, ((m.make ⟨cs (Str.ofString "list"), .non, mvs (fA aged) []⟩).G (2 * k)).row.set i (.pl (.ref 1))⟩ := by
    rw [eG, gB]
    unfold Nd.mv mvs
    rw [List.map_set]
    show _ = (⟨_, _, ((gOf ndsB k).row.map _).set i (.pl (.ref 1))⟩ : Nd)
    rw [← f1]; rfl
  rw [fk, en, e1] at L8
  have ems : ((m.make ⟨cs (Str.ofString "list"), .non, mvs (fA aged) []⟩).put (2 * k) ⟨((m.make ⟨cs (Str.ofString "list"), .non, mvs (fA aged) []⟩).G (2 * k)).kind, ((m.make ⟨cs (Str.ofString "list"), .non, mvs (fA aged) []⟩).G (2 * k)).tag, ((m.make ⟨cs (Str.ofString "list"), .non, mvs (fA aged) []⟩).G (2 * k)).row.set i (.pl (.ref 1))⟩ [.pl (.ref 1)]).ms = [2 * k] := by
    show note (2 * k) [.pl (.ref 1)] m.ms = [2 * k]
    rw [ms0]
    unfold note
    rw [e1] at an
    rw [if_pos ⟨by omega, an⟩]
    rfl
  have C48 : Chg (F ++ F3) H H8 := ((C04.mono fun x hx => List.mem_append_left _ hx).trans (.same S47)).trans (N8.chg.mono fun x hx => List.mem_append_right _ hx)
  have C8 : Chg F H H8 := C48.drop fun x hx => (List.mem_append.mp hx).elim .inl (nF3 x)
  have l7 : ∀ {x : Addr}, H7 x = none → H x = none := fun h => C04.live _ (S47.free h)
  refine q p9 [2 * k] F8 _ _ (C8.trans (.same s9)) (fun x hx => (N8.new x hx).elim (nF3 x) (fun h => .inr (l7 h))) (N8.mem.same s9) (by show m.yn + 1 = 1; omega) hon ems (by show 1 ≤ 1; omega) L8.law.ok (C8.live p9 hp9) (N8.mem.fresh hp9) ?_
  rw [upd_same]
  show some (HO.lst [V.int (2 * (k : Int))]) = some (HO.lst [V.int ((2 * k : Nat) : Int)])
  rw [show (2 * (k : Int)) = ((2 * k : Nat) : Int) by omega]
end
end D0
namespace D0
open PySem PySem.Spec PyProof.Rows L2 SX NumText
def spLast (K : PySem.W.Frag) (C CT : Addr) : Sp := fun vs H Q _ => ∃ (b B : Addr) (F : List Addr) (m : MM), vs = [.ref b, .ref B] ∧ Bag H b ∧ Mem K C CT H B F m ∧ m.ok ∧ b ∉ F ∧ ∀ H', Q (.bl true) H'
section
variable {P : Program} {w : World} {K : PySem.W.Frag} {mg : Str → Option Value} {base : Heap} {C CT : Addr}
theorem ok__law_last (T : Txt K w mg) (BK : BM P w K mg base C CT) (O : OkD P w K mg base CX0 1 "_law_take" p__law_take spTake) (Oe : OkD P w K mg base CX0 10 "_law_same" p__law_same (spSame K 9)) (Oc : OkD P w K mg base CX0 11 "_law_counts" p__law_counts (spCounts K C CT)) : OkD P w K mg base CX0 12 "_law_last" p__law_last (spLast K C CT) := by
  obtain ⟨fc, fdc, hmc, Fc, hb3, _, hbk⟩ := BK.collect
  refine T.g__law_last.ok sc__law_last (fun vs H Q E h => ?_) (fun f0 cdv A0 outer s H vs Q E hr h => ?_)
  · obtain ⟨b, B, F, m, rfl, _⟩ := h; rfl
  obtain ⟨b, B, F, m, rfl, hb, X, ok, nbF, q⟩ := h
  refine ⟨_, (pss_cons (ps_if (PW.pt (pw_or (pt_not (pt_val (pcall Oe hr (pa_cons (pe_methKw (pv 1) BK.cl hmc Fc (hr.mono (by decide)) hbk pass0 (pa_cons (pe_lst pa_nil) pa_nil) (pk_cons pe_bl pk_nil)) (pa_cons (pe_lst pa_nil) pa_nil))))) (pw_or1 (pt_not (pt_val (pcall Oc hr (pa_cons (pv 1) (pa_cons pe_int (pa_cons pe_int pa_nil))))))))) (pss_one (ps_ret pe_bl)) pss_nil)
      (pss_cons (ps_if (PW.pt (pw_or (pt_not (pt_val (pcall Oe hr (pa_cons (pprop BK.remembered BK.cl hr (pv 1)) (pa_cons (pe_lst pa_nil) pa_nil))))) (pw_or1 (pt_not (pt_val (pcall Oe hr (pa_cons (pmethE BK.faults BK.cl hr pass0 (pv 1) (pa_cons (pe_lst pa_nil) pa_nil)) (pa_cons (pe_lst pa_nil) pa_nil)))))))) (pss_one (ps_ret pe_bl)) pss_nil)
      (pss_cons (ps_set (i := 2) sc__law_last.nd rfl (.inl rfl) (pe_lst (pa_cons (pe_op op_mul pe_int (pcall O hr (pa_cons (pv 0) (pa_cons pe_int pa_nil)))) (pa_cons (pe_op op_add pe_int (pe_op op_mul pe_int (pcall O hr (pa_cons (pv 0) (pa_cons pe_int pa_nil))))) pa_nil))))
      (pss_cons (ps_set (i := 3) sc__law_last.nd rfl (.inl rfl) (pmethE BK.make BK.cl hr pass0 (pv 1) (pa_cons pe_str (pa_cons pe_non (pa_cons (pe_lst (pa_cons (pe_tup (pa_cons pe_str (pa_cons (pe_ix ix_list (pv 2) pe_int (fun _ _ => rfl)) pa_nil))) (pa_cons (pe_tup (pa_cons pe_str (pa_cons (pe_ix ix_list (pv 2) pe_int (fun _ _ => rfl)) pa_nil))) (pa_cons (pe_tup (pa_cons pe_str (pa_cons (pe_ix ix_list (pv 2) pe_int (fun _ _ => rfl)) pa_nil))) pa_nil)))) pa_nil)))))
      (pss_cons (ps_if (pt_not (pt_val (pcall Oe hr (pa_cons (pv 3) (pa_cons (pe_tup (pa_cons pe_str (pa_cons pe_int pa_nil))) pa_nil))))) (pss_one (ps_ret pe_bl)) pss_nil)
      (pss_one (ps_ret (pcall Oe hr (pa_cons (pmethE BK.faults BK.cl hr pass0 (pv 1) (pa_cons (pe_lst pa_nil) pa_nil)) (pa_cons (pe_lc (own := [("place", 4)]) (g := gName 4) (tt := tYes) rfl sc__law_last.nd (pi_list (pe_callB cr_sortedI (by rfl) T.z_sorted (by decide +kernel) (pa_cons (pv 2) pa_nil))) (blkOk_by (own := [("place", 4)]) (N := n__law_last) (sc := defScope s__law_last) (by decide +kernel)) (fun _ _ _ _ _ => (pg_name (i := 4) sc__law_last.nd rfl (Or.inl rfl))) (fun _ _ _ _ _ => pts_nil) (fun _ _ _ _ _ => (pe_tup (pa_cons pe_str (pa_cons (pv 4) pa_nil))))) pa_nil)))))))))), ?_⟩
  have lim := lim4
  have two : 2 ≤ sizeLine := by decide
  have XN := X
  obtain ⟨td, md, L, Y, _⟩ := XN
  obtain ⟨dx, hB⟩ := Y.bk.hB
  refine ⟨_, rfl, B, dx, _, rfl, hB, rfl, Nat.zero_le _, fun p0 hp0 => ⟨rfl, rfl, ?_⟩⟩
  have s1 := same_new hp0 (.lst [])
  have h1 : upd H p0 (.lst []) p0 = some (.lst []) := upd_same
  generalize upd H p0 (.lst []) = H1 at s1 h1 ⊢
  refine ⟨B, F, m, p0, [], [], true, rfl, X.same s1, ok, h1, .nil, (fun e he => by cases he), Nat.zero_le _, X.fresh hp0, fun p us m' g Sx F' H2 MV hw _ N hp r fp np => ?_⟩
  obtain ⟨R, rr, e1, e2⟩ := hw rfl
  have eR : R = [] := by
    unfold Reach at rr
    exact rr.closed fun x hx => by cases hx
  subst eR
  have eus : us = [] := by
    have := r.len
    cases us with
    | nil => rfl
    | cons => simp [rowD, mvs] at this
  subst eus
  have hy : m'.yn = 0 := by rw [e1]; rfl
  have hon : m'.on = 0 := by rw [e1]; rfl
  have hms : m'.ms = [] := by rw [e1]; rfl
  have X2 := N.mem
  refine ⟨Nat.zero_le _, fun p2 hp2 => ?_⟩
  have s3 := same_new hp2 (.lst [])
  have h32 : upd H2 p2 (.lst []) p2 = some (.lst []) := upd_same
  generalize upd H2 p2 (.lst []) = H3 at s3 h32 ⊢
  refine ⟨_, _, rfl, ⟨_, rfl, iteF ?_⟩, .inl (same_lst (ds := []) (s3 _ _ hp) h32 .nil .nil (by decide) (by decide))⟩
  have X3 := X2.same s3
  refine ⟨_, rfl, B, 0, 0, F', m', rfl, X3, hy, hon, by omega, ⟨_, rfl, iteF ?_⟩⟩
  have XN := X3
  obtain ⟨td3, md3, L3, Y3, _⟩ := XN
  obtain ⟨dx3, hB3⟩ := Y3.bk.hB
  refine ⟨_, rfl, B, dx3, _, rfl, hB3, B, dx3, td3, md3, _, _, m'.ms, rfl, hB3, Y3.hM, fun rl pr H4 pm so s4 fpr hpr => ?_⟩
  rw [hms] at pm
  obtain rfl := pm.eq_nil
  refine ⟨Nat.zero_le _, fun p5 hp5 => ?_⟩
  have s5 := same_new hp5 (.lst [])
  have h55 : upd H4 p5 (.lst []) p5 = some (.lst []) := upd_same
  generalize upd H4 p5 (.lst []) = H5 at s5 h55 ⊢
  refine ⟨_, _, rfl, ⟨_, rfl, iteF ?_⟩, .inl (same_lst (ds := []) (s5 _ _ hpr) h55 .nil .nil (by decide) (by decide))⟩
  have S35 := s4.trans s5
  have X5 := X3.same S35
  have nd : ∀ x, ¬ m'.dom x := fun x h => by unfold MM.dom at h; omega
  refine ⟨_, rfl, B, dx3, _, rfl, S35 _ _ hB3, rfl, Nat.zero_le _, fun p6 hp6 => ?_⟩
  have s6 := same_new hp6 (.lst [])
  have h66 : upd H5 p6 (.lst []) p6 = some (.lst []) := upd_same
  generalize upd H5 p6 (.lst []) = H6 at s6 h66 ⊢
  refine ⟨B, F', m', p6, [], [], 1, rfl, X5.same s6, (fun x h => absurd h (nd x)), (fun x h => absurd h (nd x)), (fun x h1 h2 => by omega), by omega, h66, .nil, (fun e he => by cases he), Nat.zero_le _, fun p7 us7 ds7 H7 s7 fp7 hp7 r7 _ mem7 => ?_⟩
  have d0 : ds7 = [] := by
    cases ds7 with
    | nil => rfl
    | cons d r =>
      exfalso
      obtain ⟨n, h⟩ := (mem7 d).mp (List.mem_cons_self ..)
      rcases h with h | ⟨x, dx, h⟩
      · cases h
      · exact nd x dx
  rw [d0] at r7
  have u0 : us7 = [] := by
    have := r7.len
    cases us7 with
    | nil => rfl
    | cons => simp at this
  rw [u0] at hp7
  refine ⟨Nat.zero_le _, fun p8 hp8 => ?_⟩
  have s8 := same_new hp8 (.lst [])
  refine ⟨_, _, rfl, ⟨_, rfl, iteF ?_⟩, .inl (same_lst (ds := []) (s8 _ _ hp7) upd_same .nil .nil (by decide) (by decide))⟩
  have S58 := s6.trans (s7.trans s8)
  generalize upd H7 p8 (.lst []) = H8 at S58 ⊢
  have S28 := s3.trans (S35.trans S58)
  have b2 : Bag H2 b := (hb.same s1).keep N.chg nbF
  have b8 : Bag H8 b := b2.same S28
  have nbF' : b ∉ F' := fun z => (N.new b z).elim nbF (hb.same s1).here
  refine ⟨_, rfl, b, 50, rfl, b8, by decide, by decide, fun r0 H9 r00 r01 x9 => ?_⟩
  obtain ⟨t0, rfl⟩ : ∃ j : Nat, r0 = (j : Int) := ⟨r0.toNat, by omega⟩
  refine ⟨_, _, rfl, rfl, .inl ⟨by omega, by omega⟩, _, rfl, b, 50, rfl, x9.b1, by decide, by decide, fun r1 H10 r10 r11 x10 => ?_⟩
  obtain ⟨t1, rfl⟩ : ∃ j : Nat, r1 = (j : Int) := ⟨r1.toNat, by omega⟩
  refine ⟨_, _, rfl, rfl, .inl ⟨by omega, by omega⟩, _, _, rfl, rfl, two, fun pp hpp => ?_⟩
  have s11 := same_new hpp (.lst [.int (2 * (t0 : Int)), .int (3 + 2 * (t1 : Int))])
  have h11 : upd H10 pp (.lst [.int (2 * (t0 : Int)), .int (3 + 2 * (t1 : Int))]) pp = some (.lst [.int (2 * (t0 : Int)), .int (3 + 2 * (t1 : Int))]) := upd_same
  generalize upd H10 pp (.lst [.int (2 * (t0 : Int)), .int (3 + 2 * (t1 : Int))]) = H11 at s11 h11 ⊢
  rw [show (2 * (t0 : Int)) = ((2 * t0 : Nat) : Int) by omega, show (3 + 2 * (t1 : Int)) = ((3 + 2 * t1 : Nat) : Int) by omega] at h11
  obtain ⟨ea, hea⟩ : ∃ ea, ea = 2 * t0 := ⟨_, rfl⟩
  obtain ⟨oc, hoc⟩ : ∃ oc, oc = 3 + 2 * t1 := ⟨_, rfl⟩
  rw [← hea, ← hoc] at h11
  have X11 : Mem K C CT H11 B F' m' := (((X2.same S28).frame x9.chg (fun a ha z => nbF' (by rw [← List.mem_singleton.mp z]; exact ha))).frame x10.chg (fun a ha z => nbF' (by rw [← List.mem_singleton.mp z]; exact ha))).same s11
  have XN := X11
  obtain ⟨td4, md4, L4, Y4, _⟩ := XN
  obtain ⟨dx4, hB4⟩ := Y4.bk.hB
  have e1 : atI [V.int ((ea : Nat) : Int), .int ((oc : Nat) : Int)] 1 = some (.int (oc : Nat)) := rfl
  have e0 : atI [V.int ((ea : Nat) : Int), .int ((oc : Nat) : Int)] 0 = some (.int (ea : Nat)) := rfl
  refine ⟨_, rfl, B, dx4, _, rfl, hB4, rfl, _, rfl, pp, _, _, _, rfl, rfl, SqL.of h11, e1, two, fun q1 hq1 => ?_⟩
  have t1s := same_new hq1 (.tup [.str (Str.ofString "ref"), .int (oc : Nat)])
  have g1 : upd H11 q1 (.tup [.str (Str.ofString "ref"), .int (oc : Nat)]) q1 = some (.tup [.str (Str.ofString "ref"), .int (oc : Nat)]) := upd_same
  generalize upd H11 q1 (.tup [.str (Str.ofString "ref"), .int (oc : Nat)]) = Ha at t1s g1 ⊢
  refine ⟨_, rfl, pp, _, _, _, rfl, rfl, SqL.of (t1s _ _ h11), e0, two, fun q2 hq2 => ?_⟩
  have t2s := same_new hq2 (.tup [.str (Str.ofString "ref"), .int (ea : Nat)])
  have g2 : upd Ha q2 (.tup [.str (Str.ofString "ref"), .int (ea : Nat)]) q2 = some (.tup [.str (Str.ofString "ref"), .int (ea : Nat)]) := upd_same
  generalize upd Ha q2 (.tup [.str (Str.ofString "ref"), .int (ea : Nat)]) = Hb at t2s g2 ⊢
  refine ⟨_, rfl, pp, _, _, _, rfl, rfl, SqL.of (t2s _ _ (t1s _ _ h11)), e1, two, fun q3 hq3 => ?_⟩
  have t3s := same_new hq3 (.tup [.str (Str.ofString "ref"), .int (oc : Nat)])
  have g3 : upd Hb q3 (.tup [.str (Str.ofString "ref"), .int (oc : Nat)]) q3 = some (.tup [.str (Str.ofString "ref"), .int (oc : Nat)]) := upd_same
  generalize upd Hb q3 (.tup [.str (Str.ofString "ref"), .int (oc : Nat)]) = Hc at t3s g3 ⊢
  refine ⟨by show 3 ≤ sizeLine; omega, fun pl hpl => ?_⟩
  have s12 := same_new hpl (.lst [.ref q1, .ref q2, .ref q3])
  have h12 : upd Hc pl (.lst [.ref q1, .ref q2, .ref q3]) pl = some (.lst [.ref q1, .ref q2, .ref q3]) := upd_same
  have S12 := t1s.trans (t2s.trans (t3s.trans s12))
  have k1 := (t2s.trans (t3s.trans s12)) _ _ g1
  have k2 := (t3s.trans s12) _ _ g2
  have k3 := s12 _ _ g3
  generalize upd Hc pl (.lst [.ref q1, .ref q2, .ref q3]) = H12 at s12 h12 S12 k1 k2 k3 ⊢
  have el : S (cs (Str.ofString "list")) = Str.ofString "list" := (S_cs _).symm
  have rw12 : Reps H12 [.ref q1, .ref q2, .ref q3] (rowD ixD [Ent.pl (En.ref oc), .pl (.ref ea), .pl (.ref oc)]) := .cons (rep_rf k1) (.cons (rep_rf k2) (.cons (rep_rf k3) .nil))
  refine ⟨B, F', m', cs (Str.ofString "list"), .non, pl, _, .non, _, by rw [el]; rfl, X11.same S12, by omega, .non, h12, rw12, fun pm F3 H13 N3 hp13 fpm npm => ?_⟩
  refine ⟨_, rfl, two, fun p14 hp14 => ?_⟩
  have s14 := same_new hp14 (.tup [.str (Str.ofString "ref"), .int 1])
  have h14 : upd H13 p14 (.tup [.str (Str.ofString "ref"), .int 1]) p14 = some (.tup [.str (Str.ofString "ref"), .int 1]) := upd_same
  have hm14 := s14 _ _ hp13
  generalize upd H13 p14 (.tup [.str (Str.ofString "ref"), .int 1]) = H14 at s14 h14 hm14 ⊢
  rw [show ((2 * m'.yn + 1 : Nat) : Int) = ((1 : Nat) : Int) by rw [hy]] at hm14
  refine ⟨_, _, rfl, ⟨_, rfl, iteF ?_⟩, .inr ⟨_, rep_rf hm14, rep_rf (k := 1) h14, by show dep (.tup [.str wRef, .int ((1 : Nat) : Int)]) < 9; rw [dep_tup]; simp [D0.deps, D0.dep]⟩⟩
  have mem14 := N3.mem.same s14
  have XN := mem14
  obtain ⟨td5, md5, L5, Y5, _⟩ := XN
  obtain ⟨dx5, hB5⟩ := Y5.bk.hB
  refine ⟨_, rfl, B, dx5, _, rfl, hB5, rfl, Nat.zero_le _, fun p15 hp15 => ?_⟩
  have s15 := same_new hp15 (.lst [])
  have h15 : upd H14 p15 (.lst []) p15 = some (.lst []) := upd_same
  generalize upd H14 p15 (.lst []) = H15 at s15 h15 ⊢
  have npp : pp ∉ F' := fun z => (((X2.same S28).frame x9.chg (fun a ha z => nbF' (by rw [← List.mem_singleton.mp z]; exact ha))).frame x10.chg (fun a ha z => nbF' (by rw [← List.mem_singleton.mp z]; exact ha))).fresh hpp z
  have hpp15 := s15 _ _ (s14 _ _ (N3.chg.keep pp _ npp (S12 _ _ h11)))
  obtain ⟨m2, em2⟩ : ∃ m2, m2 = m'.make ⟨cs (Str.ofString "list"), .non, [Ent.pl (En.ref oc), .pl (.ref ea), .pl (.ref oc)]⟩ := ⟨_, rfl⟩
  rw [← em2] at mem14
  have dom2 : ∀ x, m2.dom x ↔ x = 1 := fun x => by
    rw [em2, MM.make_dom, hy]
    exact ⟨fun h => h.elim (fun h => absurd h (nd x)) id, .inr⟩
  have row2 : (m2.G 1).row = [Ent.pl (En.ref oc), .pl (.ref ea), .pl (.ref oc)] := by
    rw [em2]
    show (setG m'.G (2 * m'.yn + 1) _ 1).row = _
    rw [hy]; rfl
  have yo2 : m2.yn = 1 ∧ m2.on = 0 := by rw [em2]; exact ⟨by show m'.yn + 1 = 1; omega, hon⟩
  refine ⟨B, F3, m2, p15, [], [], 1000, rfl, mem14.same s15, (fun x dx e he => ?_), (fun x dx => ?_), (fun x h1 h2 => by omega), by omega, h15, .nil, (fun e he => by cases he), Nat.zero_le _, fun p16 us16 ds16 H16 s16 fp16 hp16 r16 w16 mem16 => ?_⟩
  · rw [(dom2 x).mp dx, row2] at he
    simp only [List.mem_cons, List.not_mem_nil, or_false] at he
    rcases he with rfl | rfl | rfl
    · show oc < 1000; omega
    · show ea < 1000; omega
    · show oc < 1000; omega
  · rw [(dom2 x).mp dx, row2]; show 3 ≤ 100; omega
  have m16 : ∀ d, d ∈ ds16 ↔ d = ea ∨ d = oc := fun d => by
    rw [mem16 d]
    constructor
    · rintro ⟨n, h | ⟨x, dx, h⟩⟩
      · cases h
      · rw [(dom2 x).mp dx, row2] at h
        have h : d ∈ [oc, ea, oc] := h
        simp only [List.mem_cons, List.not_mem_nil, or_false] at h
        omega
    · intro h
      refine ⟨fun z => by have := (dom2 d).mp z; omega, .inr ⟨1, (dom2 1).mpr rfl, ?_⟩⟩
      rw [row2]
      show d ∈ [oc, ea, oc]
      simp only [List.mem_cons, List.not_mem_nil, or_false]
      omega
  have hpp16 := s16 _ _ hpp15
  refine ⟨_, rfl, pp, [((ea : Nat) : Int), ((oc : Nat) : Int)], rfl, SqL.of hpp16, fun ns p17 perm srt hp17 => ?_⟩
  have s17 := same_new hp17 (.lst (ns.map V.int))
  have h17 : upd H16 p17 (.lst (ns.map V.int)) p17 = some (.lst (ns.map V.int)) := upd_same
  generalize upd H16 p17 (.lst (ns.map V.int)) = H17 at s17 h17 ⊢
  refine ⟨p17, rfl, ⟨_, SqL.of h17⟩, fun D1 hD1 => ?_⟩
  have lns : ns.length = 2 := perm.length_eq
  have nn : ∀ c ∈ ns, c = ((c.toNat : Nat) : Int) := fun c hc => by
    have := perm.mem_iff.mp hc
    simp only [List.mem_cons, List.not_mem_nil, or_false] at this
    omega
  refine lc_it (walk_list (xs := ns.map V.int)) (fun i H' => Same H17 H' ∧ ∃ vs, H' D1 = some (.lst vs) ∧ Reps H' vs (((ns.take i).map Int.toNat).map dgD)) ⟨same_new hD1 _, [], upd_same, by simp only [List.take_zero, List.map_nil]; exact .nil⟩ (fun i H' _ h => SqL.of (h.1 _ _ h17)) ?_ ?_
  · rintro i x H18 H19 hi ⟨s18, vs, h18, r18⟩ ⟨rfl, hx⟩
    rw [List.length_map] at hi
    rw [List.getElem?_map, List.getElem?_eq_getElem hi] at hx
    obtain rfl := Option.some.inj hx
    have ec := nn _ (List.getElem_mem hi)
    have lvs : vs.length ≤ 2 := by rw [r18.len]; simp; omega
    refine ⟨rfl, iteT (B := True) (iteT ⟨_, rfl, two, fun t ht => ?_⟩)⟩
    have s19 := same_new ht (.tup [.str (Str.ofString "dangling"), .int ns[i]])
    have h19 := s19 _ _ h18
    refine ⟨_, h19, by omega, same_grow (s18.trans s19) hD1, _, upd_same, ?_⟩
    rw [take_next hi, List.map_append, List.map_append]
    have tl := Tups.lst (o := HO.lst (vs ++ [.ref t])) h19
    refine ((r18.mono (.same s19)).mono tl).app (.one (Rep.mono tl (rep_dg ?_)))
    rw [upd_same, ← ec]
  rintro H18 ⟨s18, vs, h18, r18⟩
  rw [List.length_map, List.take_length] at r18
  have srt' : (ns.map Int.toNat).Pairwise (· < ·) := by
    have ndp : [((ea : Nat) : Int), ((oc : Nat) : Int)].Nodup := by
      refine List.nodup_cons.mpr ⟨fun z => ?_, List.nodup_cons.mpr ⟨by simp, .nil⟩⟩
      have := List.mem_singleton.mp z; omega
    have nd' : ns.Nodup := perm.symm.nodup ndp
    refine List.pairwise_map.mpr (List.Pairwise.imp_of_mem (fun {a b} ha hb h => ?_) (srt.and nd'))
    have h1 := nn a ha
    have h2 := nn b hb
    have := h.1
    have := h.2
    omega
  have eds : ns.map Int.toNat = ds16 := by
    refine sorted_eq srt' w16 fun d => ?_
    rw [m16 d, List.mem_map]
    constructor
    · rintro ⟨c, hc, rfl⟩
      have := perm.mem_iff.mp hc
      simp only [List.mem_cons, List.not_mem_nil, or_false] at this
      omega
    · intro h
      refine ⟨(d : Int), perm.mem_iff.mpr ?_, rfl⟩
      simp only [List.mem_cons, List.not_mem_nil, or_false]
      omega
  rw [eds] at r18
  have l16 : us16.length = 2 := by rw [r16.len, List.length_map, ← eds, List.length_map, lns]
  exact ⟨_, _, rfl, q _, .inl (same_lst (s18 _ _ (s17 _ _ hp16)) h18 (r16.mono (.same (s17.trans s18))) r18 (by omega) (Nat.le_trans (deps_dg ds16) (by decide)))⟩
end
end D0
namespace D0
open PySem PySem.Spec PyProof.Rows L2 SX NumText
structure PH (H0 H : Hp) (A B C D : List Addr) : Prop where
  la : ∀ a ∈ A, H a ≠ none ∧ H0 a = none
  lb : ∀ a ∈ B, H a ≠ none ∧ H0 a = none
  lc : ∀ a ∈ C, H a ≠ none ∧ H0 a = none
  ld : ∀ a ∈ D, H a ≠ none ∧ H0 a = none
  ab : ∀ a ∈ A, a ∉ B
  ac : ∀ a ∈ A, a ∉ C
  ad : ∀ a ∈ A, a ∉ D
  bc : ∀ a ∈ B, a ∉ C
  bd : ∀ a ∈ B, a ∉ D
  cd : ∀ a ∈ C, a ∉ D
  sm : Same H0 H
section
variable {H0 H H' : Hp} {A B C D : List Addr}
theorem PH.swap (P : PH H0 H A B C D) : PH H0 H A C B D := ⟨P.la, P.lc, P.lb, P.ld, P.ac, P.ab, P.ad, fun a h z => P.bc a z h, P.cd, P.bd, P.sm⟩
theorem PH.two (P : PH H0 H A B C D) {E : List Addr} (c : Chg E H H') (hE : ∀ x ∈ E, x ∈ B ∨ x ∈ D) {B' D' : List Addr} (nB : ∀ x ∈ B', x ∈ B ∨ H x = none) (nD : ∀ x ∈ D', x ∈ D ∨ H x = none) (alB : ∀ x ∈ B', H' x ≠ none) (alD : ∀ x ∈ D', H' x ≠ none) (bd : ∀ x ∈ B', x ∉ D') : PH H0 H' A B' C D' := by
  have f0 : ∀ x ∈ E, H0 x = none := fun x hx => (hE x hx).elim (fun h => (P.lb x h).2) (fun h => (P.ld x h).2)
  have sm := same_chg P.sm c f0
  have nw : ∀ {x}, H x = none → H0 x = none := fun h => P.sm.free h
  refine ⟨fun a h => ⟨fun z => (P.la a h).1 (c.live a z), (P.la a h).2⟩, fun a h => ⟨alB a h, (nB a h).elim (fun h => (P.lb a h).2) nw⟩, fun a h => ⟨fun z => (P.lc a h).1 (c.live a z), (P.lc a h).2⟩, fun a h => ⟨alD a h, (nD a h).elim (fun h => (P.ld a h).2) nw⟩, fun a h z => (nB a z).elim (P.ab a h) (P.la a h).1, P.ac, fun a h z => (nD a z).elim (P.ad a h) (P.la a h).1, fun a h z => (nB a h).elim (fun h => P.bc a h z) (P.lc a z).1, bd, fun a h z => (nD a z).elim (P.cd a h) (P.lc a h).1, sm⟩
theorem PH.offA (P : PH H0 H A B C D) {E : List Addr} (hE : ∀ x ∈ E, x ∈ B ∨ x ∈ D) : ∀ a ∈ A, a ∉ E := fun a h z => (hE a z).elim (P.ab a h) (P.ad a h)
theorem PH.offC (P : PH H0 H A B C D) {E : List Addr} (hE : ∀ x ∈ E, x ∈ B ∨ x ∈ D) : ∀ a ∈ C, a ∉ E := fun a h z => (hE a z).elim (fun g => P.bc a g h) (P.cd a h)
theorem PH.same (P : PH H0 H A B C D) (s : Same H H') : PH H0 H' A B C D := P.two (E := []) (.same s) (fun _ h => by cases h) (fun _ h => .inl h) (fun _ h => .inl h) (fun x h => by
    obtain ⟨l, _⟩ := P.lb x h
    cases e : H x with
    | none => exact absurd e l
    | some o => rw [s _ _ e]; exact fun z => nomatch z) (fun x h => by
    obtain ⟨l, _⟩ := P.ld x h
    cases e : H x with
    | none => exact absurd e l
    | some o => rw [s _ _ e]; exact fun z => nomatch z) P.bd
end
theorem Mem.live {K : PySem.W.Frag} {C CT : Addr} {H : Hp} {B : Addr} {F : List Addr} {m : MM} (X : Mem K C CT H B F m) : ∀ x ∈ F, H x ≠ none := let ⟨_, _, _, _, _, _, lv⟩ := X; lv
/-- a heap is made -/
theorem made {K : PySem.W.Frag} {C CT : Addr} {H4 H5 : Hp} {B dx td mdd : Addr} {o1 o2 : HO} (hB : H4 B = none) (hdx : H4 dx = none) (ne : dx ≠ B) (Y : MemL K C CT H5 B td mdd [] m00) (k5 : ∀ a o, a ≠ B → upd (upd H4 dx o1) B o2 a = some o → H5 a = some o) (ftd : upd (upd H4 dx o1) B o2 td = none) (fmd : upd (upd H4 dx o1) B o2 mdd = none) :
    Same H4 H5 ∧ Mem K C CT H5 B [B, td, mdd] m00 ∧ ∀ c ∈ [B, td, mdd], H4 c = none := by
  have ne' := ne
  have ftd4 : H4 td = none := by
    have n1 : td ≠ B := fun z => by rw [z, upd_same] at ftd; cases ftd
    rw [upd_ne n1] at ftd
    have n2 : td ≠ dx := fun z => by rw [z, upd_same] at ftd; cases ftd
    rw [upd_ne n2] at ftd; exact ftd
  have fmd4 : H4 mdd = none := by
    have n1 : mdd ≠ B := fun z => by rw [z, upd_same] at fmd; cases fmd
    rw [upd_ne n1] at fmd
    have n2 : mdd ≠ dx := fun z => by rw [z, upd_same] at fmd; cases fmd
    rw [upd_ne n2] at fmd; exact fmd
  refine ⟨fun c o e => k5 c o (ne_of_none e hB) (by rw [upd_ne (ne_of_none e hB), upd_ne (ne_of_none e hdx)]; exact e), ⟨td, mdd, [], Y, fun c hc => by
    simp only [FB, List.map_nil, List.append_nil, List.mem_cons, List.not_mem_nil, or_false] at hc
    rcases hc with rfl | rfl <;> simp, by simp, fun c hc => by
    simp only [List.mem_cons, List.not_mem_nil, or_false] at hc
    rcases hc with rfl | rfl | rfl
    · obtain ⟨dx', hB'⟩ := Y.bk.hB; rw [hB']; exact fun z => nomatch z
    · rw [Y.bk.hD]; exact fun z => nomatch z
    · rw [Y.hM]; exact fun z => nomatch z⟩, fun c hc => ?_⟩
  simp only [List.mem_cons, List.not_mem_nil, or_false] at hc
  rcases hc with rfl | rfl | rfl
  · exact hB
  · exact ftd4
  · exact fmd4
theorem lz00 : LZ m00 [] 0 (fun _ => false) := ⟨⟨m00_ok, ⟨(fun k hk => by cases hk), (fun k hk => by cases hk), (fun i j hi => by cases hi), (fun k hk => by cases hk), (fun k hk => by cases hk), Nat.zero_le _⟩, (fun n hn => by cases hn)⟩, rfl, rfl, fun k h => absurd h (Nat.not_lt_zero _)⟩
theorem sqL_sm {K : PySem.W.Frag} {H H' : Hp} {a : Addr} {vs : List V} (h : SqL K H a vs) (s : Same H H') : SqL K H' a vs := by
  rcases h with (h | ⟨o, h⟩) | h
  · exact .inl (.inl (s _ _ h))
  · exact .inl (.inr ⟨o, s _ _ h⟩)
  · exact .inr h
theorem SV.box {K : PySem.W.Frag} {C CT : Addr} {H0 H H' : Hp} {J : Hp → Prop} {Z : List Addr} {aged : Nat} {B nb mk : Addr} {bx : List Addr} {n : Nat} (X : SV K C CT H0 J Z aged B nb mk bx n H) (s : Same H H') {b : Addr} (f : H b = none) (g : Bag H' b) : SV K C CT H0 J Z aged B nb mk (b :: bx) n H' := by
  obtain ⟨F, m, as, rs, nds, M, X⟩ := X
  have X' := X.same s
  refine ⟨F, m, as, rs, nds, M, ⟨X'.mem, X'.bo, X'.hm, X'.lz, X'.nm, X'.dj, fun c hc => ?_, X'.ln, X'.sm, X'.f1, X'.f2, X'.jf, X'.jh, fun a ha => ?_⟩⟩
  · rcases List.mem_cons.mp hc with rfl | h
    · exact ⟨g, fun z => X.here c z f, X.mem.fresh f, X.sm.free f⟩
    · exact X'.bag c h
  · obtain ⟨z1, z2, z3, z4⟩ := X'.zd a ha
    refine ⟨z1, z2, fun z => ?_, z4⟩
    rcases List.mem_cons.mp z with rfl | h
    · exact (X.zd a ha).2.2.2 f
    · exact z3 h
theorem SV.less {K : PySem.W.Frag} {C CT : Addr} {H0 H : Hp} {J : Hp → Prop} {Z : List Addr} {aged : Nat} {B nb mk : Addr} {bx bx' : List Addr} {n n' : Nat} (X : SV K C CT H0 J Z aged B nb mk bx n H) (h : ∀ b ∈ bx', b ∈ bx) (l : n ≤ n') : SV K C CT H0 J Z aged B nb mk bx' n' H := by
  obtain ⟨F, m, as, rs, nds, M, X⟩ := X
  have X' := X.more l
  exact ⟨F, m, as, rs, nds, M, ⟨X'.mem, X'.bo, X'.hm, X'.lz, X'.nm, X'.dj, fun c hc => X'.bag c (h c hc), X'.ln, X'.sm, X'.f1, X'.f2, X'.jf, X'.jh, fun a ha => let ⟨z1, z2, z3, z4⟩ := X'.zd a ha; ⟨z1, z2, fun z => z3 (h a z), z4⟩⟩⟩
theorem SV.stp {K : PySem.W.Frag} {C CT : Addr} {H0 H H' : Hp} {J : Hp → Prop} {Z : List Addr} {aged : Nat} {B nb mk : Addr} {bx : List Addr} {n : Nat} (X : SV K C CT H0 J Z aged B nb mk bx n H) {b : Addr} (hb : b ∈ bx) (x : Stp b H H') : SV K C CT H0 J Z aged B nb mk bx n H' :=
  let ⟨_, _, _, _, _, _, X⟩ := X; ⟨_, _, _, _, _, _, X.stp hb x⟩
theorem SV.bag {K : PySem.W.Frag} {C CT : Addr} {H0 H : Hp} {J : Hp → Prop} {Z : List Addr} {aged : Nat} {B nb mk : Addr} {bx : List Addr} {n : Nat} (X : SV K C CT H0 J Z aged B nb mk bx n H) {b : Addr} (hb : b ∈ bx) : Bag H b :=
  let ⟨_, _, _, _, _, _, X⟩ := X; (X.bag b hb).1
theorem SV.sm {K : PySem.W.Frag} {C CT : Addr} {H0 H : Hp} {J : Hp → Prop} {Z : List Addr} {aged : Nat} {B nb mk : Addr} {bx : List Addr} {n : Nat} (X : SV K C CT H0 J Z aged B nb mk bx n H) : Same H0 H := let ⟨_, _, _, _, _, _, X⟩ := X; X.sm
def spLaw (K : PySem.W.Frag) : Sp := fun vs H Q _ => ∃ (a : Addr) (ns : List Int), vs = [.ref a] ∧ SqL K H a (ns.map V.int) ∧ ns.length ≤ 63 ∧ ∀ H', Q (.bl true) H'
section
variable {P : Program} {w : World} {K : PySem.W.Frag} {mg : Str → Option Value} {base : Heap} {CS C CT : Addr}
set_option maxHeartbeats 4000000 in
theorem ok_law (T : Txt K w mg) (TX : StX K mg CS) (TH : HeT K mg C) (BK : BM P w K mg base C CT) (Ob : OkD P w K mg base CX0 2 "_law_box" p__law_box (spBoxD K)) (O : OkD P w K mg base CX0 1 "_law_take" p__law_take spTake)
    (Ofi : OkD P w K mg base CX0 12 "_law_first" p__law_first (spFirst K C CT)) (Oag : OkD P w K mg base CX0 12 "_law_aged" p__law_aged (spAged K C CT)) (Oot : OkD P w K mg base CX0 11 "_law_other" p__law_other (spOther K C CT)) (Ode : OkD P w K mg base CX0 13 "_law_deed" p__law_deed (spDeedZ K C CT)) (Oto : OkD P w K mg base CX0 12 "_law_told" p__law_told (spTold K C CT))
    (Oe : OkD P w K mg base CX0 10 "_law_same" p__law_same (spSame K 9)) (Oc : OkD P w K mg base CX0 11 "_law_counts" p__law_counts (spCounts K C CT)) (Ola : OkD P w K mg base CX0 12 "_law_last" p__law_last (spLast K C CT)) : OkD P w K mg base CX0 14 "law" p_law (spLaw K) := by
  obtain ⟨fJ, fdJ, MH, bH, FH⟩ := TH.ini
  have GH := ok_Heap___init__ (P := P) (w := w) (base := base) (CT := CT) TX TH FH
  refine T.g_law.ok sc_law (fun vs H Q E h => ?_) (fun f cdv A outer s H vs Q E hr h => ?_)
  · obtain ⟨a, ns, rfl, _⟩ := h; rfl
  obtain ⟨a, ns, rfl, hS, h63, q⟩ := h
  have lim := lim4
  refine ⟨_, (pss_cons (ps_set (i := 1) sc_law.nd rfl (.inl rfl) (pcall Ob hr (pa_cons (pv 0) (pa_cons pe_int pa_nil))))
      (pss_cons (PS.of (t' := fun D σ H' => ∃ (b : Addr) (v0 v2 : Option V) (r : List (Option V)), σ = v0 :: some (.ref b) :: v2 :: r ∧ Bag H' b ∧ ∀ (n : Nat) H'', 1 ≤ n → n ≤ 8 → Stp b H' H'' → D.nx (v0 :: some (.ref b) :: some (.int (n : Nat)) :: r) H'') (ps_set (i := 2) sc_law.nd rfl (.inl rfl) (pe_op op_add pe_int (pcall O hr (pa_cons (pv 1) (pa_cons pe_int pa_nil))))) ?s2)
      (pss_cons (ps_set (i := 3) sc_law.nd rfl (.inl rfl) (pcall O hr (pa_cons (pv 1) (pa_cons pe_int pa_nil))))
      (pss_cons (ps_set (i := 4) sc_law.nd rfl (.inl rfl) (pe_op op_add pe_int (pcall O hr (pa_cons (pv 1) (pa_cons pe_int pa_nil)))))
      (pss_cons (ps_set (i := 5) sc_law.nd rfl (.inl rfl) (pe_make0 MH GH (hr.mono (by decide)) rfl TH.gl bH .nil pass0))
      (pss_cons (ps_set (i := 6) sc_law.nd rfl (.inl rfl) (pe_make0 MH GH (hr.mono (by decide)) rfl TH.gl bH .nil pass0))
      (pss_cons (ps_set (i := 7) sc_law.nd rfl (.inl rfl) (pe_lst pa_nil))
      (pss_cons (ps_if (PW.pt (pw_or (pt_not (pt_val (pcall Ofi hr (pa_cons (pv 0) (pa_cons (pv 5) (pa_cons (pv 7) (pa_cons (pv 2) pa_nil))))))) (pw_or1 (pt_not (pt_val (pcall Ofi hr (pa_cons (pv 0) (pa_cons (pv 6) (pa_cons (pv 7) (pa_cons (pv 2) pa_nil)))))))))) (pss_one (ps_ret pe_bl)) pss_nil)
      (pss_cons (ps_if (PW.pt (pw_or (pt_not (pt_val (pcall Oag hr (pa_cons (pv 5) (pa_cons (pv 2) (pa_cons (pv 3) pa_nil)))))) (pw_or1 (pt_not (pt_val (pcall Oag hr (pa_cons (pv 6) (pa_cons (pv 2) (pa_cons (pv 3) pa_nil))))))))) (pss_one (ps_ret pe_bl)) pss_nil)
      (pss_cons (ps_set (i := 8) sc_law.nd rfl (.inl rfl) (pcall Oot hr (pa_cons (pv 6) (pa_cons (pv 7) (pa_cons (pv 2) pa_nil)))))
      (pss_cons (ps_if (pt_cmpR op_isN (pv 8) pe_non (nomark _)) (pss_one (ps_ret pe_bl)) pss_nil)
      (pss_cons (ps_set (i := 9) sc_law.nd rfl (.inl rfl) (pe_op op_rep (pe_lst (pa_cons pe_bl pa_nil)) (pv 2)))
      (pss_cons (ps_for PassesOwn.never rfl (pi_range1 rfl T.z_range (pa_cons (pv 4) pa_nil)) (pg_name (i := 10) sc_law.nd rfl (Or.inl rfl)) (pss_cons (ps_set (i := 11) sc_law.nd rfl (.inl rfl) (pcall Ob hr (pa_cons (pv 0) (pa_cons (pe_op op_add pe_int (pv 10)) pa_nil))))
      (pss_cons (ps_if (pt_not (pt_val (pcall Ode hr (pa_cons (pv 11) (pa_cons (pv 5) (pa_cons (pv 7) (pa_cons (pv 2) (pa_cons (pv 9) pa_nil)))))))) (pss_one (ps_ret pe_bl)) pss_nil)
      (pss_one (PS.of (t' := fun D σ H' => ∃ (H0 : Hp) (J : Hp → Prop) (Z : List Addr) (aged : Nat) (b B nb mk : Addr) (bx : List Addr) (n : Nat), σ[2]? = some (some (.int (aged : Nat))) ∧ σ[5]? = some (some (.ref B)) ∧ σ[7]? = some (some (.ref nb)) ∧ σ[9]? = some (some (.ref mk)) ∧ σ[11]? = some (some (.ref b)) ∧ SV K C CT H0 J Z aged B nb mk bx n H' ∧ b ∈ bx ∧ n ≤ 90 ∧ 1 ≤ aged ∧ ∀ H'', SV K C CT H0 J Z aged B nb mk bx n H'' → D.nx σ H'')
        (ps_if (PW.pt (pw_and (pt_cmpR op_gt (pcall O hr (pa_cons (pv 11) (pa_cons pe_int pa_nil))) pe_int (nomark _)) (pw_and1 (pt_not (pt_val (pcall Oto hr (pa_cons (pv 11) (pa_cons (pv 5) (pa_cons (pv 7) (pa_cons (pv 2) (pa_cons (pv 9) pa_nil))))))))))) (pss_one (ps_ret pe_bl)) pss_nil) ?if2)))))
      (pss_cons (ps_if (pt_not (pt_val (pcall Oto hr (pa_cons (pv 1) (pa_cons (pv 5) (pa_cons (pv 7) (pa_cons (pv 2) (pa_cons (pv 9) pa_nil)))))))) (pss_one (ps_ret pe_bl)) pss_nil)
      (pss_cons (ps_if (PW.pt (pw_or (pt_not (pt_val (pcall Oe hr (pa_cons (pprop BK.remembered BK.cl hr (pv 6)) (pa_cons (pv 8) pa_nil))))) (pw_or1 (pt_not (pt_val (pcall Oc hr (pa_cons (pv 6) (pa_cons pe_int (pa_cons (pv 2) pa_nil))))))))) (pss_one (ps_ret pe_bl)) pss_nil)
      (pss_cons (ps_if (pt_not (pt_val (pcall Oe hr (pa_cons (pmethE BK.faults BK.cl hr pass0 (pv 6) (pa_cons (pe_lst pa_nil) pa_nil)) (pa_cons (pe_lst pa_nil) pa_nil))))) (pss_one (ps_ret pe_bl)) pss_nil)
      (pss_one (ps_ret (pcall Ola hr (pa_cons (pv 1) (pa_cons (pv 5) pa_nil))))))))))))))))))))), ?_⟩
  case s2 =>
    rintro D σ H' ⟨b, v0, v2, r, rfl, hb, go⟩
    refine ⟨_, rfl, b, 8, rfl, hb, by decide, by decide, fun r0 H2 r00 r01 x2 => ⟨_, _, rfl, rfl, ?_⟩⟩
    obtain ⟨k, rfl⟩ : ∃ k : Nat, r0 = (k : Int) := ⟨r0.toNat, by omega⟩
    show D.nx (v0 :: some (.ref b) :: some (.int (1 + (k : Int))) :: r) H2
    rw [show (1 + (k : Int)) = ((1 + k : Nat) : Int) by omega]
    exact go (1 + k) H2 (by omega) (by omega) x2
  case if2 =>
    rintro D σ H' ⟨H0, J, Z, aged, b, B, nb, mk, bx, n, e2, e5, e7, e9, e11, I, hb, ln, lag, go⟩
    refine ⟨_, e11, b, 4, rfl, I.bag hb, by decide, by decide, fun r0 H2 _ _ x2 => ⟨_, _, rfl, rfl, _, rfl, ite2 (fun _ => ?_) (fun _ => go _ (I.stp hb x2))⟩⟩
    exact ⟨_, e11, _, e5, _, e7, _, e2, _, e9, H0, J, Z, aged, b, B, nb, mk, bx, n, rfl, I.stp hb x2, hb, ln, lag, fun H3 I3 => ⟨_, rfl, iteF (go _ I3)⟩⟩
  refine ⟨_, rfl, a, ns, 0, rfl, hS, by omega, fun hd H1 s1 fhd hbd => ?_⟩
  have bhd : Bag H1 hd := ⟨_, _, _, _, _, hbd⟩
  refine ⟨hd, _, _, _, rfl, bhd, fun many H2 m1 m8 x2 => ?_⟩
  refine ⟨_, rfl, hd, 3, rfl, x2.b1, by decide, by decide, fun wy H3 wy0 wy1 x3 => ?_⟩
  obtain ⟨way, rfl⟩ : ∃ k : Nat, wy = (k : Int) := ⟨wy.toNat, by omega⟩
  refine ⟨_, rfl, hd, 16, rfl, x3.b1, by decide, by decide, fun dd H4 dd0 dd1 x4 => ⟨_, _, rfl, rfl, ?_⟩⟩
  obtain ⟨dn, rfl⟩ : ∃ k : Nat, dd = (k : Int) := ⟨dd.toNat, by omega⟩
  have x24 := x2.trans (x3.trans x4)
  have S4 : Same H H4 := same_chg s1 x24.chg (fun c hc => by rw [List.mem_singleton.mp hc]; exact fhd)
  refine fun B dx hB hdx ne => ⟨B, dx, rfl, upd_same, fun td mdd H5 Y k5 ftd fmd => ⟨rfl, ?_⟩⟩
  obtain ⟨S45, mem5, f5⟩ := made hB hdx ne Y k5 ftd fmd
  clear Y k5 ftd fmd
  refine fun B2 dx2 hB2 hdx2 ne2 => ⟨B2, dx2, rfl, upd_same, fun td2 mdd2 H6 Y k6 ftd fmd => ⟨rfl, ?_⟩⟩
  obtain ⟨S56, mem6, f6⟩ := made hB2 hdx2 ne2 Y k6 ftd fmd
  clear Y k6 ftd fmd
  refine ⟨Nat.zero_le _, fun nb hnb => ?_⟩
  have s7 := same_new hnb (.lst [])
  have h7 : upd H6 nb (.lst []) nb = some (.lst []) := upd_same
  generalize upd H6 nb (.lst []) = H7 at s7 h7 ⊢
  have S67 := s7
  have S47 := S45.trans (S56.trans s7)
  have S7 : Same H H7 := S4.trans S47
  have mem1 := mem5.same (S56.trans s7)
  have mem2 := mem6.same s7
  have bhd4 : Bag H4 hd := x4.b1
  have P7 : PH H H7 [hd] [B, td, mdd] [B2, td2, mdd2] (FN nb [] []) := by
    have h5 : ∀ c ∈ [B, td, mdd], H5 c ≠ none := mem5.live
    have eN : ∀ c ∈ FN nb [] [], c = nb := fun c hc => by simpa [FN] using hc
    refine ⟨fun c hc => ?_, fun c hc => ⟨mem1.live c hc, S4.free (f5 c hc)⟩, fun c hc => ⟨mem2.live c hc, S4.free (S45.free (f6 c hc))⟩, fun c hc => ?_, fun c hc z => ?_, fun c hc z => ?_, fun c hc z => ?_, fun c hc z => h5 c hc (f6 c z), fun c hc z => ?_, fun c hc z => ?_, S7⟩
    · rw [List.mem_singleton.mp hc]; exact ⟨(bhd4.same S47).here, fhd⟩
    · rw [eN c hc]; exact ⟨(fun z => by rw [h7] at z; cases z), S4.free (S45.free (S56.free hnb))⟩
    · rw [List.mem_singleton.mp hc] at z; exact bhd4.here (f5 hd z)
    · rw [List.mem_singleton.mp hc] at z; exact bhd4.here (S45.free (f6 hd z))
    · rw [List.mem_singleton.mp hc] at z; exact (bhd4.same (S45.trans S56)).here (by rw [eN hd z]; exact hnb)
    · exact (mem5.same S56).live c hc (by rw [eN c z]; exact hnb)
    · exact mem6.live c hc (by rw [eN c z]; exact hnb)
  have bo7 : BoA H7 nb [] [] [] := ⟨rfl, rfl, h7, fun k a r n e1 => by simp at e1, fun k r n e1 => by simp at e1, ⟨by simp, by simp, .nil, .nil, by simp⟩⟩
  have bh7 : Bag H7 hd := bhd4.same S47
  -- the objects are made
  have E8 : ∀ x ∈ [B, td, mdd] ++ nbE [] nb, x ∈ [B, td, mdd] ∨ x ∈ FN nb [] [] := fun x hx => (List.mem_append.mp hx).imp_right fun h => by
    have : x = nb := by simpa [nbE] using h
    rw [this]; exact List.mem_cons_self ..
  have sqE : ∀ {A1 B1 C1 D1 E : List Addr} {Ha Hb : Hp}, PH H Ha A1 B1 C1 D1 → (∀ x ∈ E, x ∈ B1 ∨ x ∈ D1) → Chg E Ha Hb → SqL K Hb a (ns.map V.int) := fun P hE c => sqL_sm hS (same_chg P.sm c fun x hx => (hE x hx).elim (fun h => (P.lb x h).2) (fun h => (P.ld x h).2))
  refine ⟨_, rfl, _, rfl, _, rfl, _, rfl, a, ns, B, nb, many, [B, td, mdd], m00, [], [], [], rfl, (fun H' c => sqE P7 E8 c), m8, ⟨mem1, lz00, bo7, fun x hx z => P7.bd x z hx, rfl, fun k h => absurd h (Nat.not_lt_zero _), fun _ => rfl⟩, .inl rfl, fun F1 M1 as rs nds ndsB H8 X8 c8 n8 t8 _ => ⟨_, rfl, iteF ?_⟩⟩
  obtain ⟨eND, new8⟩ := t8 rfl
  subst eND
  have ndsL := X8.len
  have P8 : PH H H8 [hd] F1 [B2, td2, mdd2] (FN nb as rs) := P7.two c8 E8 n8 (fun x hx => (new8 x hx).imp_left fun h => by rw [h]; exact List.mem_cons_self ..) X8.mem.live X8.bo.here (fun x hx z => X8.dj x z hx)
  have mem28 := mem2.frame c8 (P7.offC E8)
  have bh8 := bh7.keep c8 (P7.offA E8 hd (List.mem_singleton_self _))
  have hne : nds ≠ [] := fun z => by rw [z] at ndsL; simp at ndsL; omega
  have eE : nbE nds nb = [] := by
    unfold nbE
    cases nds with
    | nil => exact absurd rfl hne
    | cons => rfl
  have E9 : ∀ x ∈ [B2, td2, mdd2] ++ nbE nds nb, x ∈ [B2, td2, mdd2] ∨ x ∈ FN nb as rs := fun x hx => by rw [eE, List.append_nil] at hx; exact .inl hx
  refine ⟨_, rfl, _, rfl, _, rfl, _, rfl, a, ns, B2, nb, many, [B2, td2, mdd2], m00, as, rs, nds, rfl, (fun H' c => sqE P8.swap E9 c), m8, ⟨mem28, lz00, X8.bo, fun x hx z => P8.cd x z hx, rfl, fun k h => absurd h (Nat.not_lt_zero _), fun _ => rfl⟩, .inr ⟨by omega, by omega⟩, fun F2 M2 as' rs' nds' ndsT H9 X9 c9 n9 _ u9 => ⟨_, rfl, iteF ?_⟩⟩
  obtain ⟨rfl, rfl, rfl⟩ := u9 hne
  have P9 : PH H H9 [hd] F1 F2 (FN nb as' rs') := (P8.swap.two c9 E9 n9 (fun x hx => .inl hx) X9.mem.live X9.bo.here (fun x hx z => X9.dj x z hx)).swap
  have mem19 := X8.mem.frame c9 (P8.swap.offC E9)
  have bh9 := bh8.keep c9 (P8.swap.offA E9 hd (List.mem_singleton_self _))
  have ndsT9 := X9.len
  -- the bank and its twin are made old
  refine ⟨_, rfl, _, rfl, _, rfl, B, many, way, F1, M1, nds', rfl, mem19, X8.lz, ndsL, m8, by omega, X8.ag, fun F3 M3 H10 c10 n10 mem10 lz10 ms10 => ⟨_, rfl, iteF ?_⟩⟩
  have E10 : ∀ x ∈ F1, x ∈ F1 ∨ x ∈ FN nb as' rs' := fun x h => .inl h
  have bo10 := X9.bo.frame c10 (fun x hx z => P9.bd x z hx)
  have P10 : PH H H10 [hd] F3 F2 (FN nb as' rs') := P9.two c10 E10 n10 (fun x hx => .inl hx) mem10.live bo10.here (fun x hx z => (n10 x hx).elim (fun h => P9.bd x h z) (P9.ld x z).1)
  have mem210 := X9.mem.frame c10 (P9.offC E10)
  have bh10 := bh9.keep c10 (P9.offA E10 hd (List.mem_singleton_self _))
  refine ⟨_, rfl, _, rfl, _, rfl, B2, many, way, F2, M2, ndsT, rfl, mem210, X9.lz, ndsT9, m8, by omega, X9.ag, fun F4 M4 H11 c11 n11 mem11 lz11 ms11 => ⟨_, rfl, iteF ?_⟩⟩
  have E11 : ∀ x ∈ F2, x ∈ F2 ∨ x ∈ FN nb as' rs' := fun x h => .inl h
  have bo11 := bo10.frame c11 (fun x hx z => P10.cd x z hx)
  have P11 : PH H H11 [hd] F3 F4 (FN nb as' rs') := (P10.swap.two c11 E11 n11 (fun x hx => .inl hx) mem11.live bo11.here (fun x hx z => (n11 x hx).elim (fun h => P10.cd x h z) (P10.ld x z).1)).swap
  have mem111 := mem10.frame c11 (P10.swap.offC E11)
  have bh11 := bh10.keep c11 (P10.swap.offA E11 hd (List.mem_singleton_self _))
  -- one young object put into an old one of the twin
  have lrow : ∀ k, k < many → (gOf nds' k).row.length = (gOf ndsT k).row.length := fun k hk => by
    rw [(X8.shp k hk).2, (X9.shp k hk).2]
  refine ⟨_, rfl, _, rfl, _, rfl, B2, nb, many, F4, M4, as', rs', nds', ndsT, rfl, mem11, lz11, ndsT9, ms11, bo11, ndsL, m8, lrow, (fun x hx z => P11.cd x z hx), fun du ds F5 M5 H12 c12 n12 mem12 yn12 on12 ms12 lds ok12 fdu ndu hdu => ?_⟩
  have E12 : ∀ x ∈ F4, x ∈ F4 ∨ x ∈ FN nb as' rs' := fun x h => .inl h
  have bo12 := bo11.frame c12 (fun x hx z => P11.cd x z hx)
  have P12 : PH H H12 [hd] F3 F5 (FN nb as' rs') := (P11.swap.two c12 E12 n12 (fun x hx => .inl hx) mem12.live bo12.here (fun x hx z => (n12 x hx).elim (fun h => P11.cd x h z) (P11.ld x z).1)).swap
  have mem112 := mem111.frame c12 (P11.swap.offC E12)
  have bh12 := bh11.keep c12 (P11.swap.offA E12 hd (List.mem_singleton_self _))
  refine ⟨_, rfl, rfl, _, rfl, iteF ?_⟩
  refine ⟨by show 1 ≤ sizeLine; omega, fun x0 hx0 => ?_⟩
  have s13 := same_new hx0 (.lst [.bl false])
  have hx2 : upd H12 x0 (.lst [.bl false]) x0 = some (.lst [.bl false]) := upd_same
  generalize upd H12 x0 (.lst [.bl false]) = H13 at s13 hx2 ⊢
  refine ⟨_, rfl, x0, _, _, rfl, rfl, hx2, by omega, by omega, by show 1 * (many : Int).toNat ≤ _; omega, fun mk hmk => ?_⟩
  have s14 := same_new hmk (.lst ((List.replicate (many : Int).toNat [V.bl false]).flatten))
  have h14 : upd H13 mk (.lst ((List.replicate (many : Int).toNat [V.bl false]).flatten)) mk = some (.lst (blF (fun _ => false) many)) := by
    rw [upd_same, rep_flat, blF_false]; rfl
  generalize upd H13 mk (.lst ((List.replicate (many : Int).toNat [V.bl false]).flatten)) = H14 at s14 h14 ⊢
  have S14 := s13.trans s14
  have P14 := P12.same S14
  have fmk : H12 mk = none := s13.free hmk
  have fduH : H du = none := P11.sm.free fdu
  have hduN : H12 du ≠ none := by rw [hdu]; exact fun z => nomatch z
  have J0 : SV K C CT H (fun H' => Mem K C CT H' B2 F5 M5 ∧ H' du = some (.lst (nats ds))) (du :: F5) many B nb mk [hd] many H14 := by
    refine ⟨F3, M3, as', rs', nds', (fun _ => false), ⟨mem112.same S14, bo12.same S14, h14, lz10, fun z => bo12.here mk z fmk, fun x hx => ?_, fun x hx => ?_, by rw [ndsL]; exact Nat.le_refl _, P14.sm, fun x hx => ?_, fun x hx => (P12.lb x hx).2, fun E Ha Hb c hE jh => ⟨jh.1.frame c (fun x hx => hE x (List.mem_cons_of_mem _ hx)), c.keep du _ (hE du (List.mem_cons_self ..)) jh.2⟩, ⟨mem12.same S14, S14 _ _ hdu⟩, fun x hx => ?_⟩⟩
    · rcases List.mem_cons.mp hx with h | h
      · rw [h]; exact mem112.fresh fmk
      · exact fun z => P12.bd x z h
    · rw [List.mem_singleton.mp hx]
      refine ⟨bh12.same S14, fun z => ?_, P12.ab hd (List.mem_singleton_self _), fhd⟩
      rcases List.mem_cons.mp z with h | h
      · exact bh12.here (by rw [h]; exact fmk)
      · exact P12.ad hd (List.mem_singleton_self _) h
    · rcases List.mem_cons.mp hx with h | h
      · rw [h]; exact P12.sm.free fmk
      · exact (P12.ld x h).2
    · rcases List.mem_cons.mp hx with h | h
      · rw [h]
        refine ⟨fun z => ?_, fun z => ?_, fun z => ?_, fun z => hduN (S14.free z)⟩
        · rcases List.mem_cons.mp z with h | h
          · exact hduN (by rw [h]; exact fmk)
          · exact (P11.ld du h).1 fdu
        · exact (P11.lb du z).1 fdu
        · rw [List.mem_singleton.mp z] at fdu; exact bh11.here fdu
      · refine ⟨fun z => ?_, fun z => P12.bc x z h, fun z => ?_, fun z => (P12.lc x h).1 (S14.free z)⟩
        · rcases List.mem_cons.mp z with e | e
          · exact (P12.lc x h).1 (by rw [e]; exact fmk)
          · exact P12.cd x h e
        · exact P12.ac x z h
  obtain ⟨J, eJ⟩ : ∃ J : Hp → Prop, J = fun H' => Mem K C CT H' B2 F5 M5 ∧ H' du = some (.lst (nats ds)) := ⟨_, rfl⟩
  rw [← eJ] at J0
  refine ⟨_, rfl, ((3 + dn : Nat) : Int), rfl, by omega, by omega, ?_⟩
  obtain ⟨dN, edN⟩ : ∃ dN, dN = 3 + dn := ⟨_, rfl⟩
  rw [← edN]
  refine for_range (lo := 0) (n := dN) (fun i σ H' => ∃ o10 o11, σ = [some (.ref a), some (.ref hd), some (.int (many : Nat)), some (.int (way : Nat)), some (.int (3 + (dn : Int))), some (.ref B), some (.ref B2), some (.ref nb), some (.ref du), some (.ref mk), o10, o11] ∧ SV K C CT H J (du :: F5) many B nb mk [hd] (many + i) H') ⟨none, none, rfl, J0⟩ ?_ ?_
  · rintro i σ H15 hi ⟨o10, o11, rfl, I⟩
    refine ⟨_, rfl, _, rfl, _, _, rfl, rfl, a, ns, 9 + i, (by show [V.ref a, V.int (9 + (0 + (i : Int)))] = _; rw [show (9 + (0 + (i : Int))) = ((9 + i : Nat) : Int) by omega]), sqL_sm hS I.sm, by omega, fun b H16 s16 fb hb16 => ?_⟩
    have I16 := I.box s16 fb ⟨_, _, _, _, _, hb16⟩
    have hb : b ∈ [b, hd] := List.mem_cons_self ..
    refine ⟨_, rfl, _, rfl, _, rfl, _, rfl, _, rfl, H, J, du :: F5, many, b, B, nb, mk, [b, hd], many + i, rfl, I16, hb, by omega, m1, fun H17 I17 => ⟨_, rfl, iteF ?_⟩⟩
    exact ⟨H, J, du :: F5, many, b, B, nb, mk, [b, hd], many + i + 1, rfl, rfl, rfl, rfl, rfl, I17, hb, by omega, m1, fun H18 I18 => ⟨_, _, rfl, I18.less (fun c hc => List.mem_cons_of_mem _ hc) (Nat.le_refl _)⟩⟩
  rintro σ H15 ⟨o10, o11, rfl, I⟩
  have hb : hd ∈ [hd] := List.mem_singleton_self _
  refine ⟨_, rfl, _, rfl, _, rfl, _, rfl, _, rfl, H, J, du :: F5, many, hd, B, nb, mk, [hd], many + dN, rfl, I, hb, by omega, m1, fun H16 I16 => ⟨_, rfl, iteF ?_⟩⟩
  obtain ⟨F6, M6, as6, rs6, nds6, Mk6, X6⟩ := I16
  have j6 := X6.jh
  rw [eJ] at j6
  obtain ⟨memT, hduT⟩ := j6
  have XN := memT
  obtain ⟨td, md, L, Y, _⟩ := XN
  obtain ⟨dx, hBT⟩ := Y.bk.hB
  refine ⟨_, rfl, B2, dx, _, rfl, hBT, B2, dx, td, md, _, _, M5.ms, rfl, hBT, Y.hM, fun rl pr H17 pm so s17 fpr hpr => ?_⟩
  rw [ordV_nats] at hpr
  have erl : rl = ds := by
    rw [ms12] at pm
    match rl, ds, pm, lds with
    | [], [], _, _ => rfl
    | [x], [y], pm, _ =>
      have := pm.mem_iff.mp (List.mem_cons_self ..)
      rw [List.mem_singleton.mp this]
    | x :: y :: r, [z], pm, _ => have := pm.length_eq; simp at this
    | x :: r, [], pm, _ => have := pm.length_eq; simp at this
    | [], y :: r, pm, _ => have := pm.length_eq; simp at this
    | x :: r, y :: z :: s, _, l => simp at l
  have nE : nats ds = (ds.map fun k => ((k : Nat) : Int)).map V.int := by unfold nats; rw [List.map_map]; rfl
  rw [erl] at hpr
  refine ⟨_, rfl, _, _, rfl, ⟨_, rfl, iteF ?_⟩, .inl (same_lst hpr (by rw [s17 _ _ hduT, nE]) (reps_ints _) (reps_ints _) (by rw [List.length_map, List.length_map]; omega) (Nat.le_trans (deps_ints _) (by decide)))⟩
  have mem17 := memT.same s17
  refine ⟨_, rfl, _, rfl, B2, 1, many, F5, M5, rfl, mem17, yn12, on12, by omega, ⟨_, rfl, iteF ?_⟩⟩
  refine ⟨_, rfl, B2, dx, _, rfl, s17 _ _ hBT, rfl, Nat.zero_le _, fun p18 hp18 => ?_⟩
  have s18 := same_new hp18 (.lst [])
  have h18 : upd H17 p18 (.lst []) p18 = some (.lst []) := upd_same
  generalize upd H17 p18 (.lst []) = H18 at s18 h18 ⊢
  refine ⟨B2, F5, M5, p18, [], [], M5.top, rfl, mem17.same s18, (fun x dx e he => (ok12.clo x dx e he).ok fun k dk => MM.dom_lt dk), (fun x dx => (ok12.nd x dx).2), ok12.mky, ok12.le, h18, .nil, (fun e he => by cases he), Nat.zero_le _, fun p19 us19 ds19 H19 s19 fp19 hp19 r19 _ mem19 => ?_⟩
  have d0 : ds19 = [] := by
    cases ds19 with
    | nil => rfl
    | cons d r =>
      exfalso
      obtain ⟨n, h⟩ := (mem19 d).mp (List.mem_cons_self ..)
      rcases h with h | ⟨x, dx, h⟩
      · cases h
      · obtain ⟨e, he, q⟩ := of_tgs h
        exact n ((ok12.clo x dx e he).tg q)
  rw [d0] at r19
  have u0 : us19 = [] := by
    have := r19.len
    cases us19 with
    | nil => rfl
    | cons => simp at this
  rw [u0] at hp19
  refine ⟨Nat.zero_le _, fun p20 hp20 => ?_⟩
  have s20 := same_new hp20 (.lst [])
  refine ⟨_, _, rfl, ⟨_, rfl, iteF ?_⟩, .inl (same_lst (ds := []) (s20 _ _ hp19) upd_same .nil .nil (by decide) (by decide))⟩
  have S20 := s17.trans (s18.trans (s19.trans s20))
  have X20 := X6.same S20
  obtain ⟨c1, c2, c3, c4⟩ := X20.bag hd hb
  exact ⟨_, rfl, _, rfl, hd, B, F6, M6, rfl, c1, X20.mem, X20.lz.law.ok, c3, fun H' => q H'⟩
end
end D0
namespace D0
open PySem PySem.Spec PyProof.Rows L2 SX NumText
section
variable {P : Program} {w : World} {K : PySem.W.Frag} {mg : Str → Option Value} {base : Heap} {CS C CT : Addr}
theorem bm_ok (T : Txt K w mg) (TT : ThT K mg CT) (TB : HeT K mg C) : BM P w K mg base C CT := by
  have Oy := ok_is_young (P := P) (base := base) T
  have Oa := ok_address_of (P := P) (base := base) T
  have Ory := ok_refers_to_young T Oa Oy
  have Ore := ok_Heap_remember T TB Oy Ory
  have Opm := ok_moved (P := P) (base := base) T
  have Om := ok_meet_all T TB Oa
  have Orh := ok_reach T TT TB Om
  have Omy := ok_meet_young T Oy Oa
  have Orm := ok_Heap_remembered (P := P) (base := base) T TB
  have Oryd := ok_Heap_reached_young T TT TB Orm Omy
  have Opl := ok_Heap_place (P := P) (w := w) (base := base) TT TB
  have Ord := ok_Heap_readdress T TT TB Opm Ore
  have Oal := ok_Heap_move_all T TT TB Orh Opm
  have Oyg := ok_Heap_move_young T TT TB Oryd Orm Opl Ord
  exact { cl := TB.cl, make := ok_Heap_make T TT TB, set_slot := ok_Heap_set_slot TT TB Ore, change := ok_Heap_change T TT TB Ore, faults := okG_Heap_faults T TT TB Oa Oy Ory, slots_of := ok_Store_slots_of T TT TB, young := ok_Heap_young TB, old := ok_Heap_old TB, remembered := Orm, len := ok_Heap___len__ T TB, collect := ok_Heap_collect T TB Oal Oyg Opm }
theorem all_ok (T : Txt K w mg) (TT : ThT K mg CT) (TX : StX K mg CS) (TB : HeT K mg C) : OkD P w K mg base CX0 14 "law" p_law (spLaw K) := by
  have BK := bm_ok (P := P) (base := base) T TT TB
  have O := ok__law_take (P := P) (base := base) T
  have OD := okD__law_take (P := P) (base := base) T
  have Oc := okD__law_cell (P := P) (base := base) T
  have Ob := okD__law_box T Oc
  have Ow := ok__law_word T O
  have On := ok__law_name T O
  have Op := ok__law_plain T O Ow
  have Oki := ok__law_kinds (P := P) (base := base) T
  have Ok := ok__law_kind T O Oki
  have OkD := okD__law_kind T OD Oki
  have Om := ok__law_marks (P := P) (base := base) T
  have Opd := ok__law_pending T O Op
  have Omk := ok__law_marked T O Op Opd
  have Oen := ok__law_entry T O Op Omk
  have Ot := ok__law_tag T O On
  have Of := ok__law_form T O Ow Om Oen Ot
  have OfD := okD__law_form T OD O Ow Om Oen Ot
  have Ofr := ok__law_free (P := P) (base := base) T
  have Omv := ok__law_moved (P := P) (base := base) T
  have Ose := ok__law_sent T Omv
  have Osa := ok__law_same (P := P) (base := base) T 9
  have Otg := ok__law_target (P := P) (base := base) T
  have Osp := ok__law_spoil T Osa
  have Oer := ok__law_errors (P := P) (base := base) T
  have Oco := ok__law_counts T BK Osa
  have Ota := ok__law_table (P := P) (base := base) T
  have Ono := ok__law_note T Otg
  have Ofi := ok__law_first T BK Ob OkD OfD Oer Ose Osa Oco
  have Oag := ok__law_aged T BK Osa Oco
  have Oma := ok__law_make T BK Ok Of Ota Ose Osa
  have Och := ok__law_change T BK O Of Ono Ota Ose Osp
  have Ode := ok__law_deed T BK O Ofr Om Oen Oma Och Ono Ota Omv
  have Ost := ok__law_strays T BK O Ota Osa
  have Oto := ok__law_told T BK Osa Oco Ota Ose Ost
  have Oot := ok__law_other T BK Ofr Osa
  have Ola := ok__law_last T BK O Osa Oco
  exact ok_law T TX TB BK Ob O Ofi Oag Oot Ode Oto Osa Oco Ola
end
end D0
namespace D0
open PySem PySem.Spec PyProof.Rows L2 SX NumText
set_option maxHeartbeats 8000000 in
theorem all_mk {l : PySem.W.OpenLaw} {w : World} {K : PySem.W.Frag} {h : Heap} {mg : Str → Option Value} {fa : Addr} (X : K.In h) (G : h.Ns mainGlobals mg) (hfa : mg "law" = some (.ref fa))
    {od1 an1 : Option Addr} {sl1 : Array (Option Value)} {oc1 kV1 dc1 pm1 cd1 ct1 : Value} {f1 : Addr}
    {od2 an2 : Option Addr} {sl2 : Array (Option Value)} {oc2 kV2 dc2 pm2 cd2 ct2 : Value} {f2 : Addr}
    {od3 an3 : Option Addr} {sl3 : Array (Option Value)} {oc3 kV3 dc3 pm3 cd3 ct3 : Value} {f3 : Addr}
    {od4 an4 : Option Addr} {sl4 : Array (Option Value)} {oc4 kV4 dc4 pm4 cd4 ct4 : Value} {f4 : Addr}
    {od5 an5 : Option Addr} {sl5 : Array (Option Value)} {oc5 kV5 dc5 pm5 cd5 ct5 : Value} {f5 : Addr}
    {od6 an6 : Option Addr} {sl6 : Array (Option Value)} {oc6 kV6 dc6 pm6 cd6 ct6 : Value} {f6 : Addr}
    {od7 an7 : Option Addr} {sl7 : Array (Option Value)} {oc7 kV7 dc7 pm7 cd7 ct7 : Value} {f7 : Addr}
    {od8 an8 : Option Addr} {sl8 : Array (Option Value)} {oc8 kV8 dc8 pm8 cd8 ct8 : Value} {f8 : Addr}
    {od9 an9 : Option Addr} {sl9 : Array (Option Value)} {oc9 kV9 dc9 pm9 cd9 ct9 : Value} {f9 : Addr}
    {od10 an10 : Option Addr} {sl10 : Array (Option Value)} {oc10 kV10 dc10 pm10 cd10 ct10 : Value} {f10 : Addr}
    {od11 an11 : Option Addr} {sl11 : Array (Option Value)} {oc11 kV11 dc11 pm11 cd11 ct11 : Value} {f11 : Addr}
    {pr11 : Addr} {pt11 : List Value}
    {od12 an12 : Option Addr} {sl12 : Array (Option Value)} {oc12 kV12 dc12 pm12 cd12 ct12 : Value} {f12 : Addr}
    {pr12 : Addr} {pt12 : List Value}
    {od13 an13 : Option Addr} {sl13 : Array (Option Value)} {oc13 kV13 dc13 pm13 cd13 ct13 : Value} {f13 : Addr}
    {pr13 : Addr} {pt13 : List Value}
    {od14 an14 : Option Addr} {sl14 : Array (Option Value)} {oc14 kV14 dc14 pm14 cd14 ct14 : Value} {f14 : Addr}
    {od15 an15 : Option Addr} {sl15 : Array (Option Value)} {oc15 kV15 dc15 pm15 cd15 ct15 : Value} {f15 : Addr}
    {od16 an16 : Option Addr} {sl16 : Array (Option Value)} {oc16 kV16 dc16 pm16 cd16 ct16 : Value} {f16 : Addr}
    {od17 an17 : Option Addr} {sl17 : Array (Option Value)} {oc17 kV17 dc17 pm17 cd17 ct17 : Value} {f17 : Addr}
    {od18 an18 : Option Addr} {sl18 : Array (Option Value)} {oc18 kV18 dc18 pm18 cd18 ct18 : Value} {f18 : Addr}
    {dT18 : Addr} {dn18 : Nat} {dk18 : Value} {dd18 : Option Addr} {ds18 : Array (Option Value)}
    {od19 an19 : Option Addr} {sl19 : Array (Option Value)} {oc19 kV19 dc19 pm19 cd19 ct19 : Value} {f19 : Addr}
    {od20 an20 : Option Addr} {sl20 : Array (Option Value)} {oc20 kV20 dc20 pm20 cd20 ct20 : Value} {f20 : Addr}
    {od21 an21 : Option Addr} {sl21 : Array (Option Value)} {oc21 kV21 dc21 pm21 cd21 ct21 : Value} {f21 : Addr}
    {od22 an22 : Option Addr} {sl22 : Array (Option Value)} {oc22 kV22 dc22 pm22 cd22 ct22 : Value} {f22 : Addr}
    {od23 an23 : Option Addr} {sl23 : Array (Option Value)} {oc23 kV23 dc23 pm23 cd23 ct23 : Value} {f23 : Addr}
    {od24 an24 : Option Addr} {sl24 : Array (Option Value)} {oc24 kV24 dc24 pm24 cd24 ct24 : Value} {f24 : Addr}
    {od25 an25 : Option Addr} {sl25 : Array (Option Value)} {oc25 kV25 dc25 pm25 cd25 ct25 : Value} {f25 : Addr}
    {od26 an26 : Option Addr} {sl26 : Array (Option Value)} {oc26 kV26 dc26 pm26 cd26 ct26 : Value} {f26 : Addr}
    {od27 an27 : Option Addr} {sl27 : Array (Option Value)} {oc27 kV27 dc27 pm27 cd27 ct27 : Value} {f27 : Addr}
    {od28 an28 : Option Addr} {sl28 : Array (Option Value)} {oc28 kV28 dc28 pm28 cd28 ct28 : Value} {f28 : Addr}
    {od29 an29 : Option Addr} {sl29 : Array (Option Value)} {oc29 kV29 dc29 pm29 cd29 ct29 : Value} {f29 : Addr}
    {od30 an30 : Option Addr} {sl30 : Array (Option Value)} {oc30 kV30 dc30 pm30 cd30 ct30 : Value} {f30 : Addr}
    {od31 an31 : Option Addr} {sl31 : Array (Option Value)} {oc31 kV31 dc31 pm31 cd31 ct31 : Value} {f31 : Addr}
    {od32 an32 : Option Addr} {sl32 : Array (Option Value)} {oc32 kV32 dc32 pm32 cd32 ct32 : Value} {f32 : Addr}
    {od33 an33 : Option Addr} {sl33 : Array (Option Value)} {oc33 kV33 dc33 pm33 cd33 ct33 : Value} {f33 : Addr}
    {od34 an34 : Option Addr} {sl34 : Array (Option Value)} {oc34 kV34 dc34 pm34 cd34 ct34 : Value} {f34 : Addr}
    {od35 an35 : Option Addr} {sl35 : Array (Option Value)} {oc35 kV35 dc35 pm35 cd35 ct35 : Value} {f35 : Addr}
    {od36 an36 : Option Addr} {sl36 : Array (Option Value)} {oc36 kV36 dc36 pm36 cd36 ct36 : Value} {f36 : Addr}
    {od37 an37 : Option Addr} {sl37 : Array (Option Value)} {oc37 kV37 dc37 pm37 cd37 ct37 : Value} {f37 : Addr}
    {od38 an38 : Option Addr} {sl38 : Array (Option Value)} {oc38 kV38 dc38 pm38 cd38 ct38 : Value} {f38 : Addr}
    {od39 an39 : Option Addr} {sl39 : Array (Option Value)} {oc39 kV39 dc39 pm39 cd39 ct39 : Value} {f39 : Addr}
    {od40 an40 : Option Addr} {sl40 : Array (Option Value)} {oc40 kV40 dc40 pm40 cd40 ct40 : Value} {f40 : Addr}
    {od41 an41 : Option Addr} {sl41 : Array (Option Value)} {oc41 kV41 dc41 pm41 cd41 ct41 : Value} {f41 : Addr}
    {od42 an42 : Option Addr} {sl42 : Array (Option Value)} {oc42 kV42 dc42 pm42 cd42 ct42 : Value} {f42 : Addr}
    {od43 an43 : Option Addr} {sl43 : Array (Option Value)} {oc43 kV43 dc43 pm43 cd43 ct43 : Value} {f43 : Addr}
    {od44 an44 : Option Addr} {sl44 : Array (Option Value)} {oc44 kV44 dc44 pm44 cd44 ct44 : Value} {f44 : Addr}
    {od45 an45 : Option Addr} {sl45 : Array (Option Value)} {oc45 kV45 dc45 pm45 cd45 ct45 : Value} {f45 : Addr}
    {od46 an46 : Option Addr} {sl46 : Array (Option Value)} {oc46 kV46 dc46 pm46 cd46 ct46 : Value} {f46 : Addr}
    {od47 an47 : Option Addr} {sl47 : Array (Option Value)} {oc47 kV47 dc47 pm47 cd47 ct47 : Value} {f47 : Addr}
    {od48 an48 : Option Addr} {sl48 : Array (Option Value)} {oc48 kV48 dc48 pm48 cd48 ct48 : Value} {f48 : Addr}
    {od49 an49 : Option Addr} {sl49 : Array (Option Value)} {oc49 kV49 dc49 pm49 cd49 ct49 : Value} {f49 : Addr}
    {od50 an50 : Option Addr} {sl50 : Array (Option Value)} {oc50 kV50 dc50 pm50 cd50 ct50 : Value} {f50 : Addr}
    {od51 an51 : Option Addr} {sl51 : Array (Option Value)} {oc51 kV51 dc51 pm51 cd51 ct51 : Value} {f51 : Addr}
    {od52 an52 : Option Addr} {sl52 : Array (Option Value)} {oc52 kV52 dc52 pm52 cd52 ct52 : Value} {f52 : Addr}
    {od53 an53 : Option Addr} {sl53 : Array (Option Value)} {oc53 kV53 dc53 pm53 cd53 ct53 : Value} {f53 : Addr}
    {od54 an54 : Option Addr} {sl54 : Array (Option Value)} {oc54 kV54 dc54 pm54 cd54 ct54 : Value} {f54 : Addr}
    {od55 an55 : Option Addr} {sl55 : Array (Option Value)} {oc55 kV55 dc55 pm55 cd55 ct55 : Value} {f55 : Addr}
    {od56 an56 : Option Addr} {sl56 : Array (Option Value)} {oc56 kV56 dc56 pm56 cd56 ct56 : Value} {f56 : Addr}
    {od57 an57 : Option Addr} {sl57 : Array (Option Value)} {oc57 kV57 dc57 pm57 cd57 ct57 : Value} {f57 : Addr}
    {od58 an58 : Option Addr} {sl58 : Array (Option Value)} {oc58 kV58 dc58 pm58 cd58 ct58 : Value} {f58 : Addr}
    {od59 an59 : Option Addr} {sl59 : Array (Option Value)} {oc59 kV59 dc59 pm59 cd59 ct59 : Value} {f59 : Addr}
    {od60 an60 : Option Addr} {sl60 : Array (Option Value)} {oc60 kV60 dc60 pm60 cd60 ct60 : Value} {f60 : Addr}
    {od61 an61 : Option Addr} {sl61 : Array (Option Value)} {oc61 kV61 dc61 pm61 cd61 ct61 : Value} {f61 : Addr}
    {CT CS CH : Addr}
    (a1 : PySem.W.nsIn K mainGlobals "_wall" = some (some (.ref f1)))
    (l1 : K.lookup f1 = some ⟨oc1, od1, .func (PySem.W.fnOf "_wall" "_wall" (defArgs s__wall) (defBody s__wall) (defScope s__wall) .none kV1 dc1 pm1 an1 cd1 ct1), sl1⟩)
    (c1 : PySem.W.codeIn K cd1 "_wall" = true)
    (k1 : PySem.W.keepIn K (.ref f1) = true)
    (a2 : PySem.W.findIn K (.ref CT) "__init__" = some (some (.ref f2)))
    (i2 : PySem.W.isFn K (.ref f2) = true)
    (l2 : K.lookup f2 = some ⟨oc2, od2, .func (PySem.W.fnOf "__init__" "Thing.__init__" (defArgs s_Thing___init__) (defBody s_Thing___init__) (defScope s_Thing___init__) .none kV2 dc2 pm2 an2 cd2 ct2), sl2⟩)
    (c2 : PySem.W.codeIn K cd2 "Thing.__init__" = true)
    (k2 : PySem.W.keepIn K (.ref f2) = true)
    (v3 : PySem.W.findCls K (.ref CS) (.type "type") "__init__" = some (.val (.ref f3)))
    (l3 : K.lookup f3 = some ⟨oc3, od3, .func (PySem.W.fnOf "__init__" "Store.__init__" (defArgs s_Store___init__) (defBody s_Store___init__) (defScope s_Store___init__) .none kV3 dc3 pm3 an3 cd3 ct3), sl3⟩)
    (c3 : PySem.W.codeIn K cd3 "Store.__init__" = true)
    (k3 : PySem.W.keepIn K (.ref f3) = true)
    (a4 : PySem.W.findIn K (.ref CH) "slots_of" = some (some (.ref f4)))
    (i4 : PySem.W.isFn K (.ref f4) = true)
    (l4 : K.lookup f4 = some ⟨oc4, od4, .func (PySem.W.fnOf "slots_of" "Store.slots_of" (defArgs s_Store_slots_of) (defBody s_Store_slots_of) (defScope s_Store_slots_of) .none kV4 dc4 pm4 an4 cd4 ct4), sl4⟩)
    (c4 : PySem.W.codeIn K cd4 "Store.slots_of" = true)
    (k4 : PySem.W.keepIn K (.ref f4) = true)
    (a5 : PySem.W.findIn K (.ref CH) "reach" = some (some (.ref f5)))
    (i5 : PySem.W.isFn K (.ref f5) = true)
    (l5 : K.lookup f5 = some ⟨oc5, od5, .func (PySem.W.fnOf "reach" "Store.reach" (defArgs s_Store_reach) (defBody s_Store_reach) (defScope s_Store_reach) .none kV5 dc5 pm5 an5 cd5 ct5), sl5⟩)
    (c5 : PySem.W.codeIn K cd5 "Store.reach" = true)
    (k5 : PySem.W.keepIn K (.ref f5) = true)
    (a6 : PySem.W.findIn K (.ref CH) "meet_all" = some (some (.ref f6)))
    (i6 : PySem.W.isFn K (.ref f6) = true)
    (l6 : K.lookup f6 = some ⟨oc6, od6, .func (PySem.W.fnOf "meet_all" "Store.meet_all" (defArgs s_Store_meet_all) (defBody s_Store_meet_all) (defScope s_Store_meet_all) .none kV6 dc6 pm6 an6 cd6 ct6), sl6⟩)
    (c6 : PySem.W.codeIn K cd6 "Store.meet_all" = true)
    (k6 : PySem.W.keepIn K (.ref f6) = true)
    (a7 : PySem.W.nsIn K mainGlobals "address_of" = some (some (.ref f7)))
    (l7 : K.lookup f7 = some ⟨oc7, od7, .func (PySem.W.fnOf "address_of" "address_of" (defArgs s_address_of) (defBody s_address_of) (defScope s_address_of) .none kV7 dc7 pm7 an7 cd7 ct7), sl7⟩)
    (c7 : PySem.W.codeIn K cd7 "address_of" = true)
    (k7 : PySem.W.keepIn K (.ref f7) = true)
    (a8 : PySem.W.nsIn K mainGlobals "moved" = some (some (.ref f8)))
    (l8 : K.lookup f8 = some ⟨oc8, od8, .func (PySem.W.fnOf "moved" "moved" (defArgs s_moved) (defBody s_moved) (defScope s_moved) .none kV8 dc8 pm8 an8 cd8 ct8), sl8⟩)
    (c8 : PySem.W.codeIn K cd8 "moved" = true)
    (k8 : PySem.W.keepIn K (.ref f8) = true)
    (a9 : PySem.W.findIn K (.ref CH) "__init__" = some (some (.ref f9)))
    (i9 : PySem.W.isFn K (.ref f9) = true)
    (l9 : K.lookup f9 = some ⟨oc9, od9, .func (PySem.W.fnOf "__init__" "Heap.__init__" (defArgs s_Heap___init__) (defBody s_Heap___init__) (defScope s_Heap___init__) .none kV9 dc9 pm9 an9 cd9 ct9), sl9⟩)
    (c9 : PySem.W.codeIn K cd9 "Heap.__init__" = true)
    (k9 : PySem.W.keepIn K (.ref f9) = true)
    (a10 : PySem.W.findIn K (.ref CH) "__len__" = some (some (.ref f10)))
    (i10 : PySem.W.isFn K (.ref f10) = true)
    (l10 : K.lookup f10 = some ⟨oc10, od10, .func (PySem.W.fnOf "__len__" "Heap.__len__" (defArgs s_Heap___len__) (defBody s_Heap___len__) (defScope s_Heap___len__) .none kV10 dc10 pm10 an10 cd10 ct10), sl10⟩)
    (c10 : PySem.W.codeIn K cd10 "Heap.__len__" = true)
    (k10 : PySem.W.keepIn K (.ref f10) = true)
    (a11 : PySem.W.findIn K (.ref CH) "young" = some (some (.ref pr11)))
    (pg11 : PySem.W.specialIn K (.ref pr11) "__get__" = some (some (.builtin "property.__get__")))
    (pk11 : PySem.W.takesIn K (.ref pr11) = some true)
    (pc11 : PySem.W.recIn K pr11 "property" = some (.ref f11 :: pt11))
    (l11 : K.lookup f11 = some ⟨oc11, od11, .func (PySem.W.fnOf "young" "Heap.young" (defArgs s_Heap_young) (defBody s_Heap_young) (defScope s_Heap_young) .none kV11 dc11 pm11 an11 cd11 ct11), sl11⟩)
    (c11 : PySem.W.codeIn K cd11 "Heap.young" = true)
    (k11 : PySem.W.keepIn K (.ref f11) = true)
    (a12 : PySem.W.findIn K (.ref CH) "old" = some (some (.ref pr12)))
    (pg12 : PySem.W.specialIn K (.ref pr12) "__get__" = some (some (.builtin "property.__get__")))
    (pk12 : PySem.W.takesIn K (.ref pr12) = some true)
    (pc12 : PySem.W.recIn K pr12 "property" = some (.ref f12 :: pt12))
    (l12 : K.lookup f12 = some ⟨oc12, od12, .func (PySem.W.fnOf "old" "Heap.old" (defArgs s_Heap_old) (defBody s_Heap_old) (defScope s_Heap_old) .none kV12 dc12 pm12 an12 cd12 ct12), sl12⟩)
    (c12 : PySem.W.codeIn K cd12 "Heap.old" = true)
    (k12 : PySem.W.keepIn K (.ref f12) = true)
    (a13 : PySem.W.findIn K (.ref CH) "remembered" = some (some (.ref pr13)))
    (pg13 : PySem.W.specialIn K (.ref pr13) "__get__" = some (some (.builtin "property.__get__")))
    (pk13 : PySem.W.takesIn K (.ref pr13) = some true)
    (pc13 : PySem.W.recIn K pr13 "property" = some (.ref f13 :: pt13))
    (l13 : K.lookup f13 = some ⟨oc13, od13, .func (PySem.W.fnOf "remembered" "Heap.remembered" (defArgs s_Heap_remembered) (defBody s_Heap_remembered) (defScope s_Heap_remembered) .none kV13 dc13 pm13 an13 cd13 ct13), sl13⟩)
    (c13 : PySem.W.codeIn K cd13 "Heap.remembered" = true)
    (k13 : PySem.W.keepIn K (.ref f13) = true)
    (a14 : PySem.W.findIn K (.ref CH) "make" = some (some (.ref f14)))
    (i14 : PySem.W.isFn K (.ref f14) = true)
    (l14 : K.lookup f14 = some ⟨oc14, od14, .func (PySem.W.fnOf "make" "Heap.make" (defArgs s_Heap_make) (defBody s_Heap_make) (defScope s_Heap_make) .none kV14 dc14 pm14 an14 cd14 ct14), sl14⟩)
    (c14 : PySem.W.codeIn K cd14 "Heap.make" = true)
    (k14 : PySem.W.keepIn K (.ref f14) = true)
    (a15 : PySem.W.findIn K (.ref CH) "set_slot" = some (some (.ref f15)))
    (i15 : PySem.W.isFn K (.ref f15) = true)
    (l15 : K.lookup f15 = some ⟨oc15, od15, .func (PySem.W.fnOf "set_slot" "Heap.set_slot" (defArgs s_Heap_set_slot) (defBody s_Heap_set_slot) (defScope s_Heap_set_slot) .none kV15 dc15 pm15 an15 cd15 ct15), sl15⟩)
    (c15 : PySem.W.codeIn K cd15 "Heap.set_slot" = true)
    (k15 : PySem.W.keepIn K (.ref f15) = true)
    (a16 : PySem.W.findIn K (.ref CH) "change" = some (some (.ref f16)))
    (i16 : PySem.W.isFn K (.ref f16) = true)
    (l16 : K.lookup f16 = some ⟨oc16, od16, .func (PySem.W.fnOf "change" "Heap.change" (defArgs s_Heap_change) (defBody s_Heap_change) (defScope s_Heap_change) .none kV16 dc16 pm16 an16 cd16 ct16), sl16⟩)
    (c16 : PySem.W.codeIn K cd16 "Heap.change" = true)
    (k16 : PySem.W.keepIn K (.ref f16) = true)
    (a17 : PySem.W.findIn K (.ref CH) "remember" = some (some (.ref f17)))
    (i17 : PySem.W.isFn K (.ref f17) = true)
    (l17 : K.lookup f17 = some ⟨oc17, od17, .func (PySem.W.fnOf "remember" "Heap.remember" (defArgs s_Heap_remember) (defBody s_Heap_remember) (defScope s_Heap_remember) .none kV17 dc17 pm17 an17 cd17 ct17), sl17⟩)
    (c17 : PySem.W.codeIn K cd17 "Heap.remember" = true)
    (k17 : PySem.W.keepIn K (.ref f17) = true)
    (a18 : PySem.W.findIn K (.ref CH) "collect" = some (some (.ref f18)))
    (i18 : PySem.W.isFn K (.ref f18) = true)
    (l18 : K.lookup f18 = some ⟨oc18, od18, .func (PySem.W.fnOf "collect" "Heap.collect" (defArgs s_Heap_collect) (defBody s_Heap_collect) (defScope s_Heap_collect) (.ref dT18) kV18 dc18 pm18 an18 cd18 ct18), sl18⟩)
    (t18 : K.lookup dT18 = some ⟨dk18, dd18, .seq [Value.bool false].toArray dn18, ds18⟩)
    (c18 : PySem.W.codeIn K cd18 "Heap.collect" = true)
    (k18 : PySem.W.keepIn K (.ref f18) = true)
    (a19 : PySem.W.findIn K (.ref CH) "move_all" = some (some (.ref f19)))
    (i19 : PySem.W.isFn K (.ref f19) = true)
    (l19 : K.lookup f19 = some ⟨oc19, od19, .func (PySem.W.fnOf "move_all" "Heap.move_all" (defArgs s_Heap_move_all) (defBody s_Heap_move_all) (defScope s_Heap_move_all) .none kV19 dc19 pm19 an19 cd19 ct19), sl19⟩)
    (c19 : PySem.W.codeIn K cd19 "Heap.move_all" = true)
    (k19 : PySem.W.keepIn K (.ref f19) = true)
    (a20 : PySem.W.findIn K (.ref CH) "move_young" = some (some (.ref f20)))
    (i20 : PySem.W.isFn K (.ref f20) = true)
    (l20 : K.lookup f20 = some ⟨oc20, od20, .func (PySem.W.fnOf "move_young" "Heap.move_young" (defArgs s_Heap_move_young) (defBody s_Heap_move_young) (defScope s_Heap_move_young) .none kV20 dc20 pm20 an20 cd20 ct20), sl20⟩)
    (c20 : PySem.W.codeIn K cd20 "Heap.move_young" = true)
    (k20 : PySem.W.keepIn K (.ref f20) = true)
    (a21 : PySem.W.findIn K (.ref CH) "place" = some (some (.ref f21)))
    (i21 : PySem.W.isFn K (.ref f21) = true)
    (l21 : K.lookup f21 = some ⟨oc21, od21, .func (PySem.W.fnOf "place" "Heap.place" (defArgs s_Heap_place) (defBody s_Heap_place) (defScope s_Heap_place) .none kV21 dc21 pm21 an21 cd21 ct21), sl21⟩)
    (c21 : PySem.W.codeIn K cd21 "Heap.place" = true)
    (k21 : PySem.W.keepIn K (.ref f21) = true)
    (a22 : PySem.W.findIn K (.ref CH) "readdress" = some (some (.ref f22)))
    (i22 : PySem.W.isFn K (.ref f22) = true)
    (l22 : K.lookup f22 = some ⟨oc22, od22, .func (PySem.W.fnOf "readdress" "Heap.readdress" (defArgs s_Heap_readdress) (defBody s_Heap_readdress) (defScope s_Heap_readdress) .none kV22 dc22 pm22 an22 cd22 ct22), sl22⟩)
    (c22 : PySem.W.codeIn K cd22 "Heap.readdress" = true)
    (k22 : PySem.W.keepIn K (.ref f22) = true)
    (a23 : PySem.W.findIn K (.ref CH) "reached_young" = some (some (.ref f23)))
    (i23 : PySem.W.isFn K (.ref f23) = true)
    (l23 : K.lookup f23 = some ⟨oc23, od23, .func (PySem.W.fnOf "reached_young" "Heap.reached_young" (defArgs s_Heap_reached_young) (defBody s_Heap_reached_young) (defScope s_Heap_reached_young) .none kV23 dc23 pm23 an23 cd23 ct23), sl23⟩)
    (c23 : PySem.W.codeIn K cd23 "Heap.reached_young" = true)
    (k23 : PySem.W.keepIn K (.ref f23) = true)
    (a24 : PySem.W.findIn K (.ref CH) "faults" = some (some (.ref f24)))
    (i24 : PySem.W.isFn K (.ref f24) = true)
    (l24 : K.lookup f24 = some ⟨oc24, od24, .func (PySem.W.fnOf "faults" "Heap.faults" (defArgs s_Heap_faults) (defBody s_Heap_faults) (defScope s_Heap_faults) .none kV24 dc24 pm24 an24 cd24 ct24), sl24⟩)
    (c24 : PySem.W.codeIn K cd24 "Heap.faults" = true)
    (k24 : PySem.W.keepIn K (.ref f24) = true)
    (a25 : PySem.W.nsIn K mainGlobals "is_young" = some (some (.ref f25)))
    (l25 : K.lookup f25 = some ⟨oc25, od25, .func (PySem.W.fnOf "is_young" "is_young" (defArgs s_is_young) (defBody s_is_young) (defScope s_is_young) .none kV25 dc25 pm25 an25 cd25 ct25), sl25⟩)
    (c25 : PySem.W.codeIn K cd25 "is_young" = true)
    (k25 : PySem.W.keepIn K (.ref f25) = true)
    (a26 : PySem.W.nsIn K mainGlobals "refers_to_young" = some (some (.ref f26)))
    (l26 : K.lookup f26 = some ⟨oc26, od26, .func (PySem.W.fnOf "refers_to_young" "refers_to_young" (defArgs s_refers_to_young) (defBody s_refers_to_young) (defScope s_refers_to_young) .none kV26 dc26 pm26 an26 cd26 ct26), sl26⟩)
    (c26 : PySem.W.codeIn K cd26 "refers_to_young" = true)
    (k26 : PySem.W.keepIn K (.ref f26) = true)
    (a27 : PySem.W.nsIn K mainGlobals "meet_young" = some (some (.ref f27)))
    (l27 : K.lookup f27 = some ⟨oc27, od27, .func (PySem.W.fnOf "meet_young" "meet_young" (defArgs s_meet_young) (defBody s_meet_young) (defScope s_meet_young) .none kV27 dc27 pm27 an27 cd27 ct27), sl27⟩)
    (c27 : PySem.W.codeIn K cd27 "meet_young" = true)
    (k27 : PySem.W.keepIn K (.ref f27) = true)
    (a28 : PySem.W.nsIn K mainGlobals "_law_cell" = some (some (.ref f28)))
    (l28 : K.lookup f28 = some ⟨oc28, od28, .func (PySem.W.fnOf "_law_cell" "_law_cell" (defArgs s__law_cell) (defBody s__law_cell) (defScope s__law_cell) .none kV28 dc28 pm28 an28 cd28 ct28), sl28⟩)
    (c28 : PySem.W.codeIn K cd28 "_law_cell" = true)
    (k28 : PySem.W.keepIn K (.ref f28) = true)
    (a29 : PySem.W.nsIn K mainGlobals "_law_box" = some (some (.ref f29)))
    (l29 : K.lookup f29 = some ⟨oc29, od29, .func (PySem.W.fnOf "_law_box" "_law_box" (defArgs s__law_box) (defBody s__law_box) (defScope s__law_box) .none kV29 dc29 pm29 an29 cd29 ct29), sl29⟩)
    (c29 : PySem.W.codeIn K cd29 "_law_box" = true)
    (k29 : PySem.W.keepIn K (.ref f29) = true)
    (a30 : PySem.W.nsIn K mainGlobals "_law_take" = some (some (.ref f30)))
    (l30 : K.lookup f30 = some ⟨oc30, od30, .func (PySem.W.fnOf "_law_take" "_law_take" (defArgs s__law_take) (defBody s__law_take) (defScope s__law_take) .none kV30 dc30 pm30 an30 cd30 ct30), sl30⟩)
    (c30 : PySem.W.codeIn K cd30 "_law_take" = true)
    (k30 : PySem.W.keepIn K (.ref f30) = true)
    (a31 : PySem.W.nsIn K mainGlobals "_law_same" = some (some (.ref f31)))
    (l31 : K.lookup f31 = some ⟨oc31, od31, .func (PySem.W.fnOf "_law_same" "_law_same" (defArgs s__law_same) (defBody s__law_same) (defScope s__law_same) .none kV31 dc31 pm31 an31 cd31 ct31), sl31⟩)
    (c31 : PySem.W.codeIn K cd31 "_law_same" = true)
    (k31 : PySem.W.keepIn K (.ref f31) = true)
    (a32 : PySem.W.nsIn K mainGlobals "_law_word" = some (some (.ref f32)))
    (l32 : K.lookup f32 = some ⟨oc32, od32, .func (PySem.W.fnOf "_law_word" "_law_word" (defArgs s__law_word) (defBody s__law_word) (defScope s__law_word) .none kV32 dc32 pm32 an32 cd32 ct32), sl32⟩)
    (c32 : PySem.W.codeIn K cd32 "_law_word" = true)
    (k32 : PySem.W.keepIn K (.ref f32) = true)
    (a33 : PySem.W.nsIn K mainGlobals "_law_name" = some (some (.ref f33)))
    (l33 : K.lookup f33 = some ⟨oc33, od33, .func (PySem.W.fnOf "_law_name" "_law_name" (defArgs s__law_name) (defBody s__law_name) (defScope s__law_name) .none kV33 dc33 pm33 an33 cd33 ct33), sl33⟩)
    (c33 : PySem.W.codeIn K cd33 "_law_name" = true)
    (k33 : PySem.W.keepIn K (.ref f33) = true)
    (a34 : PySem.W.nsIn K mainGlobals "_law_plain" = some (some (.ref f34)))
    (l34 : K.lookup f34 = some ⟨oc34, od34, .func (PySem.W.fnOf "_law_plain" "_law_plain" (defArgs s__law_plain) (defBody s__law_plain) (defScope s__law_plain) .none kV34 dc34 pm34 an34 cd34 ct34), sl34⟩)
    (c34 : PySem.W.codeIn K cd34 "_law_plain" = true)
    (k34 : PySem.W.keepIn K (.ref f34) = true)
    (a35 : PySem.W.nsIn K mainGlobals "_law_pending" = some (some (.ref f35)))
    (l35 : K.lookup f35 = some ⟨oc35, od35, .func (PySem.W.fnOf "_law_pending" "_law_pending" (defArgs s__law_pending) (defBody s__law_pending) (defScope s__law_pending) .none kV35 dc35 pm35 an35 cd35 ct35), sl35⟩)
    (c35 : PySem.W.codeIn K cd35 "_law_pending" = true)
    (k35 : PySem.W.keepIn K (.ref f35) = true)
    (a36 : PySem.W.nsIn K mainGlobals "_law_marked" = some (some (.ref f36)))
    (l36 : K.lookup f36 = some ⟨oc36, od36, .func (PySem.W.fnOf "_law_marked" "_law_marked" (defArgs s__law_marked) (defBody s__law_marked) (defScope s__law_marked) .none kV36 dc36 pm36 an36 cd36 ct36), sl36⟩)
    (c36 : PySem.W.codeIn K cd36 "_law_marked" = true)
    (k36 : PySem.W.keepIn K (.ref f36) = true)
    (a37 : PySem.W.nsIn K mainGlobals "_law_entry" = some (some (.ref f37)))
    (l37 : K.lookup f37 = some ⟨oc37, od37, .func (PySem.W.fnOf "_law_entry" "_law_entry" (defArgs s__law_entry) (defBody s__law_entry) (defScope s__law_entry) .none kV37 dc37 pm37 an37 cd37 ct37), sl37⟩)
    (c37 : PySem.W.codeIn K cd37 "_law_entry" = true)
    (k37 : PySem.W.keepIn K (.ref f37) = true)
    (a38 : PySem.W.nsIn K mainGlobals "_law_kinds" = some (some (.ref f38)))
    (l38 : K.lookup f38 = some ⟨oc38, od38, .func (PySem.W.fnOf "_law_kinds" "_law_kinds" (defArgs s__law_kinds) (defBody s__law_kinds) (defScope s__law_kinds) .none kV38 dc38 pm38 an38 cd38 ct38), sl38⟩)
    (c38 : PySem.W.codeIn K cd38 "_law_kinds" = true)
    (k38 : PySem.W.keepIn K (.ref f38) = true)
    (a39 : PySem.W.nsIn K mainGlobals "_law_kind" = some (some (.ref f39)))
    (l39 : K.lookup f39 = some ⟨oc39, od39, .func (PySem.W.fnOf "_law_kind" "_law_kind" (defArgs s__law_kind) (defBody s__law_kind) (defScope s__law_kind) .none kV39 dc39 pm39 an39 cd39 ct39), sl39⟩)
    (c39 : PySem.W.codeIn K cd39 "_law_kind" = true)
    (k39 : PySem.W.keepIn K (.ref f39) = true)
    (a40 : PySem.W.nsIn K mainGlobals "_law_marks" = some (some (.ref f40)))
    (l40 : K.lookup f40 = some ⟨oc40, od40, .func (PySem.W.fnOf "_law_marks" "_law_marks" (defArgs s__law_marks) (defBody s__law_marks) (defScope s__law_marks) .none kV40 dc40 pm40 an40 cd40 ct40), sl40⟩)
    (c40 : PySem.W.codeIn K cd40 "_law_marks" = true)
    (k40 : PySem.W.keepIn K (.ref f40) = true)
    (a41 : PySem.W.nsIn K mainGlobals "_law_tag" = some (some (.ref f41)))
    (l41 : K.lookup f41 = some ⟨oc41, od41, .func (PySem.W.fnOf "_law_tag" "_law_tag" (defArgs s__law_tag) (defBody s__law_tag) (defScope s__law_tag) .none kV41 dc41 pm41 an41 cd41 ct41), sl41⟩)
    (c41 : PySem.W.codeIn K cd41 "_law_tag" = true)
    (k41 : PySem.W.keepIn K (.ref f41) = true)
    (a42 : PySem.W.nsIn K mainGlobals "_law_form" = some (some (.ref f42)))
    (l42 : K.lookup f42 = some ⟨oc42, od42, .func (PySem.W.fnOf "_law_form" "_law_form" (defArgs s__law_form) (defBody s__law_form) (defScope s__law_form) .none kV42 dc42 pm42 an42 cd42 ct42), sl42⟩)
    (c42 : PySem.W.codeIn K cd42 "_law_form" = true)
    (k42 : PySem.W.keepIn K (.ref f42) = true)
    (a43 : PySem.W.nsIn K mainGlobals "_law_free" = some (some (.ref f43)))
    (l43 : K.lookup f43 = some ⟨oc43, od43, .func (PySem.W.fnOf "_law_free" "_law_free" (defArgs s__law_free) (defBody s__law_free) (defScope s__law_free) .none kV43 dc43 pm43 an43 cd43 ct43), sl43⟩)
    (c43 : PySem.W.codeIn K cd43 "_law_free" = true)
    (k43 : PySem.W.keepIn K (.ref f43) = true)
    (a44 : PySem.W.nsIn K mainGlobals "_law_target" = some (some (.ref f44)))
    (l44 : K.lookup f44 = some ⟨oc44, od44, .func (PySem.W.fnOf "_law_target" "_law_target" (defArgs s__law_target) (defBody s__law_target) (defScope s__law_target) .none kV44 dc44 pm44 an44 cd44 ct44), sl44⟩)
    (c44 : PySem.W.codeIn K cd44 "_law_target" = true)
    (k44 : PySem.W.keepIn K (.ref f44) = true)
    (a45 : PySem.W.nsIn K mainGlobals "_law_moved" = some (some (.ref f45)))
    (l45 : K.lookup f45 = some ⟨oc45, od45, .func (PySem.W.fnOf "_law_moved" "_law_moved" (defArgs s__law_moved) (defBody s__law_moved) (defScope s__law_moved) .none kV45 dc45 pm45 an45 cd45 ct45), sl45⟩)
    (c45 : PySem.W.codeIn K cd45 "_law_moved" = true)
    (k45 : PySem.W.keepIn K (.ref f45) = true)
    (a46 : PySem.W.nsIn K mainGlobals "_law_sent" = some (some (.ref f46)))
    (l46 : K.lookup f46 = some ⟨oc46, od46, .func (PySem.W.fnOf "_law_sent" "_law_sent" (defArgs s__law_sent) (defBody s__law_sent) (defScope s__law_sent) .none kV46 dc46 pm46 an46 cd46 ct46), sl46⟩)
    (c46 : PySem.W.codeIn K cd46 "_law_sent" = true)
    (k46 : PySem.W.keepIn K (.ref f46) = true)
    (a47 : PySem.W.nsIn K mainGlobals "_law_spoil" = some (some (.ref f47)))
    (l47 : K.lookup f47 = some ⟨oc47, od47, .func (PySem.W.fnOf "_law_spoil" "_law_spoil" (defArgs s__law_spoil) (defBody s__law_spoil) (defScope s__law_spoil) .none kV47 dc47 pm47 an47 cd47 ct47), sl47⟩)
    (c47 : PySem.W.codeIn K cd47 "_law_spoil" = true)
    (k47 : PySem.W.keepIn K (.ref f47) = true)
    (a48 : PySem.W.nsIn K mainGlobals "_law_errors" = some (some (.ref f48)))
    (l48 : K.lookup f48 = some ⟨oc48, od48, .func (PySem.W.fnOf "_law_errors" "_law_errors" (defArgs s__law_errors) (defBody s__law_errors) (defScope s__law_errors) .none kV48 dc48 pm48 an48 cd48 ct48), sl48⟩)
    (c48 : PySem.W.codeIn K cd48 "_law_errors" = true)
    (k48 : PySem.W.keepIn K (.ref f48) = true)
    (a49 : PySem.W.nsIn K mainGlobals "_law_counts" = some (some (.ref f49)))
    (l49 : K.lookup f49 = some ⟨oc49, od49, .func (PySem.W.fnOf "_law_counts" "_law_counts" (defArgs s__law_counts) (defBody s__law_counts) (defScope s__law_counts) .none kV49 dc49 pm49 an49 cd49 ct49), sl49⟩)
    (c49 : PySem.W.codeIn K cd49 "_law_counts" = true)
    (k49 : PySem.W.keepIn K (.ref f49) = true)
    (a50 : PySem.W.nsIn K mainGlobals "_law_first" = some (some (.ref f50)))
    (l50 : K.lookup f50 = some ⟨oc50, od50, .func (PySem.W.fnOf "_law_first" "_law_first" (defArgs s__law_first) (defBody s__law_first) (defScope s__law_first) .none kV50 dc50 pm50 an50 cd50 ct50), sl50⟩)
    (c50 : PySem.W.codeIn K cd50 "_law_first" = true)
    (k50 : PySem.W.keepIn K (.ref f50) = true)
    (a51 : PySem.W.nsIn K mainGlobals "_law_aged" = some (some (.ref f51)))
    (l51 : K.lookup f51 = some ⟨oc51, od51, .func (PySem.W.fnOf "_law_aged" "_law_aged" (defArgs s__law_aged) (defBody s__law_aged) (defScope s__law_aged) .none kV51 dc51 pm51 an51 cd51 ct51), sl51⟩)
    (c51 : PySem.W.codeIn K cd51 "_law_aged" = true)
    (k51 : PySem.W.keepIn K (.ref f51) = true)
    (a52 : PySem.W.nsIn K mainGlobals "_law_table" = some (some (.ref f52)))
    (l52 : K.lookup f52 = some ⟨oc52, od52, .func (PySem.W.fnOf "_law_table" "_law_table" (defArgs s__law_table) (defBody s__law_table) (defScope s__law_table) .none kV52 dc52 pm52 an52 cd52 ct52), sl52⟩)
    (c52 : PySem.W.codeIn K cd52 "_law_table" = true)
    (k52 : PySem.W.keepIn K (.ref f52) = true)
    (a53 : PySem.W.nsIn K mainGlobals "_law_note" = some (some (.ref f53)))
    (l53 : K.lookup f53 = some ⟨oc53, od53, .func (PySem.W.fnOf "_law_note" "_law_note" (defArgs s__law_note) (defBody s__law_note) (defScope s__law_note) .none kV53 dc53 pm53 an53 cd53 ct53), sl53⟩)
    (c53 : PySem.W.codeIn K cd53 "_law_note" = true)
    (k53 : PySem.W.keepIn K (.ref f53) = true)
    (a54 : PySem.W.nsIn K mainGlobals "_law_make" = some (some (.ref f54)))
    (l54 : K.lookup f54 = some ⟨oc54, od54, .func (PySem.W.fnOf "_law_make" "_law_make" (defArgs s__law_make) (defBody s__law_make) (defScope s__law_make) .none kV54 dc54 pm54 an54 cd54 ct54), sl54⟩)
    (c54 : PySem.W.codeIn K cd54 "_law_make" = true)
    (k54 : PySem.W.keepIn K (.ref f54) = true)
    (a55 : PySem.W.nsIn K mainGlobals "_law_change" = some (some (.ref f55)))
    (l55 : K.lookup f55 = some ⟨oc55, od55, .func (PySem.W.fnOf "_law_change" "_law_change" (defArgs s__law_change) (defBody s__law_change) (defScope s__law_change) .none kV55 dc55 pm55 an55 cd55 ct55), sl55⟩)
    (c55 : PySem.W.codeIn K cd55 "_law_change" = true)
    (k55 : PySem.W.keepIn K (.ref f55) = true)
    (a56 : PySem.W.nsIn K mainGlobals "_law_deed" = some (some (.ref f56)))
    (l56 : K.lookup f56 = some ⟨oc56, od56, .func (PySem.W.fnOf "_law_deed" "_law_deed" (defArgs s__law_deed) (defBody s__law_deed) (defScope s__law_deed) .none kV56 dc56 pm56 an56 cd56 ct56), sl56⟩)
    (c56 : PySem.W.codeIn K cd56 "_law_deed" = true)
    (k56 : PySem.W.keepIn K (.ref f56) = true)
    (a57 : PySem.W.nsIn K mainGlobals "_law_strays" = some (some (.ref f57)))
    (l57 : K.lookup f57 = some ⟨oc57, od57, .func (PySem.W.fnOf "_law_strays" "_law_strays" (defArgs s__law_strays) (defBody s__law_strays) (defScope s__law_strays) .none kV57 dc57 pm57 an57 cd57 ct57), sl57⟩)
    (c57 : PySem.W.codeIn K cd57 "_law_strays" = true)
    (k57 : PySem.W.keepIn K (.ref f57) = true)
    (a58 : PySem.W.nsIn K mainGlobals "_law_told" = some (some (.ref f58)))
    (l58 : K.lookup f58 = some ⟨oc58, od58, .func (PySem.W.fnOf "_law_told" "_law_told" (defArgs s__law_told) (defBody s__law_told) (defScope s__law_told) .none kV58 dc58 pm58 an58 cd58 ct58), sl58⟩)
    (c58 : PySem.W.codeIn K cd58 "_law_told" = true)
    (k58 : PySem.W.keepIn K (.ref f58) = true)
    (a59 : PySem.W.nsIn K mainGlobals "_law_other" = some (some (.ref f59)))
    (l59 : K.lookup f59 = some ⟨oc59, od59, .func (PySem.W.fnOf "_law_other" "_law_other" (defArgs s__law_other) (defBody s__law_other) (defScope s__law_other) .none kV59 dc59 pm59 an59 cd59 ct59), sl59⟩)
    (c59 : PySem.W.codeIn K cd59 "_law_other" = true)
    (k59 : PySem.W.keepIn K (.ref f59) = true)
    (a60 : PySem.W.nsIn K mainGlobals "_law_last" = some (some (.ref f60)))
    (l60 : K.lookup f60 = some ⟨oc60, od60, .func (PySem.W.fnOf "_law_last" "_law_last" (defArgs s__law_last) (defBody s__law_last) (defScope s__law_last) .none kV60 dc60 pm60 an60 cd60 ct60), sl60⟩)
    (c60 : PySem.W.codeIn K cd60 "_law_last" = true)
    (k60 : PySem.W.keepIn K (.ref f60) = true)
    (a61 : PySem.W.nsIn K mainGlobals "law" = some (some (.ref f61)))
    (l61 : K.lookup f61 = some ⟨oc61, od61, .func (PySem.W.fnOf "law" "law" (defArgs s_law) (defBody s_law) (defScope s_law) .none kV61 dc61 pm61 an61 cd61 ct61), sl61⟩)
    (c61 : PySem.W.codeIn K cd61 "law" = true)
    (k61 : PySem.W.keepIn K (.ref f61) = true)
    (z_bool : PySem.W.nsIn K mainGlobals "bool" = some none)
    (z_enumerate : PySem.W.nsIn K mainGlobals "enumerate" = some none)
    (z_int : PySem.W.nsIn K mainGlobals "int" = some none)
    (z_isinstance : PySem.W.nsIn K mainGlobals "isinstance" = some none)
    (z_len : PySem.W.nsIn K mainGlobals "len" = some none)
    (z_list : PySem.W.nsIn K mainGlobals "list" = some none)
    (z_property : PySem.W.nsIn K mainGlobals "property" = some none)
    (z_range : PySem.W.nsIn K mainGlobals "range" = some none)
    (z_sorted : PySem.W.nsIn K mainGlobals "sorted" = some none)
    (z_str : PySem.W.nsIn K mainGlobals "str" = some none)
    (z_sum : PySem.W.nsIn K mainGlobals "sum" = some none)
    (z_tuple : PySem.W.nsIn K mainGlobals "tuple" = some none)
    (z_zip : PySem.W.nsIn K mainGlobals "zip" = some none)
    (g_CT : PySem.W.nsIn K mainGlobals "Thing" = some (some (.ref CT)))
    (pg_CT : PySem.W.plainGet K CT Str.empty = true)
    (hd_CT : PySem.W.hasDictIn K CT = true)
    (po_CT : PySem.W.plainOver K CT = true)
    (sa_CT : PySem.W.findIn K (.ref CT) "__setattr__" = some (some (.builtin "object.__setattr__")))
    (mk_CT : PySem.W.makesIn K CT = true)
    (kc_CT : PySem.W.keepIn K (.ref CT) = true)
    (g_CS : PySem.W.nsIn K mainGlobals "Store" = some (some (.ref CS)))
    (g_CH : PySem.W.nsIn K mainGlobals "Heap" = some (some (.ref CH)))
    (pg_CH : PySem.W.plainGet K CH Str.empty = true)
    (hd_CH : PySem.W.hasDictIn K CH = true)
    (po_CH : PySem.W.plainOver K CH = true)
    (sa_CH : PySem.W.findIn K (.ref CH) "__setattr__" = some (some (.builtin "object.__setattr__")))
    (mk_CH : PySem.W.makesIn K CH = true)
    (kc_CH : PySem.W.keepIn K (.ref CH) = true)
    (n_CT_kind : PySem.W.findIn K (.ref CT) "kind" = some none)
    (n_CT_tag : PySem.W.findIn K (.ref CT) "tag" = some none)
    (n_CT_slots : PySem.W.findIn K (.ref CT) "slots" = some none)
    (n_CT_age : PySem.W.findIn K (.ref CT) "age" = some none)
    (n_CH_things : PySem.W.findIn K (.ref CH) "things" = some none)
    (n_CH_young_many : PySem.W.findIn K (.ref CH) "young_many" = some none)
    (n_CH_old_many : PySem.W.findIn K (.ref CH) "old_many" = some none)
    (n_CH_marked : PySem.W.findIn K (.ref CH) "marked" = some none)
    (rd : PySem.W.readsIn K CS (.type "type") = true)
    (ga : PySem.W.specialIn K (.ref CS) "__getattribute__" = some (some (.builtin "type.__getattribute__"))) :
    ∃ fd : FuncData, (∀ (s : Shared) (v : Value), BindsTo s fd ⟨[v], []⟩ [("script", v)]) ∧ ∀ base : Heap, K.In base → base.Ns mainGlobals mg → FnOk l.prog w K mg base CX0 14 fa fd ["script"] (spLaw K) := by
  have e := hfa.symm.trans (PySem.W.mg_of X G a61)
  cases e
  have g1 : Gv K mg "_wall" s__wall p__wall := ⟨_, _, (fun_mk (st := s__wall) l1 c1 k1), PySem.W.mg_of X G a1, ((fun_mk (st := s__wall) l1 c1 k1).binds (ps := p__wall) fun _ _ _ _ _ _ us hl => match us, hl with | [_], _ => rfl)⟩
  have g2 : ∃ fI fd, L2.Mk K CT fI ∧ Binds K fd p_Thing___init__ [] ∧ Fun K "__init__" "Thing.__init__" s_Thing___init__ fI fd := ⟨_, _, ⟨mk_CT, a2, i2, kc_CT⟩, ((fun_mk (st := s_Thing___init__) l2 c2 k2).binds (ps := p_Thing___init__) fun _ _ _ _ _ _ us hl => match us, hl with | [_, _, _, _], _ => rfl), (fun_mk (st := s_Thing___init__) l2 c2 k2)⟩
  have g3 : ∃ fI fd, PySem.W.findCls K (.ref CS) (.type "type") "__init__" = some (.val (.ref fI)) ∧ PySem.W.keepIn K (.ref fI) = true ∧ Binds K fd p_Store___init__ [] ∧ Fun K "__init__" "Store.__init__" s_Store___init__ fI fd := ⟨_, _, v3, k3, ((fun_mk (st := s_Store___init__) l3 c3 k3).binds (ps := p_Store___init__) fun _ _ _ _ _ _ us hl => match us, hl with | [_], _ => rfl), (fun_mk (st := s_Store___init__) l3 c3 k3)⟩
  have g4 : Gvm K CH "slots_of" "Store.slots_of" s_Store_slots_of p_Store_slots_of := ⟨_, _, (fun_mk (st := s_Store_slots_of) l4 c4 k4), ⟨a4, i4, k4⟩, ((fun_mk (st := s_Store_slots_of) l4 c4 k4).binds (ps := p_Store_slots_of) fun _ _ _ _ _ _ us hl => match us, hl with | [_, _], _ => rfl)⟩
  have g5 : Gvm K CH "reach" "Store.reach" s_Store_reach p_Store_reach := ⟨_, _, (fun_mk (st := s_Store_reach) l5 c5 k5), ⟨a5, i5, k5⟩, ((fun_mk (st := s_Store_reach) l5 c5 k5).binds (ps := p_Store_reach) fun _ _ _ _ _ _ us hl => match us, hl with | [_, _], _ => rfl)⟩
  have g6 : Gvm K CH "meet_all" "Store.meet_all" s_Store_meet_all p_Store_meet_all := ⟨_, _, (fun_mk (st := s_Store_meet_all) l6 c6 k6), ⟨a6, i6, k6⟩, ((fun_mk (st := s_Store_meet_all) l6 c6 k6).binds (ps := p_Store_meet_all) fun _ _ _ _ _ _ us hl => match us, hl with | [_, _, _, _], _ => rfl)⟩
  have g7 : Gv K mg "address_of" s_address_of p_address_of := ⟨_, _, (fun_mk (st := s_address_of) l7 c7 k7), PySem.W.mg_of X G a7, ((fun_mk (st := s_address_of) l7 c7 k7).binds (ps := p_address_of) fun _ _ _ _ _ _ us hl => match us, hl with | [_], _ => rfl)⟩
  have g8 : Gv K mg "moved" s_moved p_moved := ⟨_, _, (fun_mk (st := s_moved) l8 c8 k8), PySem.W.mg_of X G a8, ((fun_mk (st := s_moved) l8 c8 k8).binds (ps := p_moved) fun _ _ _ _ _ _ us hl => match us, hl with | [_, _], _ => rfl)⟩
  have g9 : ∃ fI fd, L2.Mk K CH fI ∧ Binds K fd p_Heap___init__ [] ∧ Fun K "__init__" "Heap.__init__" s_Heap___init__ fI fd := ⟨_, _, ⟨mk_CH, a9, i9, kc_CH⟩, ((fun_mk (st := s_Heap___init__) l9 c9 k9).binds (ps := p_Heap___init__) fun _ _ _ _ _ _ us hl => match us, hl with | [_], _ => rfl), (fun_mk (st := s_Heap___init__) l9 c9 k9)⟩
  have g10 : ∃ g fd, PySem.W.findIn K (.ref CH) "__len__" = some (some (.ref g)) ∧ PySem.W.isFn K (.ref g) = true ∧ Fun K "__len__" "Heap.__len__" s_Heap___len__ g fd ∧ Binds K fd p_Heap___len__ [] := ⟨_, _, a10, i10, (fun_mk (st := s_Heap___len__) l10 c10 k10), ((fun_mk (st := s_Heap___len__) l10 c10 k10).binds (ps := p_Heap___len__) fun _ _ _ _ _ _ us hl => match us, hl with | [_], _ => rfl)⟩
  have g11 : ∃ p f fd, PropOf K CH "young" p f ∧ Fun K "young" "Heap.young" s_Heap_young f fd ∧ Binds K fd p_Heap_young [] := ⟨_, _, _, ⟨a11, pg11, pk11, ⟨_, pc11⟩⟩, (fun_mk (st := s_Heap_young) l11 c11 k11), ((fun_mk (st := s_Heap_young) l11 c11 k11).binds (ps := p_Heap_young) fun _ _ _ _ _ _ us hl => match us, hl with | [_], _ => rfl)⟩
  have g12 : ∃ p f fd, PropOf K CH "old" p f ∧ Fun K "old" "Heap.old" s_Heap_old f fd ∧ Binds K fd p_Heap_old [] := ⟨_, _, _, ⟨a12, pg12, pk12, ⟨_, pc12⟩⟩, (fun_mk (st := s_Heap_old) l12 c12 k12), ((fun_mk (st := s_Heap_old) l12 c12 k12).binds (ps := p_Heap_old) fun _ _ _ _ _ _ us hl => match us, hl with | [_], _ => rfl)⟩
  have g13 : ∃ p f fd, PropOf K CH "remembered" p f ∧ Fun K "remembered" "Heap.remembered" s_Heap_remembered f fd ∧ Binds K fd p_Heap_remembered [] := ⟨_, _, _, ⟨a13, pg13, pk13, ⟨_, pc13⟩⟩, (fun_mk (st := s_Heap_remembered) l13 c13 k13), ((fun_mk (st := s_Heap_remembered) l13 c13 k13).binds (ps := p_Heap_remembered) fun _ _ _ _ _ _ us hl => match us, hl with | [_], _ => rfl)⟩
  have g14 : Gvm K CH "make" "Heap.make" s_Heap_make p_Heap_make := ⟨_, _, (fun_mk (st := s_Heap_make) l14 c14 k14), ⟨a14, i14, k14⟩, ((fun_mk (st := s_Heap_make) l14 c14 k14).binds (ps := p_Heap_make) fun _ _ _ _ _ _ us hl => match us, hl with | [_, _, _, _], _ => rfl)⟩
  have g15 : Gvm K CH "set_slot" "Heap.set_slot" s_Heap_set_slot p_Heap_set_slot := ⟨_, _, (fun_mk (st := s_Heap_set_slot) l15 c15 k15), ⟨a15, i15, k15⟩, ((fun_mk (st := s_Heap_set_slot) l15 c15 k15).binds (ps := p_Heap_set_slot) fun _ _ _ _ _ _ us hl => match us, hl with | [_, _, _, _], _ => rfl)⟩
  have g16 : Gvm K CH "change" "Heap.change" s_Heap_change p_Heap_change := ⟨_, _, (fun_mk (st := s_Heap_change) l16 c16 k16), ⟨a16, i16, k16⟩, ((fun_mk (st := s_Heap_change) l16 c16 k16).binds (ps := p_Heap_change) fun _ _ _ _ _ _ us hl => match us, hl with | [_, _, _, _], _ => rfl)⟩
  have g17 : Gvm K CH "remember" "Heap.remember" s_Heap_remember p_Heap_remember := ⟨_, _, (fun_mk (st := s_Heap_remember) l17 c17 k17), ⟨a17, i17, k17⟩, ((fun_mk (st := s_Heap_remember) l17 c17 k17).binds (ps := p_Heap_remember) fun _ _ _ _ _ _ us hl => match us, hl with | [_, _, _], _ => rfl)⟩
  have g18 : ∃ f fd, FunD K "collect" "Heap.collect" (defArgs s_Heap_collect) (defBody s_Heap_collect) (defScope s_Heap_collect) [.bl false] [] f fd ∧ Meth K CH "collect" f := ⟨_, _, ⟨⟨_, _, _, _, _, _, _, _, _, _, rfl, l18, c18, .inr ⟨(fun z => nomatch z), _, _, _, _, rfl, t18, rfl, .cons rfl .nil⟩, .inl rfl⟩, k18⟩, ⟨a18, i18, k18⟩⟩
  have g19 : Gvm K CH "move_all" "Heap.move_all" s_Heap_move_all p_Heap_move_all := ⟨_, _, (fun_mk (st := s_Heap_move_all) l19 c19 k19), ⟨a19, i19, k19⟩, ((fun_mk (st := s_Heap_move_all) l19 c19 k19).binds (ps := p_Heap_move_all) fun _ _ _ _ _ _ us hl => match us, hl with | [_, _], _ => rfl)⟩
  have g20 : Gvm K CH "move_young" "Heap.move_young" s_Heap_move_young p_Heap_move_young := ⟨_, _, (fun_mk (st := s_Heap_move_young) l20 c20 k20), ⟨a20, i20, k20⟩, ((fun_mk (st := s_Heap_move_young) l20 c20 k20).binds (ps := p_Heap_move_young) fun _ _ _ _ _ _ us hl => match us, hl with | [_, _], _ => rfl)⟩
  have g21 : Gvm K CH "place" "Heap.place" s_Heap_place p_Heap_place := ⟨_, _, (fun_mk (st := s_Heap_place) l21 c21 k21), ⟨a21, i21, k21⟩, ((fun_mk (st := s_Heap_place) l21 c21 k21).binds (ps := p_Heap_place) fun _ _ _ _ _ _ us hl => match us, hl with | [_, _], _ => rfl)⟩
  have g22 : Gvm K CH "readdress" "Heap.readdress" s_Heap_readdress p_Heap_readdress := ⟨_, _, (fun_mk (st := s_Heap_readdress) l22 c22 k22), ⟨a22, i22, k22⟩, ((fun_mk (st := s_Heap_readdress) l22 c22 k22).binds (ps := p_Heap_readdress) fun _ _ _ _ _ _ us hl => match us, hl with | [_, _, _], _ => rfl)⟩
  have g23 : Gvm K CH "reached_young" "Heap.reached_young" s_Heap_reached_young p_Heap_reached_young := ⟨_, _, (fun_mk (st := s_Heap_reached_young) l23 c23 k23), ⟨a23, i23, k23⟩, ((fun_mk (st := s_Heap_reached_young) l23 c23 k23).binds (ps := p_Heap_reached_young) fun _ _ _ _ _ _ us hl => match us, hl with | [_, _], _ => rfl)⟩
  have g24 : Gvm K CH "faults" "Heap.faults" s_Heap_faults p_Heap_faults := ⟨_, _, (fun_mk (st := s_Heap_faults) l24 c24 k24), ⟨a24, i24, k24⟩, ((fun_mk (st := s_Heap_faults) l24 c24 k24).binds (ps := p_Heap_faults) fun _ _ _ _ _ _ us hl => match us, hl with | [_, _], _ => rfl)⟩
  have g25 : Gv K mg "is_young" s_is_young p_is_young := ⟨_, _, (fun_mk (st := s_is_young) l25 c25 k25), PySem.W.mg_of X G a25, ((fun_mk (st := s_is_young) l25 c25 k25).binds (ps := p_is_young) fun _ _ _ _ _ _ us hl => match us, hl with | [_], _ => rfl)⟩
  have g26 : Gv K mg "refers_to_young" s_refers_to_young p_refers_to_young := ⟨_, _, (fun_mk (st := s_refers_to_young) l26 c26 k26), PySem.W.mg_of X G a26, ((fun_mk (st := s_refers_to_young) l26 c26 k26).binds (ps := p_refers_to_young) fun _ _ _ _ _ _ us hl => match us, hl with | [_], _ => rfl)⟩
  have g27 : Gv K mg "meet_young" s_meet_young p_meet_young := ⟨_, _, (fun_mk (st := s_meet_young) l27 c27 k27), PySem.W.mg_of X G a27, ((fun_mk (st := s_meet_young) l27 c27 k27).binds (ps := p_meet_young) fun _ _ _ _ _ _ us hl => match us, hl with | [_, _, _], _ => rfl)⟩
  have g28 : Gv K mg "_law_cell" s__law_cell p__law_cell := ⟨_, _, (fun_mk (st := s__law_cell) l28 c28 k28), PySem.W.mg_of X G a28, ((fun_mk (st := s__law_cell) l28 c28 k28).binds (ps := p__law_cell) fun _ _ _ _ _ _ us hl => match us, hl with | [_, _], _ => rfl)⟩
  have g29 : Gv K mg "_law_box" s__law_box p__law_box := ⟨_, _, (fun_mk (st := s__law_box) l29 c29 k29), PySem.W.mg_of X G a29, ((fun_mk (st := s__law_box) l29 c29 k29).binds (ps := p__law_box) fun _ _ _ _ _ _ us hl => match us, hl with | [_, _], _ => rfl)⟩
  have g30 : Gv K mg "_law_take" s__law_take p__law_take := ⟨_, _, (fun_mk (st := s__law_take) l30 c30 k30), PySem.W.mg_of X G a30, ((fun_mk (st := s__law_take) l30 c30 k30).binds (ps := p__law_take) fun _ _ _ _ _ _ us hl => match us, hl with | [_, _], _ => rfl)⟩
  have g31 : Gv K mg "_law_same" s__law_same p__law_same := ⟨_, _, (fun_mk (st := s__law_same) l31 c31 k31), PySem.W.mg_of X G a31, ((fun_mk (st := s__law_same) l31 c31 k31).binds (ps := p__law_same) fun _ _ _ _ _ _ us hl => match us, hl with | [_, _], _ => rfl)⟩
  have g32 : Gv K mg "_law_word" s__law_word p__law_word := ⟨_, _, (fun_mk (st := s__law_word) l32 c32 k32), PySem.W.mg_of X G a32, ((fun_mk (st := s__law_word) l32 c32 k32).binds (ps := p__law_word) fun _ _ _ _ _ _ us hl => match us, hl with | [_], _ => rfl)⟩
  have g33 : Gv K mg "_law_name" s__law_name p__law_name := ⟨_, _, (fun_mk (st := s__law_name) l33 c33 k33), PySem.W.mg_of X G a33, ((fun_mk (st := s__law_name) l33 c33 k33).binds (ps := p__law_name) fun _ _ _ _ _ _ us hl => match us, hl with | [_], _ => rfl)⟩
  have g34 : Gv K mg "_law_plain" s__law_plain p__law_plain := ⟨_, _, (fun_mk (st := s__law_plain) l34 c34 k34), PySem.W.mg_of X G a34, ((fun_mk (st := s__law_plain) l34 c34 k34).binds (ps := p__law_plain) fun _ _ _ _ _ _ us hl => match us, hl with | [_], _ => rfl)⟩
  have g35 : Gv K mg "_law_pending" s__law_pending p__law_pending := ⟨_, _, (fun_mk (st := s__law_pending) l35 c35 k35), PySem.W.mg_of X G a35, ((fun_mk (st := s__law_pending) l35 c35 k35).binds (ps := p__law_pending) fun _ _ _ _ _ _ us hl => match us, hl with | [_, _, _], _ => rfl)⟩
  have g36 : Gv K mg "_law_marked" s__law_marked p__law_marked := ⟨_, _, (fun_mk (st := s__law_marked) l36 c36 k36), PySem.W.mg_of X G a36, ((fun_mk (st := s__law_marked) l36 c36 k36).binds (ps := p__law_marked) fun _ _ _ _ _ _ us hl => match us, hl with | [_, _, _, _], _ => rfl)⟩
  have g37 : Gv K mg "_law_entry" s__law_entry p__law_entry := ⟨_, _, (fun_mk (st := s__law_entry) l37 c37 k37), PySem.W.mg_of X G a37, ((fun_mk (st := s__law_entry) l37 c37 k37).binds (ps := p__law_entry) fun _ _ _ _ _ _ us hl => match us, hl with | [_, _, _, _], _ => rfl)⟩
  have g38 : Gv K mg "_law_kinds" s__law_kinds p__law_kinds := ⟨_, _, (fun_mk (st := s__law_kinds) l38 c38 k38), PySem.W.mg_of X G a38, ((fun_mk (st := s__law_kinds) l38 c38 k38).binds (ps := p__law_kinds) fun _ _ _ _ _ _ us hl => match us, hl with | [], _ => rfl)⟩
  have g39 : Gv K mg "_law_kind" s__law_kind p__law_kind := ⟨_, _, (fun_mk (st := s__law_kind) l39 c39 k39), PySem.W.mg_of X G a39, ((fun_mk (st := s__law_kind) l39 c39 k39).binds (ps := p__law_kind) fun _ _ _ _ _ _ us hl => match us, hl with | [_], _ => rfl)⟩
  have g40 : Gv K mg "_law_marks" s__law_marks p__law_marks := ⟨_, _, (fun_mk (st := s__law_marks) l40 c40 k40), PySem.W.mg_of X G a40, ((fun_mk (st := s__law_marks) l40 c40 k40).binds (ps := p__law_marks) fun _ _ _ _ _ _ us hl => match us, hl with | [_], _ => rfl)⟩
  have g41 : Gv K mg "_law_tag" s__law_tag p__law_tag := ⟨_, _, (fun_mk (st := s__law_tag) l41 c41 k41), PySem.W.mg_of X G a41, ((fun_mk (st := s__law_tag) l41 c41 k41).binds (ps := p__law_tag) fun _ _ _ _ _ _ us hl => match us, hl with | [_, _, _], _ => rfl)⟩
  have g42 : Gv K mg "_law_form" s__law_form p__law_form := ⟨_, _, (fun_mk (st := s__law_form) l42 c42 k42), PySem.W.mg_of X G a42, ((fun_mk (st := s__law_form) l42 c42 k42).binds (ps := p__law_form) fun _ _ _ _ _ _ us hl => match us, hl with | [_, _, _, _], _ => rfl)⟩
  have g43 : Gv K mg "_law_free" s__law_free p__law_free := ⟨_, _, (fun_mk (st := s__law_free) l43 c43 k43), PySem.W.mg_of X G a43, ((fun_mk (st := s__law_free) l43 c43 k43).binds (ps := p__law_free) fun _ _ _ _ _ _ us hl => match us, hl with | [_], _ => rfl)⟩
  have g44 : Gv K mg "_law_target" s__law_target p__law_target := ⟨_, _, (fun_mk (st := s__law_target) l44 c44 k44), PySem.W.mg_of X G a44, ((fun_mk (st := s__law_target) l44 c44 k44).binds (ps := p__law_target) fun _ _ _ _ _ _ us hl => match us, hl with | [_], _ => rfl)⟩
  have g45 : Gv K mg "_law_moved" s__law_moved p__law_moved := ⟨_, _, (fun_mk (st := s__law_moved) l45 c45 k45), PySem.W.mg_of X G a45, ((fun_mk (st := s__law_moved) l45 c45 k45).binds (ps := p__law_moved) fun _ _ _ _ _ _ us hl => match us, hl with | [_, _], _ => rfl)⟩
  have g46 : Gv K mg "_law_sent" s__law_sent p__law_sent := ⟨_, _, (fun_mk (st := s__law_sent) l46 c46 k46), PySem.W.mg_of X G a46, ((fun_mk (st := s__law_sent) l46 c46 k46).binds (ps := p__law_sent) fun _ _ _ _ _ _ us hl => match us, hl with | [_, _], _ => rfl)⟩
  have g47 : Gv K mg "_law_spoil" s__law_spoil p__law_spoil := ⟨_, _, (fun_mk (st := s__law_spoil) l47 c47 k47), PySem.W.mg_of X G a47, ((fun_mk (st := s__law_spoil) l47 c47 k47).binds (ps := p__law_spoil) fun _ _ _ _ _ _ us hl => match us, hl with | [_, _], _ => rfl)⟩
  have g48 : Gv K mg "_law_errors" s__law_errors p__law_errors := ⟨_, _, (fun_mk (st := s__law_errors) l48 c48 k48), PySem.W.mg_of X G a48, ((fun_mk (st := s__law_errors) l48 c48 k48).binds (ps := p__law_errors) fun _ _ _ _ _ _ us hl => match us, hl with | [_], _ => rfl)⟩
  have g49 : Gv K mg "_law_counts" s__law_counts p__law_counts := ⟨_, _, (fun_mk (st := s__law_counts) l49 c49 k49), PySem.W.mg_of X G a49, ((fun_mk (st := s__law_counts) l49 c49 k49).binds (ps := p__law_counts) fun _ _ _ _ _ _ us hl => match us, hl with | [_, _, _], _ => rfl)⟩
  have g50 : Gv K mg "_law_first" s__law_first p__law_first := ⟨_, _, (fun_mk (st := s__law_first) l50 c50 k50), PySem.W.mg_of X G a50, ((fun_mk (st := s__law_first) l50 c50 k50).binds (ps := p__law_first) fun _ _ _ _ _ _ us hl => match us, hl with | [_, _, _, _], _ => rfl)⟩
  have g51 : Gv K mg "_law_aged" s__law_aged p__law_aged := ⟨_, _, (fun_mk (st := s__law_aged) l51 c51 k51), PySem.W.mg_of X G a51, ((fun_mk (st := s__law_aged) l51 c51 k51).binds (ps := p__law_aged) fun _ _ _ _ _ _ us hl => match us, hl with | [_, _, _], _ => rfl)⟩
  have g52 : Gv K mg "_law_table" s__law_table p__law_table := ⟨_, _, (fun_mk (st := s__law_table) l52 c52 k52), PySem.W.mg_of X G a52, ((fun_mk (st := s__law_table) l52 c52 k52).binds (ps := p__law_table) fun _ _ _ _ _ _ us hl => match us, hl with | [_, _], _ => rfl)⟩
  have g53 : Gv K mg "_law_note" s__law_note p__law_note := ⟨_, _, (fun_mk (st := s__law_note) l53 c53 k53), PySem.W.mg_of X G a53, ((fun_mk (st := s__law_note) l53 c53 k53).binds (ps := p__law_note) fun _ _ _ _ _ _ us hl => match us, hl with | [_, _, _, _], _ => rfl)⟩
  have g54 : Gv K mg "_law_make" s__law_make p__law_make := ⟨_, _, (fun_mk (st := s__law_make) l54 c54 k54), PySem.W.mg_of X G a54, ((fun_mk (st := s__law_make) l54 c54 k54).binds (ps := p__law_make) fun _ _ _ _ _ _ us hl => match us, hl with | [_, _, _, _, _, _], _ => rfl)⟩
  have g55 : Gv K mg "_law_change" s__law_change p__law_change := ⟨_, _, (fun_mk (st := s__law_change) l55 c55 k55), PySem.W.mg_of X G a55, ((fun_mk (st := s__law_change) l55 c55 k55).binds (ps := p__law_change) fun _ _ _ _ _ _ us hl => match us, hl with | [_, _, _, _, _, _, _], _ => rfl)⟩
  have g56 : Gv K mg "_law_deed" s__law_deed p__law_deed := ⟨_, _, (fun_mk (st := s__law_deed) l56 c56 k56), PySem.W.mg_of X G a56, ((fun_mk (st := s__law_deed) l56 c56 k56).binds (ps := p__law_deed) fun _ _ _ _ _ _ us hl => match us, hl with | [_, _, _, _, _], _ => rfl)⟩
  have g57 : Gv K mg "_law_strays" s__law_strays p__law_strays := ⟨_, _, (fun_mk (st := s__law_strays) l57 c57 k57), PySem.W.mg_of X G a57, ((fun_mk (st := s__law_strays) l57 c57 k57).binds (ps := p__law_strays) fun _ _ _ _ _ _ us hl => match us, hl with | [_, _, _, _], _ => rfl)⟩
  have g58 : Gv K mg "_law_told" s__law_told p__law_told := ⟨_, _, (fun_mk (st := s__law_told) l58 c58 k58), PySem.W.mg_of X G a58, ((fun_mk (st := s__law_told) l58 c58 k58).binds (ps := p__law_told) fun _ _ _ _ _ _ us hl => match us, hl with | [_, _, _, _, _], _ => rfl)⟩
  have g59 : Gv K mg "_law_other" s__law_other p__law_other := ⟨_, _, (fun_mk (st := s__law_other) l59 c59 k59), PySem.W.mg_of X G a59, ((fun_mk (st := s__law_other) l59 c59 k59).binds (ps := p__law_other) fun _ _ _ _ _ _ us hl => match us, hl with | [_, _, _], _ => rfl)⟩
  have g60 : Gv K mg "_law_last" s__law_last p__law_last := ⟨_, _, (fun_mk (st := s__law_last) l60 c60 k60), PySem.W.mg_of X G a60, ((fun_mk (st := s__law_last) l60 c60 k60).binds (ps := p__law_last) fun _ _ _ _ _ _ us hl => match us, hl with | [_, _], _ => rfl)⟩
  have g61 : Gv K mg "law" s_law p_law := ⟨_, _, (fun_mk (st := s_law) l61 c61 k61), PySem.W.mg_of X G a61, ((fun_mk (st := s_law) l61 c61 k61).binds (ps := p_law) fun _ _ _ _ _ _ us hl => match us, hl with | [_], _ => rfl)⟩
  have T : Txt K w mg := { z_bool := PySem.W.mg_none_of X G z_bool, z_enumerate := PySem.W.mg_none_of X G z_enumerate, z_int := PySem.W.mg_none_of X G z_int, z_isinstance := PySem.W.mg_none_of X G z_isinstance, z_len := PySem.W.mg_none_of X G z_len, z_list := PySem.W.mg_none_of X G z_list, z_property := PySem.W.mg_none_of X G z_property, z_range := PySem.W.mg_none_of X G z_range, z_sorted := PySem.W.mg_none_of X G z_sorted, z_str := PySem.W.mg_none_of X G z_str, z_sum := PySem.W.mg_none_of X G z_sum, z_tuple := PySem.W.mg_none_of X G z_tuple, z_zip := PySem.W.mg_none_of X G z_zip, g__wall := g1, g_address_of := g7, g_moved := g8, g_is_young := g25, g_refers_to_young := g26, g_meet_young := g27, g__law_cell := g28, g__law_box := g29, g__law_take := g30, g__law_same := g31, g__law_word := g32, g__law_name := g33, g__law_plain := g34, g__law_pending := g35, g__law_marked := g36, g__law_entry := g37, g__law_kinds := g38, g__law_kind := g39, g__law_marks := g40, g__law_tag := g41, g__law_form := g42, g__law_free := g43, g__law_target := g44, g__law_moved := g45, g__law_sent := g46, g__law_spoil := g47, g__law_errors := g48, g__law_counts := g49, g__law_first := g50, g__law_aged := g51, g__law_table := g52, g__law_note := g53, g__law_make := g54, g__law_change := g55, g__law_deed := g56, g__law_strays := g57, g__law_told := g58, g__law_other := g59, g__law_last := g60, g_law := g61 }
  have TT : ThT K mg CT := { cl := ⟨pg_CT, hd_CT, po_CT, sa_CT⟩, gl := PySem.W.mg_of X G g_CT, n_kind := n_CT_kind, n_tag := n_CT_tag, n_slots := n_CT_slots, n_age := n_CT_age, ini := g2 }
  have TB : HeT K mg CH := { cl := ⟨pg_CH, hd_CH, po_CH, sa_CH⟩, gl := PySem.W.mg_of X G g_CH, n_things := n_CH_things, n_young_many := n_CH_young_many, n_old_many := n_CH_old_many, n_marked := n_CH_marked, ini := g9, g_reach := g5, g_meet_all := g6, g_slots_of := g4, g_make := g14, g_set_slot := g15, g_change := g16, g_remember := g17, g_move_all := g19, g_move_young := g20, g_place := g21, g_readdress := g22, g_reached_young := g23, g_faults := g24, y_young := g11, y_old := g12, y_remembered := g13, len := g10, col := g18 }
  have TX : StX K mg CS := { gl := PySem.W.mg_of X G g_CS, cr := ⟨.type "type", ⟨rd, ga⟩, g3⟩ }
  refine ⟨PySem.W.fnOf "law" "law" (defArgs s_law) (defBody s_law) (defScope s_law) .none kV61 dc61 pm61 an61 cd61 ct61, fun s v => .of_eq rfl, fun base _ _ => ?_⟩
  obtain ⟨f, fd, hm', hk', hb', ⟨oc, od, osl, lkk⟩, F⟩ := all_ok (P := l.prog) (base := base) T TT TX TB
  have e2 : fa = f := Value.ref.inj (Option.some.inj (hfa.symm.trans hm'))
  subst e2
  have e3 := lkk.symm.trans l61
  cases e3
  exact F
end D0
open PySem PySem.W PyProof.Rows
set_option maxRecDepth 100000 in
set_option maxHeartbeats 0 in
theorem PySem.Challenge.cw_likerun_k16_remembered_objects_holds : PySem.Challenge.rw_likerun_k16_remembered_objects.Holds := by
  w_on; o_law; k_head; (case hw => w_witness2)
  k_fill
  refine L2.walk_of (l := PySem.Challenge.rw_likerun_k16_remembered_objects) (n := 63) (k := 14) (x := "script") (CX := fun _ => L2.CX0) (sp := fun w => D0.spLaw _) rfl (by decide) rfl ⟨rfl, by decide, by decide⟩ (fun w h Y => PySem.W.kIn_of Y) ?F (fun _ _ a ns hl _ hS => ⟨a, ns, rfl, hS, hl, fun _ => rfl⟩) (fun _ _ _ _ _ h => h)
  case F =>
    intro w mg fa h KX G hmg
    refine' D0.all_mk KX G hmg ?a1 ?l1 ?c1 ?k1 ?a2 ?i2 ?l2 ?c2 ?k2 ?v3 ?l3 ?c3 ?k3 ?a4 ?i4 ?l4 ?c4 ?k4 ?a5 ?i5 ?l5 ?c5 ?k5 ?a6 ?i6 ?l6 ?c6 ?k6 ?a7 ?l7 ?c7 ?k7 ?a8 ?l8 ?c8 ?k8 ?a9 ?i9 ?l9 ?c9 ?k9 ?a10 ?i10 ?l10 ?c10 ?k10 ?a11 ?pg11 ?pk11 ?pc11 ?l11 ?c11 ?k11 ?a12 ?pg12 ?pk12 ?pc12 ?l12 ?c12 ?k12 ?a13 ?pg13 ?pk13 ?pc13 ?l13 ?c13 ?k13 ?a14 ?i14 ?l14 ?c14 ?k14 ?a15 ?i15 ?l15 ?c15 ?k15 ?a16 ?i16 ?l16 ?c16 ?k16 ?a17 ?i17 ?l17 ?c17 ?k17 ?a18 ?i18 ?l18 ?t18 ?c18 ?k18 ?a19 ?i19 ?l19 ?c19 ?k19 ?a20 ?i20 ?l20 ?c20 ?k20 ?a21 ?i21 ?l21 ?c21 ?k21 ?a22 ?i22 ?l22 ?c22 ?k22 ?a23 ?i23 ?l23 ?c23 ?k23 ?a24 ?i24 ?l24 ?c24 ?k24 ?a25 ?l25 ?c25 ?k25 ?a26 ?l26 ?c26 ?k26 ?a27 ?l27 ?c27 ?k27 ?a28 ?l28 ?c28 ?k28 ?a29 ?l29 ?c29 ?k29 ?a30 ?l30 ?c30 ?k30 ?a31 ?l31 ?c31 ?k31 ?a32 ?l32 ?c32 ?k32 ?a33 ?l33 ?c33 ?k33 ?a34 ?l34 ?c34 ?k34 ?a35 ?l35 ?c35 ?k35 ?a36 ?l36 ?c36 ?k36 ?a37 ?l37 ?c37 ?k37 ?a38 ?l38 ?c38 ?k38 ?a39 ?l39 ?c39 ?k39 ?a40 ?l40 ?c40 ?k40 ?a41 ?l41 ?c41 ?k41 ?a42 ?l42 ?c42 ?k42 ?a43 ?l43 ?c43 ?k43 ?a44 ?l44 ?c44 ?k44 ?a45 ?l45 ?c45 ?k45 ?a46 ?l46 ?c46 ?k46 ?a47 ?l47 ?c47 ?k47 ?a48 ?l48 ?c48 ?k48 ?a49 ?l49 ?c49 ?k49 ?a50 ?l50 ?c50 ?k50 ?a51 ?l51 ?c51 ?k51 ?a52 ?l52 ?c52 ?k52 ?a53 ?l53 ?c53 ?k53 ?a54 ?l54 ?c54 ?k54 ?a55 ?l55 ?c55 ?k55 ?a56 ?l56 ?c56 ?k56 ?a57 ?l57 ?c57 ?k57 ?a58 ?l58 ?c58 ?k58 ?a59 ?l59 ?c59 ?k59 ?a60 ?l60 ?c60 ?k60 ?a61 ?l61 ?c61 ?k61 ?z_bool ?z_enumerate ?z_int ?z_isinstance ?z_len ?z_list ?z_property ?z_range ?z_sorted ?z_str ?z_sum ?z_tuple ?z_zip ?g_CT ?pg_CT ?hd_CT ?po_CT ?sa_CT ?mk_CT ?kc_CT ?g_CS ?g_CH ?pg_CH ?hd_CH ?po_CH ?sa_CH ?mk_CH ?kc_CH ?n_CT_kind ?n_CT_tag ?n_CT_slots ?n_CT_age ?n_CH_things ?n_CH_young_many ?n_CH_old_many ?n_CH_marked ?rd ?ga
    (case g_CT => k_is)
    (case g_CS => k_is)
    (case g_CH => k_is)
    (case a1 => k_is)
    (case l1 => k_is)
    (case c1 => k_is)
    (case k1 => k_is)
    (case a2 => k_is)
    (case i2 => k_is)
    (case l2 => k_is)
    (case c2 => k_is)
    (case k2 => k_is)
    (case v3 => k_is)
    (case l3 => k_is)
    (case c3 => k_is)
    (case k3 => k_is)
    (case a4 => k_is)
    (case i4 => k_is)
    (case l4 => k_is)
    (case c4 => k_is)
    (case k4 => k_is)
    (case a5 => k_is)
    (case i5 => k_is)
    (case l5 => k_is)
    (case c5 => k_is)
    (case k5 => k_is)
    (case a6 => k_is)
    (case i6 => k_is)
    (case l6 => k_is)
    (case c6 => k_is)
    (case k6 => k_is)
    (case a7 => k_is)
    (case l7 => k_is)
    (case c7 => k_is)
    (case k7 => k_is)
    (case a8 => k_is)
    (case l8 => k_is)
    (case c8 => k_is)
    (case k8 => k_is)
    (case a9 => k_is)
    (case i9 => k_is)
    (case l9 => k_is)
    (case c9 => k_is)
    (case k9 => k_is)
    (case a10 => k_is)
    (case i10 => k_is)
    (case l10 => k_is)
    (case c10 => k_is)
    (case k10 => k_is)
    (case a11 => k_is)
    (case pg11 => k_is)
    (case pk11 => k_is)
    (case pc11 => k_is)
    (case l11 => k_is)
    (case c11 => k_is)
    (case k11 => k_is)
    (case a12 => k_is)
    (case pg12 => k_is)
    (case pk12 => k_is)
    (case pc12 => k_is)
    (case l12 => k_is)
    (case c12 => k_is)
    (case k12 => k_is)
    (case a13 => k_is)
    (case pg13 => k_is)
    (case pk13 => k_is)
    (case pc13 => k_is)
    (case l13 => k_is)
    (case c13 => k_is)
    (case k13 => k_is)
    (case a14 => k_is)
    (case i14 => k_is)
    (case l14 => k_is)
    (case c14 => k_is)
    (case k14 => k_is)
    (case a15 => k_is)
    (case i15 => k_is)
    (case l15 => k_is)
    (case c15 => k_is)
    (case k15 => k_is)
    (case a16 => k_is)
    (case i16 => k_is)
    (case l16 => k_is)
    (case c16 => k_is)
    (case k16 => k_is)
    (case a17 => k_is)
    (case i17 => k_is)
    (case l17 => k_is)
    (case c17 => k_is)
    (case k17 => k_is)
    (case a18 => k_is)
    (case i18 => k_is)
    (case l18 => k_is)
    (case t18 => k_is)
    (case c18 => k_is)
    (case k18 => k_is)
    (case a19 => k_is)
    (case i19 => k_is)
    (case l19 => k_is)
    (case c19 => k_is)
    (case k19 => k_is)
    (case a20 => k_is)
    (case i20 => k_is)
    (case l20 => k_is)
    (case c20 => k_is)
    (case k20 => k_is)
    (case a21 => k_is)
    (case i21 => k_is)
    (case l21 => k_is)
    (case c21 => k_is)
    (case k21 => k_is)
    (case a22 => k_is)
    (case i22 => k_is)
    (case l22 => k_is)
    (case c22 => k_is)
    (case k22 => k_is)
    (case a23 => k_is)
    (case i23 => k_is)
    (case l23 => k_is)
    (case c23 => k_is)
    (case k23 => k_is)
    (case a24 => k_is)
    (case i24 => k_is)
    (case l24 => k_is)
    (case c24 => k_is)
    (case k24 => k_is)
    (case a25 => k_is)
    (case l25 => k_is)
    (case c25 => k_is)
    (case k25 => k_is)
    (case a26 => k_is)
    (case l26 => k_is)
    (case c26 => k_is)
    (case k26 => k_is)
    (case a27 => k_is)
    (case l27 => k_is)
    (case c27 => k_is)
    (case k27 => k_is)
    (case a28 => k_is)
    (case l28 => k_is)
    (case c28 => k_is)
    (case k28 => k_is)
    (case a29 => k_is)
    (case l29 => k_is)
    (case c29 => k_is)
    (case k29 => k_is)
    (case a30 => k_is)
    (case l30 => k_is)
    (case c30 => k_is)
    (case k30 => k_is)
    (case a31 => k_is)
    (case l31 => k_is)
    (case c31 => k_is)
    (case k31 => k_is)
    (case a32 => k_is)
    (case l32 => k_is)
    (case c32 => k_is)
    (case k32 => k_is)
    (case a33 => k_is)
    (case l33 => k_is)
    (case c33 => k_is)
    (case k33 => k_is)
    (case a34 => k_is)
    (case l34 => k_is)
    (case c34 => k_is)
    (case k34 => k_is)
    (case a35 => k_is)
    (case l35 => k_is)
    (case c35 => k_is)
    (case k35 => k_is)
    (case a36 => k_is)
    (case l36 => k_is)
    (case c36 => k_is)
    (case k36 => k_is)
    (case a37 => k_is)
    (case l37 => k_is)
    (case c37 => k_is)
    (case k37 => k_is)
    (case a38 => k_is)
    (case l38 => k_is)
    (case c38 => k_is)
    (case k38 => k_is)
    (case a39 => k_is)
    (case l39 => k_is)
    (case c39 => k_is)
    (case k39 => k_is)
    (case a40 => k_is)
    (case l40 => k_is)
    (case c40 => k_is)
    (case k40 => k_is)
    (case a41 => k_is)
    (case l41 => k_is)
    (case c41 => k_is)
    (case k41 => k_is)
    (case a42 => k_is)
    (case l42 => k_is)
    (case c42 => k_is)
    (case k42 => k_is)
    (case a43 => k_is)
    (case l43 => k_is)
    (case c43 => k_is)
    (case k43 => k_is)
    (case a44 => k_is)
    (case l44 => k_is)
    (case c44 => k_is)
    (case k44 => k_is)
    (case a45 => k_is)
    (case l45 => k_is)
    (case c45 => k_is)
    (case k45 => k_is)
    (case a46 => k_is)
    (case l46 => k_is)
    (case c46 => k_is)
    (case k46 => k_is)
    (case a47 => k_is)
    (case l47 => k_is)
    (case c47 => k_is)
    (case k47 => k_is)
    (case a48 => k_is)
    (case l48 => k_is)
    (case c48 => k_is)
    (case k48 => k_is)
    (case a49 => k_is)
    (case l49 => k_is)
    (case c49 => k_is)
    (case k49 => k_is)
    (case a50 => k_is)
    (case l50 => k_is)
    (case c50 => k_is)
    (case k50 => k_is)
    (case a51 => k_is)
    (case l51 => k_is)
    (case c51 => k_is)
    (case k51 => k_is)
    (case a52 => k_is)
    (case l52 => k_is)
    (case c52 => k_is)
    (case k52 => k_is)
    (case a53 => k_is)
    (case l53 => k_is)
    (case c53 => k_is)
    (case k53 => k_is)
    (case a54 => k_is)
    (case l54 => k_is)
    (case c54 => k_is)
    (case k54 => k_is)
    (case a55 => k_is)
    (case l55 => k_is)
    (case c55 => k_is)
    (case k55 => k_is)
    (case a56 => k_is)
    (case l56 => k_is)
    (case c56 => k_is)
    (case k56 => k_is)
    (case a57 => k_is)
    (case l57 => k_is)
    (case c57 => k_is)
    (case k57 => k_is)
    (case a58 => k_is)
    (case l58 => k_is)
    (case c58 => k_is)
    (case k58 => k_is)
    (case a59 => k_is)
    (case l59 => k_is)
    (case c59 => k_is)
    (case k59 => k_is)
    (case a60 => k_is)
    (case l60 => k_is)
    (case c60 => k_is)
    (case k60 => k_is)
    (case a61 => k_is)
    (case l61 => k_is)
    (case c61 => k_is)
    (case k61 => k_is)
    (case z_bool => k_is)
    (case z_enumerate => k_is)
    (case z_int => k_is)
    (case z_isinstance => k_is)
    (case z_len => k_is)
    (case z_list => k_is)
    (case z_property => k_is)
    (case z_range => k_is)
    (case z_sorted => k_is)
    (case z_str => k_is)
    (case z_sum => k_is)
    (case z_tuple => k_is)
    (case z_zip => k_is)
    (case pg_CT => k_is)
    (case hd_CT => k_is)
    (case po_CT => k_is)
    (case sa_CT => k_is)
    (case mk_CT => k_is)
    (case kc_CT => k_is)
    (case pg_CH => k_is)
    (case hd_CH => k_is)
    (case po_CH => k_is)
    (case sa_CH => k_is)
    (case mk_CH => k_is)
    (case kc_CH => k_is)
    (case n_CT_kind => k_is)
    (case n_CT_tag => k_is)
    (case n_CT_slots => k_is)
    (case n_CT_age => k_is)
    (case n_CH_things => k_is)
    (case n_CH_young_many => k_is)
    (case n_CH_old_many => k_is)
    (case n_CH_marked => k_is)
    (case rd => k_is)
    (case ga => k_is)
