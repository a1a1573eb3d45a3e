import PyProof.Rows.All
import Wide.All
import OpenK.AllK
import Wide.FinOn
import PyProof.EqAt
import PyProof.EqKinds
import PyProof.TupleCall
import HandS.ForExc
import HandS.ForMost
import HandS.StrMore
import HandS.ForDict
import HandS.ClsMeth
import HandS.NoneIn
import HandS.IsInst
import HandS.Style
import HandS.Wide
import HandS.Codes
import HandS.Walk
import HandS.More
import PySem.Challenge.RW_likerun_k14_store_history
import HandS.SlotsOwn
import HandS.Text
import Open.SpecLaws
import KE.OsGo
set_option Elab.async false
set_option linter.all false
set_option maxRecDepth 100000
namespace D0
open PySem PySem.Spec PyProof.Rows L2
def top (i : Nat) : Stmt := PySem.Challenge.pw_likerun_k14_store_history.main.body.getD i (.Pass ⟨0, 0, 0, 0⟩)
abbrev s__wall : Stmt := top 0
abbrev n__wall : List Str := ["k"]
abbrev p__wall : List Str := ["k"]
theorem sc__wall : FnScope n__wall p__wall (defScope s__wall) := ⟨rfl, rfl, rfl, by decide +kernel, rfl, by decide +kernel, by decide +kernel⟩
abbrev s_Thing___init__ : Stmt := inClass (top 2) 0
abbrev n_Thing___init__ : List Str := ["self", "kind", "tag", "slots"]
abbrev p_Thing___init__ : List Str := ["self", "kind", "tag", "slots"]
theorem sc_Thing___init__ : FnScope n_Thing___init__ p_Thing___init__ (defScope s_Thing___init__) := ⟨rfl, rfl, rfl, by decide +kernel, rfl, by decide +kernel, by decide +kernel⟩
abbrev s_Store___init__ : Stmt := inClass (top 3) 1
abbrev n_Store___init__ : List Str := ["self"]
abbrev p_Store___init__ : List Str := ["self"]
theorem sc_Store___init__ : FnScope n_Store___init__ p_Store___init__ (defScope s_Store___init__) := ⟨rfl, rfl, rfl, by decide +kernel, rfl, by decide +kernel, by decide +kernel⟩
abbrev s_Store___len__ : Stmt := inClass (top 3) 2
abbrev n_Store___len__ : List Str := ["self"]
abbrev p_Store___len__ : List Str := ["self"]
theorem sc_Store___len__ : FnScope n_Store___len__ p_Store___len__ (defScope s_Store___len__) := ⟨rfl, rfl, rfl, by decide +kernel, rfl, by decide +kernel, by decide +kernel⟩
abbrev s_Store_make : Stmt := inClass (top 3) 3
abbrev n_Store_make : List Str := ["self", "kind", "tag", "slots", "address"]
abbrev p_Store_make : List Str := ["self", "kind", "tag", "slots"]
theorem sc_Store_make : FnScope n_Store_make p_Store_make (defScope s_Store_make) := ⟨rfl, rfl, rfl, by decide +kernel, rfl, by decide +kernel, by decide +kernel⟩
abbrev s_Store_kind_of : Stmt := inClass (top 3) 4
abbrev n_Store_kind_of : List Str := ["self", "value"]
abbrev p_Store_kind_of : List Str := ["self", "value"]
theorem sc_Store_kind_of : FnScope n_Store_kind_of p_Store_kind_of (defScope s_Store_kind_of) := ⟨rfl, rfl, rfl, by decide +kernel, rfl, by decide +kernel, by decide +kernel⟩
abbrev s_Store_tag_of : Stmt := inClass (top 3) 5
abbrev n_Store_tag_of : List Str := ["self", "value"]
abbrev p_Store_tag_of : List Str := ["self", "value"]
theorem sc_Store_tag_of : FnScope n_Store_tag_of p_Store_tag_of (defScope s_Store_tag_of) := ⟨rfl, rfl, rfl, by decide +kernel, rfl, by decide +kernel, by decide +kernel⟩
abbrev s_Store_slots_of : Stmt := inClass (top 3) 6
abbrev n_Store_slots_of : List Str := ["self", "value"]
abbrev p_Store_slots_of : List Str := ["self", "value"]
theorem sc_Store_slots_of : FnScope n_Store_slots_of p_Store_slots_of (defScope s_Store_slots_of) := ⟨rfl, rfl, rfl, by decide +kernel, rfl, by decide +kernel, by decide +kernel⟩
abbrev s_Store_slot : Stmt := inClass (top 3) 7
abbrev n_Store_slot : List Str := ["self", "value", "index"]
abbrev p_Store_slot : List Str := ["self", "value", "index"]
theorem sc_Store_slot : FnScope n_Store_slot p_Store_slot (defScope s_Store_slot) := ⟨rfl, rfl, rfl, by decide +kernel, rfl, by decide +kernel, by decide +kernel⟩
abbrev s_Store_set_slot : Stmt := inClass (top 3) 8
abbrev n_Store_set_slot : List Str := ["self", "value", "index", "entry"]
abbrev p_Store_set_slot : List Str := ["self", "value", "index", "entry"]
theorem sc_Store_set_slot : FnScope n_Store_set_slot p_Store_set_slot (defScope s_Store_set_slot) := ⟨rfl, rfl, rfl, by decide +kernel, rfl, by decide +kernel, by decide +kernel⟩
abbrev s_Store_change : Stmt := inClass (top 3) 9
abbrev n_Store_change : List Str := ["self", "value", "tag", "slots", "thing"]
abbrev p_Store_change : List Str := ["self", "value", "tag", "slots"]
theorem sc_Store_change : FnScope n_Store_change p_Store_change (defScope s_Store_change) := ⟨rfl, rfl, rfl, by decide +kernel, rfl, by decide +kernel, by decide +kernel⟩
abbrev s_Store_reach : Stmt := inClass (top 3) 10
abbrev n_Store_reach : List Str := ["self", "entries"]
abbrev p_Store_reach : List Str := ["self", "entries"]
theorem sc_Store_reach : FnScope n_Store_reach p_Store_reach (defScope s_Store_reach) := ⟨rfl, rfl, rfl, by decide +kernel, rfl, by decide +kernel, by decide +kernel⟩
abbrev s_Store_meet_all : Stmt := inClass (top 3) 11
abbrev n_Store_meet_all : List Str := ["self", "entries", "met", "order"]
abbrev p_Store_meet_all : List Str := ["self", "entries", "met", "order"]
theorem sc_Store_meet_all : FnScope n_Store_meet_all p_Store_meet_all (defScope s_Store_meet_all) := ⟨rfl, rfl, rfl, by decide +kernel, rfl, by decide +kernel, by decide +kernel⟩
abbrev s_Store_graph : Stmt := inClass (top 3) 12
abbrev n_Store_graph : List Str := ["self", "entries"]
abbrev p_Store_graph : List Str := ["self", "entries"]
theorem sc_Store_graph : FnScope n_Store_graph p_Store_graph (defScope s_Store_graph) := ⟨rfl, rfl, rfl, by decide +kernel, rfl, by decide +kernel, by decide +kernel⟩
abbrev s_address_of : Stmt := top 4
abbrev n_address_of : List Str := ["entry", "word"]
abbrev p_address_of : List Str := ["entry"]
theorem sc_address_of : FnScope n_address_of p_address_of (defScope s_address_of) := ⟨rfl, rfl, rfl, by decide +kernel, rfl, by decide +kernel, by decide +kernel⟩
abbrev s_Heap___init__ : Stmt := inClass (top 6) 0
abbrev n_Heap___init__ : List Str := ["self"]
abbrev p_Heap___init__ : List Str := ["self"]
theorem sc_Heap___init__ : FnScope n_Heap___init__ p_Heap___init__ (defScope s_Heap___init__) := ⟨rfl, rfl, rfl, by decide +kernel, rfl, by decide +kernel, by decide +kernel⟩
abbrev s_Heap___len__ : Stmt := inClass (top 6) 1
abbrev n_Heap___len__ : List Str := ["self"]
abbrev p_Heap___len__ : List Str := ["self"]
theorem sc_Heap___len__ : FnScope n_Heap___len__ p_Heap___len__ (defScope s_Heap___len__) := ⟨rfl, rfl, rfl, by decide +kernel, rfl, by decide +kernel, by decide +kernel⟩
abbrev s_Heap_young : Stmt := inClass (top 6) 2
abbrev n_Heap_young : List Str := ["self"]
abbrev p_Heap_young : List Str := ["self"]
theorem sc_Heap_young : FnScope n_Heap_young p_Heap_young (defScope s_Heap_young) := ⟨rfl, rfl, rfl, by decide +kernel, rfl, by decide +kernel, by decide +kernel⟩
abbrev s_Heap_old : Stmt := inClass (top 6) 3
abbrev n_Heap_old : List Str := ["self"]
abbrev p_Heap_old : List Str := ["self"]
theorem sc_Heap_old : FnScope n_Heap_old p_Heap_old (defScope s_Heap_old) := ⟨rfl, rfl, rfl, by decide +kernel, rfl, by decide +kernel, by decide +kernel⟩
abbrev s_Heap_remembered : Stmt := inClass (top 6) 4
abbrev n_Heap_remembered : List Str := ["self"]
abbrev p_Heap_remembered : List Str := ["self"]
theorem sc_Heap_remembered : FnScope n_Heap_remembered p_Heap_remembered (defScope s_Heap_remembered) := ⟨rfl, rfl, rfl, by decide +kernel, rfl, by decide +kernel, by decide +kernel⟩
abbrev s_Heap_make : Stmt := inClass (top 6) 5
abbrev n_Heap_make : List Str := ["self", "kind", "tag", "slots", "address"]
abbrev p_Heap_make : List Str := ["self", "kind", "tag", "slots"]
theorem sc_Heap_make : FnScope n_Heap_make p_Heap_make (defScope s_Heap_make) := ⟨rfl, rfl, rfl, by decide +kernel, rfl, by decide +kernel, by decide +kernel⟩
abbrev s_Heap_set_slot : Stmt := inClass (top 6) 6
abbrev n_Heap_set_slot : List Str := ["self", "value", "index", "entry"]
abbrev p_Heap_set_slot : List Str := ["self", "value", "index", "entry"]
theorem sc_Heap_set_slot : FnScope n_Heap_set_slot p_Heap_set_slot (defScope s_Heap_set_slot) := ⟨rfl, rfl, rfl, by decide +kernel, rfl, by decide +kernel, by decide +kernel⟩
abbrev s_Heap_change : Stmt := inClass (top 6) 7
abbrev n_Heap_change : List Str := ["self", "value", "tag", "slots", "thing"]
abbrev p_Heap_change : List Str := ["self", "value", "tag", "slots"]
theorem sc_Heap_change : FnScope n_Heap_change p_Heap_change (defScope s_Heap_change) := ⟨rfl, rfl, rfl, by decide +kernel, rfl, by decide +kernel, by decide +kernel⟩
abbrev s_Heap_remember : Stmt := inClass (top 6) 8
abbrev n_Heap_remember : List Str := ["self", "address", "entries"]
abbrev p_Heap_remember : List Str := ["self", "address", "entries"]
theorem sc_Heap_remember : FnScope n_Heap_remember p_Heap_remember (defScope s_Heap_remember) := ⟨rfl, rfl, rfl, by decide +kernel, rfl, by decide +kernel, by decide +kernel⟩
abbrev s_Heap_collect : Stmt := inClass (top 6) 9
abbrev n_Heap_collect : List Str := ["self", "entries", "full"]
abbrev p_Heap_collect : List Str := ["self", "entries", "full"]
theorem sc_Heap_collect : FnScope n_Heap_collect p_Heap_collect (defScope s_Heap_collect) := ⟨rfl, rfl, rfl, by decide +kernel, rfl, by decide +kernel, by decide +kernel⟩
abbrev s_Heap_move_all : Stmt := inClass (top 6) 10
abbrev n_Heap_move_all : List Str := ["self", "entries"]
abbrev p_Heap_move_all : List Str := ["self", "entries"]
theorem sc_Heap_move_all : FnScope n_Heap_move_all p_Heap_move_all (defScope s_Heap_move_all) := ⟨rfl, rfl, rfl, by decide +kernel, rfl, by decide +kernel, by decide +kernel⟩
abbrev s_Heap_move_young : Stmt := inClass (top 6) 11
abbrev n_Heap_move_young : List Str := ["self", "entries"]
abbrev p_Heap_move_young : List Str := ["self", "entries"]
theorem sc_Heap_move_young : FnScope n_Heap_move_young p_Heap_move_young (defScope s_Heap_move_young) := ⟨rfl, rfl, rfl, by decide +kernel, rfl, by decide +kernel, by decide +kernel⟩
abbrev s_Heap_place : Stmt := inClass (top 6) 12
abbrev n_Heap_place : List Str := ["self", "thing"]
abbrev p_Heap_place : List Str := ["self", "thing"]
theorem sc_Heap_place : FnScope n_Heap_place p_Heap_place (defScope s_Heap_place) := ⟨rfl, rfl, rfl, by decide +kernel, rfl, by decide +kernel, by decide +kernel⟩
abbrev s_Heap_readdress : Stmt := inClass (top 6) 13
abbrev n_Heap_readdress : List Str := ["self", "address", "table"]
abbrev p_Heap_readdress : List Str := ["self", "address", "table"]
theorem sc_Heap_readdress : FnScope n_Heap_readdress p_Heap_readdress (defScope s_Heap_readdress) := ⟨rfl, rfl, rfl, by decide +kernel, rfl, by decide +kernel, by decide +kernel⟩
abbrev s_Heap_reached_young : Stmt := inClass (top 6) 14
abbrev n_Heap_reached_young : List Str := ["self", "entries"]
abbrev p_Heap_reached_young : List Str := ["self", "entries"]
theorem sc_Heap_reached_young : FnScope n_Heap_reached_young p_Heap_reached_young (defScope s_Heap_reached_young) := ⟨rfl, rfl, rfl, by decide +kernel, rfl, by decide +kernel, by decide +kernel⟩
abbrev s_Heap_faults : Stmt := inClass (top 6) 15
abbrev n_Heap_faults : List Str := ["self", "entries"]
abbrev p_Heap_faults : List Str := ["self", "entries"]
theorem sc_Heap_faults : FnScope n_Heap_faults p_Heap_faults (defScope s_Heap_faults) := ⟨rfl, rfl, rfl, by decide +kernel, rfl, by decide +kernel, by decide +kernel⟩
abbrev s_is_young : Stmt := top 7
abbrev n_is_young : List Str := ["address"]
abbrev p_is_young : List Str := ["address"]
theorem sc_is_young : FnScope n_is_young p_is_young (defScope s_is_young) := ⟨rfl, rfl, rfl, by decide +kernel, rfl, by decide +kernel, by decide +kernel⟩
abbrev s_refers_to_young : Stmt := top 8
abbrev n_refers_to_young : List Str := ["entries", "entry", "address"]
abbrev p_refers_to_young : List Str := ["entries"]
theorem sc_refers_to_young : FnScope n_refers_to_young p_refers_to_young (defScope s_refers_to_young) := ⟨rfl, rfl, rfl, by decide +kernel, rfl, by decide +kernel, by decide +kernel⟩
abbrev s__law_cell : Stmt := top 10
abbrev n__law_cell : List Str := ["script", "k"]
abbrev p__law_cell : List Str := ["script", "k"]
theorem sc__law_cell : FnScope n__law_cell p__law_cell (defScope s__law_cell) := ⟨rfl, rfl, rfl, by decide +kernel, rfl, by decide +kernel, by decide +kernel⟩
abbrev s__law_box : Stmt := top 11
abbrev n__law_box : List Str := ["script", "k", "cell"]
abbrev p__law_box : List Str := ["script", "k"]
theorem sc__law_box : FnScope n__law_box p__law_box (defScope s__law_box) := ⟨rfl, rfl, rfl, by decide +kernel, rfl, by decide +kernel, by decide +kernel⟩
abbrev s__law_take : Stmt := top 12
abbrev n__law_take : List Str := ["box", "many", "digit", "first", "second"]
abbrev p__law_take : List Str := ["box", "many"]
theorem sc__law_take : FnScope n__law_take p__law_take (defScope s__law_take) := ⟨rfl, rfl, rfl, by decide +kernel, rfl, by decide +kernel, by decide +kernel⟩
abbrev s__law_same : Stmt := top 13
abbrev n__law_same : List Str := ["told", "due", "k"]
abbrev p__law_same : List Str := ["told", "due"]
theorem sc__law_same : FnScope n__law_same p__law_same (defScope s__law_same) := ⟨rfl, rfl, rfl, by decide +kernel, rfl, by decide +kernel, by decide +kernel⟩
abbrev s__law_word : Stmt := top 14
abbrev n__law_word : List Str := ["box", "menu", "letters", "k"]
abbrev p__law_word : List Str := ["box"]
theorem sc__law_word : FnScope n__law_word p__law_word (defScope s__law_word) := ⟨rfl, rfl, rfl, by decide +kernel, rfl, by decide +kernel, by decide +kernel⟩
abbrev s__law_name : Stmt := top 15
abbrev n__law_name : List Str := ["box", "letters", "k"]
abbrev p__law_name : List Str := ["box"]
theorem sc__law_name : FnScope n__law_name p__law_name (defScope s__law_name) := ⟨rfl, rfl, rfl, by decide +kernel, rfl, by decide +kernel, by decide +kernel⟩
abbrev s__law_plain : Stmt := top 16
abbrev n__law_plain : List Str := ["box", "way", "menu", "words"]
abbrev p__law_plain : List Str := ["box"]
theorem sc__law_plain : FnScope n__law_plain p__law_plain (defScope s__law_plain) := ⟨rfl, rfl, rfl, by decide +kernel, rfl, by decide +kernel, by decide +kernel⟩
abbrev s__law_pending : Stmt := top 17
abbrev n__law_pending : List Str := ["box", "pool", "errors", "way", "reasons"]
abbrev p__law_pending : List Str := ["box", "pool", "errors"]
theorem sc__law_pending : FnScope n__law_pending p__law_pending (defScope s__law_pending) := ⟨rfl, rfl, rfl, by decide +kernel, rfl, by decide +kernel, by decide +kernel⟩
abbrev s__law_marked : Stmt := top 18
abbrev n__law_marked : List Str := ["box", "pool", "errors", "way"]
abbrev p__law_marked : List Str := ["box", "pool", "errors", "way"]
theorem sc__law_marked : FnScope n__law_marked p__law_marked (defScope s__law_marked) := ⟨rfl, rfl, rfl, by decide +kernel, rfl, by decide +kernel, by decide +kernel⟩
abbrev s__law_entry : Stmt := top 19
abbrev n__law_entry : List Str := ["box", "pool", "errors", "marks", "way"]
abbrev p__law_entry : List Str := ["box", "pool", "errors", "marks"]
theorem sc__law_entry : FnScope n__law_entry p__law_entry (defScope s__law_entry) := ⟨rfl, rfl, rfl, by decide +kernel, rfl, by decide +kernel, by decide +kernel⟩
abbrev s__law_kinds : Stmt := top 20
abbrev n__law_kinds : List Str := ["first"]
abbrev p__law_kinds : List Str := []
theorem sc__law_kinds : FnScope n__law_kinds p__law_kinds (defScope s__law_kinds) := ⟨rfl, rfl, rfl, by decide +kernel, rfl, by decide +kernel, by decide +kernel⟩
abbrev s__law_kind : Stmt := top 21
abbrev n__law_kind : List Str := ["box", "menu"]
abbrev p__law_kind : List Str := ["box"]
theorem sc__law_kind : FnScope n__law_kind p__law_kind (defScope s__law_kind) := ⟨rfl, rfl, rfl, by decide +kernel, rfl, by decide +kernel, by decide +kernel⟩
abbrev s__law_marks : Stmt := top 22
abbrev n__law_marks : List Str := ["kind"]
abbrev p__law_marks : List Str := ["kind"]
theorem sc__law_marks : FnScope n__law_marks p__law_marks (defScope s__law_marks) := ⟨rfl, rfl, rfl, by decide +kernel, rfl, by decide +kernel, by decide +kernel⟩
abbrev s__law_tag : Stmt := top 23
abbrev n__law_tag : List Str := ["box", "kind", "many", "name", "words", "k"]
abbrev p__law_tag : List Str := ["box", "kind", "many"]
theorem sc__law_tag : FnScope n__law_tag p__law_tag (defScope s__law_tag) := ⟨rfl, rfl, rfl, by decide +kernel, rfl, by decide +kernel, by decide +kernel⟩
abbrev s__law_form : Stmt := top 24
abbrev n__law_form : List Str := ["box", "kind", "pool", "errors", "many", "k", "rest", "tag", "first", "pairs", "entry"]
abbrev p__law_form : List Str := ["box", "kind", "pool", "errors"]
theorem sc__law_form : FnScope n__law_form p__law_form (defScope s__law_form) := ⟨rfl, rfl, rfl, by decide +kernel, rfl, by decide +kernel, by decide +kernel⟩
abbrev s__law_free : Stmt := top 25
abbrev n__law_free : List Str := ["node", "k"]
abbrev p__law_free : List Str := ["node"]
theorem sc__law_free : FnScope n__law_free p__law_free (defScope s__law_free) := ⟨rfl, rfl, rfl, by decide +kernel, rfl, by decide +kernel, by decide +kernel⟩
abbrev s__law_target : Stmt := top 26
abbrev n__law_target : List Str := ["entry"]
abbrev p__law_target : List Str := ["entry"]
theorem sc__law_target : FnScope n__law_target p__law_target (defScope s__law_target) := ⟨rfl, rfl, rfl, by decide +kernel, rfl, by decide +kernel, by decide +kernel⟩
abbrev s__law_moved : Stmt := top 27
abbrev n__law_moved : List Str := ["entry", "table"]
abbrev p__law_moved : List Str := ["entry", "table"]
theorem sc__law_moved : FnScope n__law_moved p__law_moved (defScope s__law_moved) := ⟨rfl, rfl, rfl, by decide +kernel, rfl, by decide +kernel, by decide +kernel⟩
abbrev s__law_sent : Stmt := top 28
abbrev n__law_sent : List Str := ["entries", "table", "entry"]
abbrev p__law_sent : List Str := ["entries", "table"]
theorem sc__law_sent : FnScope n__law_sent p__law_sent (defScope s__law_sent) := ⟨rfl, rfl, rfl, by decide +kernel, rfl, by decide +kernel, by decide +kernel⟩
abbrev s__law_spoil : Stmt := top 29
abbrev n__law_spoil : List Str := ["row", "due"]
abbrev p__law_spoil : List Str := ["row", "due"]
theorem sc__law_spoil : FnScope n__law_spoil p__law_spoil (defScope s__law_spoil) := ⟨rfl, rfl, rfl, by decide +kernel, rfl, by decide +kernel, by decide +kernel⟩
abbrev s__law_table : Stmt := top 30
abbrev n__law_table : List Str := ["many", "step", "k"]
abbrev p__law_table : List Str := ["many", "step"]
theorem sc__law_table : FnScope n__law_table p__law_table (defScope s__law_table) := ⟨rfl, rfl, rfl, by decide +kernel, rfl, by decide +kernel, by decide +kernel⟩
abbrev s__law_errors : Stmt := top 31
abbrev n__law_errors : List Str := ["nodes", "k"]
abbrev p__law_errors : List Str := ["nodes"]
theorem sc__law_errors : FnScope n__law_errors p__law_errors (defScope s__law_errors) := ⟨rfl, rfl, rfl, by decide +kernel, rfl, by decide +kernel, by decide +kernel⟩
abbrev s__law_make : Stmt := top 32
abbrev n__law_make : List Str := ["box", "bank", "nodes", "step", "pool", "kind", "form", "given", "due", "again", "value", "k"]
abbrev p__law_make : List Str := ["box", "bank", "nodes", "step"]
theorem sc__law_make : FnScope n__law_make p__law_make (defScope s__law_make) := ⟨rfl, rfl, rfl, by decide +kernel, rfl, by decide +kernel, by decide +kernel⟩
abbrev s__law_set : Stmt := top 33
abbrev n__law_set : List Str := ["box", "bank", "nodes", "step", "holders", "pool", "node", "places", "at", "entry", "row", "table", "k"]
abbrev p__law_set : List Str := ["box", "bank", "nodes", "step", "holders"]
theorem sc__law_set : FnScope n__law_set p__law_set (defScope s__law_set) := ⟨rfl, rfl, rfl, by decide +kernel, rfl, by decide +kernel, by decide +kernel⟩
abbrev s__law_change : Stmt := top 34
abbrev n__law_change : List Str := ["box", "bank", "nodes", "step", "pool", "node", "kind", "alike", "other", "table", "way", "form", "given", "k"]
abbrev p__law_change : List Str := ["box", "bank", "nodes", "step"]
theorem sc__law_change : FnScope n__law_change p__law_change (defScope s__law_change) := ⟨rfl, rfl, rfl, by decide +kernel, rfl, by decide +kernel, by decide +kernel⟩
abbrev s__law_deed : Stmt := top 35
abbrev n__law_deed : List Str := ["box", "bank", "nodes", "step", "holders", "way", "k"]
abbrev p__law_deed : List Str := ["box", "bank", "nodes", "step"]
theorem sc__law_deed : FnScope n__law_deed p__law_deed (defScope s__law_deed) := ⟨rfl, rfl, rfl, by decide +kernel, rfl, by decide +kernel, by decide +kernel⟩
abbrev s__law_told : Stmt := top 36
abbrev n__law_told : List Str := ["bank", "nodes", "step", "table", "k", "node", "value", "due", "row", "second", "at"]
abbrev p__law_told : List Str := ["bank", "nodes", "step"]
theorem sc__law_told : FnScope n__law_told p__law_told (defScope s__law_told) := ⟨rfl, rfl, rfl, by decide +kernel, rfl, by decide +kernel, by decide +kernel⟩
abbrev s_law : Stmt := top 37
abbrev n_law : List Str := ["script", "head", "deeds", "banks", "steps", "books", "sides", "turn", "box", "side"]
abbrev p_law : List Str := ["script"]
theorem sc_law : FnScope n_law p_law (defScope s_law) := ⟨rfl, rfl, rfl, by decide +kernel, rfl, by decide +kernel, by decide +kernel⟩
end D0
namespace D0
open PySem PySem.Spec PyProof.Rows L2 SX
theorem _root_.L2.Fun.lk {K : PySem.W.Frag} {x q : Str} {st : Stmt} {f : Addr} {fd : FuncData} (F : Fun K x q st f fd) : ∃ oc od osl, K.lookup f = some ⟨oc, od, .func fd, osl⟩ := by
  obtain ⟨oc, od, kV, doc, pm, an, cdv, ct, osl, e, lk, _⟩ := F.ex
  exact ⟨oc, od, osl, lk⟩
/-- the def named x keeps the promise sp -/
def OkD (P : Program) (w : World) (K : PySem.W.Frag) (mg : Str → Option Value) (base : Heap) (CX : CXT) (k : Nat) (x : Str) (ps : List Str) (sp : Sp) : Prop :=
  ∃ f fd, mg x = some (.ref f) ∧ PySem.W.keepIn K (.ref f) = true ∧ Binds K fd ps [] ∧ (∃ oc od osl, K.lookup f = some ⟨oc, od, .func fd, osl⟩) ∧ FnOk P w K mg base CX k f fd ps sp
theorem OkD.mono {P w K mg base CX j k x ps sp} (O : OkD P w K mg base CX j x ps sp) (h : j ≤ k) : OkD P w K mg base CX k x ps sp := by
  obtain ⟨f, fd, a, b, c, d, F⟩ := O
  exact ⟨f, fd, a, b, c, d, F.mono h⟩
/-- the def named x stands in the text as st -/
def Gv (K : PySem.W.Frag) (mg : Str → Option Value) (x : Str) (st : Stmt) (ps : List Str) : Prop :=
  ∃ f fd, Fun K x x st f fd ∧ mg x = some (.ref f) ∧ Binds K fd ps []
section
variable {X : Cx} {CX : CXT} {k j : Nat} {ps : List Str} {sp : Sp} {E : XK} {x : Str} {p pos : Pos} {e : Expr} {es : List Expr} {t : TA}
theorem pcallE (O : OkD X.prog X.w X.K X.mg X.base CX k x ps sp) (hr : Room j X.A) (hx : Passes CX X E) (ha : PA X (e :: es) t) (hj : k ≤ j := by first | decide | omega) (hg : Gl X x := by rfl)
    (hdb : (x == ("__debug__" : Str)) = false := by decide) (he : starEach (e :: es) X.env = (false, eval e X.env) :: starEach es X.env := by rfl) (hpl : (backTo pos (starEach es X.env)).any (·.1) = false := by rfl) :
    PE X (.Call (.Name x p) (e :: es) [] pos) (tCall sp [] E t) := by
  obtain ⟨f, fd, hm, hk, hb, _, F⟩ := O
  exact pe_call F (hr.mono hj) hg hm hk hb .nil hx ha hdb he hpl
theorem pcall (O : OkD X.prog X.w X.K X.mg X.base CX0 k x ps sp) (hr : Room j X.A) (ha : PA X (e :: es) t) (hj : k ≤ j := by first | decide | omega) (hg : Gl X x := by rfl)
    (hdb : (x == ("__debug__" : Str)) = false := by decide) (he : starEach (e :: es) X.env = (false, eval e X.env) :: starEach es X.env := by rfl) (hpl : (backTo pos (starEach es X.env)).any (·.1) = false := by rfl) :
    PE X (.Call (.Name x p) (e :: es) [] pos) (tCall sp [] E0 t) := pcallE O hr pass0 ha hj hg hdb he hpl
theorem pcall0 (O : OkD X.prog X.w X.K X.mg X.base CX0 k x ps sp) (hr : Room j X.A) (hj : k ≤ j := by first | decide | omega) (hg : Gl X x := by rfl)
    (hdb : (x == ("__debug__" : Str)) = false := by decide) :
    PE X (.Call (.Name x p) [] [] pos) (tCall sp [] E0 tNil) := by
  obtain ⟨f, fd, hm, hk, hb, _, F⟩ := O
  exact pe_call0 F (hr.mono hj) hg hm hk hb .nil pass0 hdb
end
section
variable {P : Program} {w : World} {K : PySem.W.Frag} {mg : Str → Option Value} {base : Heap}
theorem Gv.ok {x : Str} {st : Stmt} {N ps : List Str} {k : Nat} {sp : Sp} (G : Gv K mg x st ps) (S : FnScope N ps (defScope st)) (len : ∀ vs H Q E, sp vs H Q E → vs.length = ps.length)
    (hbody : ∀ (f : Addr) (cdv : Value) (A : Around) (outer : List Env) (s : Shared) (H : Hp) (vs : List V) (Q : VK) (E : XK), Room k (A.deeper (envOfC x (defScope st) s.heap.objs.size f cdv)) → sp vs H Q E →
      ∃ t, PSs (cxOf CX0 P w K mg base N x (defScope st) f cdv A outer s H E).nox (defBody st) t ∧ t { nx := fun _ H' => Q .non H', rt := Q } (start N vs) H) : OkD P w K mg base CX0 (k + 1) x ps sp := by
  obtain ⟨f, fd, F, hm, hb⟩ := G
  exact ⟨f, fd, hm, F.kp, hb, F.lk, F.ok S len (hbody f)⟩
theorem Gv.okX {x : Str} {st : Stmt} {N ps : List Str} {k : Nat} {sp : Sp} (G : Gv K mg x st ps) (S : FnScope N ps (defScope st)) (len : ∀ vs H Q E, sp vs H Q E → vs.length = ps.length)
    (hbody : ∀ (f : Addr) (cdv : Value) (A : Around) (outer : List Env) (s : Shared) (H : Hp) (vs : List V) (Q : VK) (E : XK), Room k (A.deeper (envOfC x (defScope st) s.heap.objs.size f cdv)) → sp vs H Q E →
      ∃ t, PSs (cxOf (L2.CX P w) P w K mg base N x (defScope st) f cdv A outer s H E) (defBody st) t ∧ t { nx := fun _ H' => Q .non H', rt := Q } (start N vs) H) : OkD P w K mg base (L2.CX P w) (k + 1) x ps sp := by
  obtain ⟨f, fd, F, hm, hb⟩ := G
  exact ⟨f, fd, hm, F.kp, hb, F.lk, F.okX S len (hbody f)⟩
end
theorem pe_gI {X : Cx} {x : Str} {n : Int} {pos : Pos} (h : ∃ t, X.mg x = some (.int n t)) (hg : Gl X x := by rfl) (hd : (x == ("__debug__" : Str)) = false := by decide) : PE X (.Name x pos) (tC (.int n)) := by
  obtain ⟨t, h⟩ := h
  exact pe_glob hg h (show RelV (.int n) _ from ⟨t, rfl⟩) hd
/-- is True, is False: of any value -/
theorem op_isTF {X : Cx} : OpR X (compareOp .Is) (fun x y H Q => ∃ b, y = .bl b ∧ Q (.bl (decide (x = .bl b))) H) := by
  intro pins s σ H x y v u Q I rx ry h
  obtain ⟨b, rfl, q⟩ := h
  cases (show u = Value.bool b from ry)
  by_cases e : x = .bl b
  · subst e
    cases (show v = Value.bool b from rx)
    exact wpAny_is_self rfl ⟨.bl true, H, I, rfl, by simpa using q⟩
  · have hp : plainIs v (Value.bool b) = true ∧ v ≠ Value.bool b := by
      cases x with
      | bl c => cases (show v = Value.bool c from rx); exact ⟨rfl, fun z => e (by cases z; rfl)⟩
      | non => cases (show v = Value.none from rx); exact ⟨rfl, fun z => nomatch z⟩
      | ref a => cases (show v = Value.ref a from rx); exact ⟨rfl, fun z => nomatch z⟩
      | ty n => cases (show v = Value.type n from rx); exact ⟨rfl, fun z => nomatch z⟩
      | int i => obtain ⟨t, rfl⟩ := rx; exact ⟨rfl, fun z => nomatch z⟩
      | str i => obtain ⟨t, rfl⟩ := rx; exact ⟨rfl, fun z => nomatch z⟩
      | byt i => obtain ⟨t, rfl⟩ := rx; exact ⟨rfl, fun z => nomatch z⟩
      | flt i => obtain ⟨t, rfl⟩ := rx; exact ⟨rfl, fun z => nomatch z⟩
    exact wpAny_is_other hp.1 hp.2 ⟨.bl false, H, I, rfl, by simpa [e] using q⟩
section
variable {P : Program} {w : World} {K : PySem.W.Frag} {mg : Str → Option Value} {base : Heap}
/-- the method m of the class C keeps the promise sp -/
def OkM (P : Program) (w : World) (K : PySem.W.Frag) (mg : Str → Option Value) (base : Heap) (C : Addr) (CX : CXT) (k : Nat) (m : Str) (ps : List Str) (sp : Sp) : Prop :=
  ∃ f fd, Meth K C m f ∧ Binds K fd ps [] ∧ FnOk P w K mg base CX k f fd ps sp
def Gvm (K : PySem.W.Frag) (C : Addr) (m q : Str) (st : Stmt) (ps : List Str) : Prop := ∃ f fd, Fun K m q st f fd ∧ Meth K C m f ∧ Binds K fd ps []
theorem OkM.mono {C : Addr} {CX j k x ps sp} (O : OkM P w K mg base C CX j x ps sp) (h : j ≤ k) : OkM P w K mg base C CX k x ps sp := by
  obtain ⟨f, fd, a, b, F⟩ := O
  exact ⟨f, fd, a, b, F.mono h⟩
theorem Gvm.ok {C : Addr} {x q : Str} {st : Stmt} {N ps : List Str} {k : Nat} {sp : Sp} (G : Gvm K C x q st ps) (S : FnScope N ps (defScope st)) (len : ∀ vs H Q E, sp vs H Q E → vs.length = ps.length)
    (hbody : ∀ (f : Addr) (cdv : Value) (A : Around) (outer : List Env) (s : Shared) (H : Hp) (vs : List V) (Q : VK) (E : XK), Room k (A.deeper (envOfC q (defScope st) s.heap.objs.size f cdv)) → sp vs H Q E →
      ∃ t, PSs (cxOf CX0 P w K mg base N q (defScope st) f cdv A outer s H E).nox (defBody st) t ∧ t { nx := fun _ H' => Q .non H', rt := Q } (start N vs) H) : OkM P w K mg base C CX0 (k + 1) x ps sp := by
  obtain ⟨f, fd, F, hm, hb⟩ := G
  exact ⟨f, fd, hm, hb, F.ok S len (hbody f)⟩
theorem Gvm.okX {C : Addr} {x q : Str} {st : Stmt} {N ps : List Str} {k : Nat} {sp : Sp} (G : Gvm K C x q st ps) (S : FnScope N ps (defScope st)) (len : ∀ vs H Q E, sp vs H Q E → vs.length = ps.length)
    (hbody : ∀ (f : Addr) (cdv : Value) (A : Around) (outer : List Env) (s : Shared) (H : Hp) (vs : List V) (Q : VK) (E : XK), Room k (A.deeper (envOfC q (defScope st) s.heap.objs.size f cdv)) → sp vs H Q E →
      ∃ t, PSs (cxOf (L2.CX P w) P w K mg base N q (defScope st) f cdv A outer s H E) (defBody st) t ∧ t { nx := fun _ H' => Q .non H', rt := Q } (start N vs) H) : OkM P w K mg base C (L2.CX P w) (k + 1) x ps sp := by
  obtain ⟨f, fd, F, hm, hb⟩ := G
  exact ⟨f, fd, hm, hb, F.okX S len (hbody f)⟩
end
section
variable {X : Cx} {CX : CXT} {k j : Nat} {ps : List Str} {sp : Sp} {E : XK} {x m : Str} {p pos apos : Pos} {o e : Expr} {es : List Expr} {ta : TE} {t : TA} {C : Addr} {pl : Sem Bool}
theorem pmethE (O : OkM X.prog X.w X.K X.mg X.base C CX k m ps sp) (cl : Cls X.K C) (hr : Room j X.A) (hx : Passes CX X E) (ho : PE X o ta) (ha : PA X (e :: es) t) (hj : k ≤ j := by first | decide | omega)
    (he : starEach (e :: es) X.env = (false, eval e X.env) :: starEach es X.env := by rfl) (hpl : (backTo pos (starEach es X.env)).any (·.1) = false := by rfl)
    (hm : eval (.Call (.Attribute o m apos) (e :: es) [] pos) X.env = (do
      let ov ← eval o X.env
      standAt apos.atName
      let (f, first) ← holding [ov] (getMethod ov m pl)
      callWith pos f first (backTo pos (starEach (e :: es) X.env)) (backToKw pos (keywordEach [] X.env))) := by rfl) :
    PE X (.Call (.Attribute o m apos) (e :: es) [] pos) (tMeth C m sp [] E ta t) := by
  obtain ⟨f, fd, hm', hb, F⟩ := O
  exact pe_meth ho cl hm' F (hr.mono hj) hb .nil hx ha he hpl hm
theorem pmeth0 (O : OkM X.prog X.w X.K X.mg X.base C CX k m ps sp) (cl : Cls X.K C) (hr : Room j X.A) (hx : Passes CX X E) (ho : PE X o ta) (hj : k ≤ j := by first | decide | omega)
    (hm : eval (.Call (.Attribute o m apos) [] [] pos) X.env = (do
      let ov ← eval o X.env
      standAt apos.atName
      let (f, first) ← holding [ov] (getMethod ov m pl)
      callWith pos f first (backTo pos (starEach [] X.env)) (backToKw pos (keywordEach [] X.env))) := by rfl) :
    PE X (.Call (.Attribute o m apos) [] [] pos) (tMeth C m sp [] E ta tNil) := by
  obtain ⟨f, fd, hm', hb, F⟩ := O
  exact pe_meth0 ho cl hm' F (hr.mono hj) hb .nil hx hm
end
end D0
namespace D0
open PySem PySem.Spec PyProof.Rows L2 SX
/-- THE TEXT -/
structure Txt (K : PySem.W.Frag) (w : World) (mg : Str → Option Value) : Prop where
  z_bool : mg "bool" = none
  z_int : mg "int" = none
  z_isinstance : mg "isinstance" = none
  z_len : mg "len" = none
  z_list : mg "list" = none
  z_property : mg "property" = none
  z_range : mg "range" = none
  z_str : mg "str" = none
  z_sum : mg "sum" = none
  z_tuple : mg "tuple" = none
  g__wall : Gv K mg "_wall" s__wall p__wall
  g_address_of : Gv K mg "address_of" s_address_of p_address_of
  g_is_young : Gv K mg "is_young" s_is_young p_is_young
  g_refers_to_young : Gv K mg "refers_to_young" s_refers_to_young p_refers_to_young
  g__law_cell : Gv K mg "_law_cell" s__law_cell p__law_cell
  g__law_box : Gv K mg "_law_box" s__law_box p__law_box
  g__law_take : Gv K mg "_law_take" s__law_take p__law_take
  g__law_same : Gv K mg "_law_same" s__law_same p__law_same
  g__law_word : Gv K mg "_law_word" s__law_word p__law_word
  g__law_name : Gv K mg "_law_name" s__law_name p__law_name
  g__law_plain : Gv K mg "_law_plain" s__law_plain p__law_plain
  g__law_pending : Gv K mg "_law_pending" s__law_pending p__law_pending
  g__law_marked : Gv K mg "_law_marked" s__law_marked p__law_marked
  g__law_entry : Gv K mg "_law_entry" s__law_entry p__law_entry
  g__law_kinds : Gv K mg "_law_kinds" s__law_kinds p__law_kinds
  g__law_kind : Gv K mg "_law_kind" s__law_kind p__law_kind
  g__law_marks : Gv K mg "_law_marks" s__law_marks p__law_marks
  g__law_tag : Gv K mg "_law_tag" s__law_tag p__law_tag
  g__law_form : Gv K mg "_law_form" s__law_form p__law_form
  g__law_free : Gv K mg "_law_free" s__law_free p__law_free
  g__law_moved : Gv K mg "_law_moved" s__law_moved p__law_moved
  g__law_sent : Gv K mg "_law_sent" s__law_sent p__law_sent
  g__law_spoil : Gv K mg "_law_spoil" s__law_spoil p__law_spoil
  g__law_table : Gv K mg "_law_table" s__law_table p__law_table
  g__law_errors : Gv K mg "_law_errors" s__law_errors p__law_errors
  g__law_make : Gv K mg "_law_make" s__law_make p__law_make
  g__law_set : Gv K mg "_law_set" s__law_set p__law_set
  g__law_change : Gv K mg "_law_change" s__law_change p__law_change
  g__law_deed : Gv K mg "_law_deed" s__law_deed p__law_deed
  g__law_told : Gv K mg "_law_told" s__law_told p__law_told
  g_law : Gv K mg "law" s_law p_law
structure ThT (K : PySem.W.Frag) (mg : Str → Option Value) (C : Addr) : Prop where
  cl : Cls K C
  gl : mg "Thing" = some (.ref C)
  n_kind : NoAttr K C "kind"
  n_tag : NoAttr K C "tag"
  n_slots : NoAttr K C "slots"
  n_age : NoAttr K C "age"
  ini : ∃ fI fd, Mk K C fI ∧ Binds K fd p_Thing___init__ [] ∧ Fun K "__init__" "Thing.__init__" s_Thing___init__ fI fd
/-- a bank's class: what Store and Heap share -/
structure BkT (K : PySem.W.Frag) (C : Addr) : Prop where
  cl : Cls K C
  n_things : NoAttr K C "things"
  g_kind_of : Gvm K C "kind_of" "Store.kind_of" s_Store_kind_of p_Store_kind_of
  g_tag_of : Gvm K C "tag_of" "Store.tag_of" s_Store_tag_of p_Store_tag_of
  g_slots_of : Gvm K C "slots_of" "Store.slots_of" s_Store_slots_of p_Store_slots_of
  g_slot : Gvm K C "slot" "Store.slot" s_Store_slot p_Store_slot
structure StT (K : PySem.W.Frag) (mg : Str → Option Value) (C : Addr) : Prop where
  bk : BkT K C
  gl : mg "Store" = some (.ref C)
  ini : ∃ fI fd, Mk K C fI ∧ Binds K fd p_Store___init__ [] ∧ Fun K "__init__" "Store.__init__" s_Store___init__ fI fd
  g_make : Gvm K C "make" "Store.make" s_Store_make p_Store_make
  g_set_slot : Gvm K C "set_slot" "Store.set_slot" s_Store_set_slot p_Store_set_slot
  g_change : Gvm K C "change" "Store.change" s_Store_change p_Store_change
structure HeT (K : PySem.W.Frag) (mg : Str → Option Value) (C : Addr) : Prop where
  bk : BkT K C
  gl : mg "Heap" = some (.ref C)
  n_young_many : NoAttr K C "young_many"
  n_old_many : NoAttr K C "old_many"
  n_marked : NoAttr K C "marked"
  ini : ∃ fI fd, Mk K C fI ∧ Binds K fd p_Heap___init__ [] ∧ Fun K "__init__" "Heap.__init__" s_Heap___init__ fI fd
  g_make : Gvm K C "make" "Heap.make" s_Heap_make p_Heap_make
  g_set_slot : Gvm K C "set_slot" "Heap.set_slot" s_Heap_set_slot p_Heap_set_slot
  g_change : Gvm K C "change" "Heap.change" s_Heap_change p_Heap_change
  g_remember : Gvm K C "remember" "Heap.remember" s_Heap_remember p_Heap_remember
end D0
namespace D0
open PySem PySem.Spec PyProof.Rows L2 SX
theorem same_new {H : Hp} {p : Addr} (h : H p = none) (o : HO) : Same H (upd H p o) := fun b u q => by rw [upd_ne (ne_of_none q h)]; exact q
theorem split_at {X : Cx} {body : List Stmt} (n : Nat) {F : TS → Prop} (G : TS → Prop) (h1 : ∃ t, PSs X (body.drop n) t ∧ G t) (h2 : ∀ t, PSs X (body.drop n) t → G t → ∃ u, PSs X body u ∧ F u) : ∃ u, PSs X body u ∧ F u := by
  obtain ⟨t, a, b⟩ := h1
  exact h2 t a b
theorem str_dec (a b : List Nat) : decide (V.str (S a) = V.str (S b)) = decide (a = b) := by
  by_cases h : a = b
  · subst h; rw [decide_eq_true rfl, decide_eq_true rfl]
  · rw [decide_eq_false h, decide_eq_false]
    intro z; exact h (S_inj (V.str.inj z))
theorem int_dec {a b : Nat} : decide (V.int (a : Int) = V.int (b : Int)) = decide (a = b) := by
  by_cases h : a = b
  · subst h; rw [decide_eq_true rfl, decide_eq_true rfl]
  · rw [decide_eq_false h, decide_eq_false (fun z => h (by have := V.int.inj z; omega))]
theorem lt_dec {a b : Nat} : decide ((a : Int) < (b : Int)) = decide (a < b) := by
  by_cases h : a < b
  · rw [decide_eq_true h, decide_eq_true (by omega)]
  · rw [decide_eq_false h, decide_eq_false (by omega)]
/-- frozen data -/
inductive D where
  | non | bl (b : Bool) | int (i : Int) | str (l : List Nat) | tup (l : List D)
mutual
def dep : D → Nat
  | .tup l => 1 + deps l
  | _ => 0
def deps : List D → Nat
  | [] => 0
  | d :: r => max (dep d) (deps r)
end
theorem dep_tup (l : List D) : dep (.tup l) = 1 + deps l := by unfold dep; rfl
theorem deps_mem : ∀ {l : List D} {n : Nat}, deps l ≤ n → ∀ d ∈ l, dep d ≤ n
  | d :: r, n, h, e, hm => by
    unfold deps at h
    rcases List.mem_cons.mp hm with rfl | hm
    · omega
    · exact deps_mem (by omega) e hm
theorem deps_of : ∀ {l : List D} {n : Nat}, (∀ d ∈ l, dep d ≤ n) → deps l ≤ n
  | [], _, _ => by unfold deps; omega
  | d :: r, n, h => by
    unfold deps
    have h1 := h d (List.mem_cons_self ..)
    have h2 := deps_of (n := n) fun e he => h e (List.mem_cons_of_mem _ he)
    omega
/-- the tuples of H stand in H' -/
def Tups (H H' : Hp) : Prop := ∀ a vs, H a = some (.tup vs) → H' a = some (.tup vs)
theorem Tups.refl {H : Hp} : Tups H H := fun _ _ h => h
theorem Tups.trans {H H1 H2 : Hp} (x : Tups H H1) (y : Tups H1 H2) : Tups H H2 := fun a vs h => y a vs (x a vs h)
theorem Tups.same {H H' : Hp} (s : Same H H') : Tups H H' := fun a vs h => s a _ h
theorem Tups.new {H : Hp} {p : Addr} {o : HO} (h : H p = none) : Tups H (upd H p o) := fun a vs e => by rw [upd_ne (ne_of_none e h)]; exact e
theorem Tups.at {H : Hp} {p : Addr} {o o' : HO} (h : H p = some o) (n : ∀ vs, o ≠ .tup vs) : Tups H (upd H p o') := fun a vs e => by
  rw [upd_ne (fun z => by rw [z, h] at e; exact n vs (Option.some.inj e))]; exact e
mutual
/-- the value v is the datum d -/
inductive Rep (H : Hp) : V → D → Prop
  | non : Rep H .non .non
  | bl (b : Bool) : Rep H (.bl b) (.bl b)
  | int (i : Int) : Rep H (.int i) (.int i)
  | str (l : List Nat) : Rep H (.str (S l)) (.str l)
  | tup {a : Addr} {vs : List V} {ds : List D} (h : H a = some (.tup vs)) (hl : vs.length ≤ 1000) (r : Reps H vs ds) : Rep H (.ref a) (.tup ds)
inductive Reps (H : Hp) : List V → List D → Prop
  | nil : Reps H [] []
  | cons {v : V} {d : D} {vs : List V} {ds : List D} (h : Rep H v d) (r : Reps H vs ds) : Reps H (v :: vs) (d :: ds)
end
mutual
theorem Rep.mono {H H' : Hp} {v : V} {d : D} (s : Tups H H') : Rep H v d → Rep H' v d
  | .non => .non
  | .bl b => .bl b
  | .int i => .int i
  | .str l => .str l
  | .tup h hl r => .tup (s _ _ h) hl (Reps.mono s r)
theorem Reps.mono {H H' : Hp} {vs : List V} {ds : List D} (s : Tups H H') : Reps H vs ds → Reps H' vs ds
  | .nil => .nil
  | .cons h r => .cons (Rep.mono s h) (Reps.mono s r)
end
theorem Reps.len {H : Hp} : ∀ {vs : List V} {ds : List D}, Reps H vs ds → vs.length = ds.length
  | _, _, .nil => rfl
  | _, _, .cons _ r => congrArg Nat.succ r.len
theorem Reps.get {H : Hp} : ∀ {vs : List V} {ds : List D} {i : Nat} {v : V}, Reps H vs ds → vs[i]? = some v → ∃ d, ds[i]? = some d ∧ Rep H v d
  | _, _, _, _, .nil, h => by simp at h
  | _, _, 0, v, .cons (d := d) h r, e => by simp at e; subst e; exact ⟨d, rfl, h⟩
  | _, _, i + 1, v, .cons h r, e => by obtain ⟨d, e1, e2⟩ := Reps.get (i := i) r (by simpa using e); exact ⟨d, by simpa using e1, e2⟩
theorem Reps.at {H : Hp} : ∀ {vs : List V} {ds : List D} {i : Nat} {d : D}, Reps H vs ds → ds[i]? = some d → ∃ v, vs[i]? = some v ∧ Rep H v d
  | _, _, _, _, .nil, h => by simp at h
  | _, _, 0, d, .cons (v := v) h r, e => by simp at e; subst e; exact ⟨v, rfl, h⟩
  | _, _, i + 1, d, .cons h r, e => by obtain ⟨v, e1, e2⟩ := Reps.at (i := i) r (by simpa using e); exact ⟨v, by simpa using e1, e2⟩
theorem Reps.app {H : Hp} : ∀ {vs ws : List V} {ds es : List D}, Reps H vs ds → Reps H ws es → Reps H (vs ++ ws) (ds ++ es)
  | _, _, _, _, .nil, s => s
  | _, _, _, _, .cons h r, s => .cons h (r.app s)
theorem Reps.one {H : Hp} {v : V} {d : D} (h : Rep H v d) : Reps H [v] [d] := .cons h .nil
theorem Reps.set {H : Hp} : ∀ {vs : List V} {ds : List D} {i : Nat} {v : V} {d : D}, Reps H vs ds → Rep H v d → Reps H (vs.set i v) (ds.set i d)
  | _, _, _, _, _, .nil, _ => .nil
  | _, _, 0, _, _, .cons h r, e => .cons e r
  | _, _, i + 1, _, _, .cons h r, e => .cons h (Reps.set (i := i) r e)
def tyD : D → String
  | .non => "NoneType" | .bl _ => "bool" | .int _ => "int" | .str _ => "str" | .tup _ => "tuple"
theorem Rep.ty {K : PySem.W.Frag} {H : Hp} {v : V} {d : D} (r : Rep H v d) : TyX K H v (.type (tyD d)) := by
  cases r with
  | non => exact .base .non
  | bl b => exact .base (.bl b)
  | int i => exact .base (.int i)
  | str l => exact .base (.str _)
  | tup h hl r => exact .base (.tup h)
def isInt : D → Bool | .int _ => true | .bl _ => true | _ => false
def isStr : D → Bool | .str _ => true | _ => false
def isBl : D → Bool | .bl _ => true | _ => false
def isTup : D → Bool | .tup _ => true | _ => false
theorem kit_i : ∀ d : D, kitB (tyD d) "int" = some (isInt d)
  | .non => (by decide +kernel : kitB "NoneType" "int" = some false)
  | .bl _ => (by decide +kernel : kitB "bool" "int" = some true)
  | .int _ => (by decide +kernel : kitB "int" "int" = some true)
  | .str _ => (by decide +kernel : kitB "str" "int" = some false)
  | .tup _ => (by decide +kernel : kitB "tuple" "int" = some false)
theorem kit_s : ∀ d : D, kitB (tyD d) "str" = some (isStr d)
  | .non => (by decide +kernel : kitB "NoneType" "str" = some false)
  | .bl _ => (by decide +kernel : kitB "bool" "str" = some false)
  | .int _ => (by decide +kernel : kitB "int" "str" = some false)
  | .str _ => (by decide +kernel : kitB "str" "str" = some true)
  | .tup _ => (by decide +kernel : kitB "tuple" "str" = some false)
theorem kit_b : ∀ d : D, kitB (tyD d) "bool" = some (isBl d)
  | .non => (by decide +kernel : kitB "NoneType" "bool" = some false)
  | .bl _ => (by decide +kernel : kitB "bool" "bool" = some true)
  | .int _ => (by decide +kernel : kitB "int" "bool" = some false)
  | .str _ => (by decide +kernel : kitB "str" "bool" = some false)
  | .tup _ => (by decide +kernel : kitB "tuple" "bool" = some false)
theorem kit_t : ∀ d : D, kitB (tyD d) "tuple" = some (isTup d)
  | .non => (by decide +kernel : kitB "NoneType" "tuple" = some false)
  | .bl _ => (by decide +kernel : kitB "bool" "tuple" = some false)
  | .int _ => (by decide +kernel : kitB "int" "tuple" = some false)
  | .str _ => (by decide +kernel : kitB "str" "tuple" = some false)
  | .tup _ => (by decide +kernel : kitB "tuple" "tuple" = some true)
theorem kit_l : ∀ d : D, kitB (tyD d) "list" = some false
  | .non => (by decide +kernel : kitB "NoneType" "list" = some false)
  | .bl _ => (by decide +kernel : kitB "bool" "list" = some false)
  | .int _ => (by decide +kernel : kitB "int" "list" = some false)
  | .str _ => (by decide +kernel : kitB "str" "list" = some false)
  | .tup _ => (by decide +kernel : kitB "tuple" "list" = some false)
end D0
namespace D0
open PySem PySem.Spec PyProof.Rows L2 SX
/-! ### entries -/
def wRef : List Nat := [114, 101, 102]
def wHandled : List Nat := [104, 97, 110, 100, 108, 101, 100]
def wPending : List Nat := [112, 101, 110, 100, 105, 110, 103]
inductive En | ref (k : Nat) | hand (k : Nat) | oth (l : List Nat) (ds : List D)
inductive Ent | pl (e : En) | pend (r : Int) (e : En)
def En.d (f : Nat → Int) : En → D
  | .ref k => .tup [.str wRef, .int (f k)]
  | .hand k => .tup [.str wHandled, .int (f k)]
  | .oth l ds => .tup (.str l :: ds)
def Ent.d (f : Nat → Int) : Ent → D
  | .pl e => e.d f
  | .pend r e => .tup [.str wPending, .int r, e.d f]
def En.ok (m : Nat) : En → Prop
  | .ref k => k < m
  | .hand k => k < m
  | .oth l ds => l ≠ wRef ∧ l ≠ wHandled ∧ l ≠ wPending ∧ deps ds = 0
def Ent.ok (m : Nat) : Ent → Prop
  | .pl e => e.ok m
  | .pend _ e => e.ok m
theorem En.ok.mono {m n : Nat} (h : m ≤ n) : ∀ {e : En}, e.ok m → e.ok n
  | .ref _, x => Nat.lt_of_lt_of_le x h
  | .hand _, x => Nat.lt_of_lt_of_le x h
  | .oth _ _, x => x
theorem Ent.ok.mono {m n : Nat} (h : m ≤ n) : ∀ {e : Ent}, e.ok m → e.ok n
  | .pl _, x => En.ok.mono h x
  | .pend _ _, x => En.ok.mono h x
theorem En.dep {m : Nat} {f : Nat → Int} : ∀ {e : En}, e.ok m → D0.dep (e.d f) ≤ 1
  | .ref _, _ => by show D0.dep (.tup _) ≤ 1; rw [dep_tup]; simp [deps, D0.dep]
  | .hand _, _ => by show D0.dep (.tup _) ≤ 1; rw [dep_tup]; simp [deps, D0.dep]
  | .oth _ ds, ⟨_, _, _, h⟩ => by show D0.dep (.tup _) ≤ 1; rw [dep_tup]; simp [deps, D0.dep, h]
theorem Ent.dep {m : Nat} {f : Nat → Int} : ∀ {e : Ent}, e.ok m → D0.dep (e.d f) ≤ 2
  | .pl _, h => Nat.le_succ_of_le (En.dep h)
  | .pend _ e, h => by
    have := En.dep (f := f) (show e.ok m from h)
    show D0.dep (.tup _) ≤ 2; rw [dep_tup]; simp [deps, D0.dep]; omega
def rowD (f : Nat → Int) (es : List Ent) : List D := es.map (Ent.d f)
theorem rowD_dep {m : Nat} {f : Nat → Int} {es : List Ent} (h : ∀ e ∈ es, e.ok m) : deps (rowD f es) ≤ 2 := deps_of fun d hd => by
  obtain ⟨e, he, rfl⟩ := List.mem_map.mp hd
  exact Ent.dep (h e he)
/-- the addresses of a bank whose step is s -/
def tb (s k : Nat) : Int := ((s * k + s - 1 : Nat) : Int)
def ixD (k : Nat) : Int := (k : Nat)
structure Nd where
  kind : List Nat
  tag : D
  row : List Ent
structure Nd.ok (m : Nat) (n : Nd) : Prop where
  tag : D0.dep n.tag ≤ 3
  row : ∀ e ∈ n.row, e.ok m
  len : n.row.length ≤ 100
theorem Nd.ok.mono {m n : Nat} {x : Nd} (h : m ≤ n) (o : x.ok m) : x.ok n := ⟨o.tag, fun e he => (o.row e he).mono h, o.len⟩
/-! ### a bank, a book -/
/-- all but the addresses of F stays; tuples stay -/
structure Chg (F : List Addr) (H H' : Hp) : Prop where
  keep : ∀ a o, a ∉ F → H a = some o → H' a = some o
  tups : Tups H H'
  live : ∀ a, H' a = none → H a = none
theorem live_same {H H' : Hp} (s : Same H H') : ∀ a, H' a = none → H a = none := fun a h => by
  cases e : H a with
  | none => rfl
  | some o => rw [s a o e] at h; cases h
theorem live_upd {H : Hp} {p : Addr} {o : HO} : ∀ a, L2.upd H p o a = none → H a = none := fun a h => by
  by_cases e : a = p
  · rw [e, upd_same] at h; cases h
  · rw [upd_ne e] at h; exact h
theorem Chg.refl {F : List Addr} {H : Hp} : Chg F H H := ⟨fun _ _ _ h => h, .refl, fun _ h => h⟩
theorem Chg.trans {F : List Addr} {H H1 H2 : Hp} (x : Chg F H H1) (y : Chg F H1 H2) : Chg F H H2 := ⟨fun a o n h => y.keep a o n (x.keep a o n h), x.tups.trans y.tups, fun a h => x.live a (y.live a h)⟩
theorem Chg.mono {F G : List Addr} {H H' : Hp} (x : Chg F H H') (s : ∀ a ∈ F, a ∈ G) : Chg G H H' := ⟨fun a o n h => x.keep a o (fun m => n (s a m)) h, x.tups, x.live⟩
theorem Chg.same {F : List Addr} {H H' : Hp} (s : Same H H') : Chg F H H' := ⟨fun a o _ h => s a o h, .same s, live_same s⟩
theorem Chg.upd {F : List Addr} {H : Hp} {p : Addr} {o o' : HO} (h : H p = some o) (n : ∀ vs, o ≠ .tup vs) (m : p ∈ F) : Chg F H (L2.upd H p o') :=
  ⟨fun a u k e => by rw [upd_ne (fun z => k (by rw [z]; exact m))]; exact e, .at h n, live_upd⟩
theorem Chg.new {F : List Addr} {H : Hp} {p : Addr} {o : HO} (h : H p = none) : Chg F H (L2.upd H p o) :=
  ⟨fun a u k e => by rw [upd_ne (ne_of_none e h)]; exact e, .new h, live_upd⟩
/-- what is changed is new or of F: seen from an earlier heap -/
theorem Chg.trans2 {F G : List Addr} {H H1 H2 : Hp} (x : Chg F H H1) (y : Chg G H1 H2) (g : ∀ a ∈ G, a ∈ F ∨ H a = none) : Chg F H H2 :=
  ⟨fun a o n h => y.keep a o (fun m => by rcases g a m with z | z; exact n z; rw [z] at h; cases h) (x.keep a o n h), x.tups.trans y.tups, fun a h => x.live a (y.live a h)⟩
def fThings : Str := "things"
def fKind : Str := "kind"
def fTag : Str := "tag"
def fSlots : Str := "slots"
def fAge : Str := "age"
def fYM : Str := "young_many"
def fOM : Str := "old_many"
def fMk : Str := "marked"
def thF (n : Nd) (tv : V) (s : Addr) : List (Str × V) := [(fKind, .str (S n.kind)), (fTag, tv), (fSlots, .ref s), (fAge, .int 0)]
def kvG (st : Nat) : Nat → List Addr → List (Key × V)
  | _, [] => []
  | i, t :: ts => (.inl (tb st i), .ref t) :: kvG st (i + 1) ts
def kvF (st : Nat) (ths : List Addr) : List (Key × V) := kvG st 0 ths
theorem tb_inj {st i j : Nat} (h : 1 ≤ st) (e : tb st i = tb st j) : i = j := by
  unfold tb at e
  rcases Nat.lt_trichotomy i j with l | l | l
  · have := Nat.mul_lt_mul_of_pos_left l (show 0 < st by omega); omega
  · exact l
  · have := Nat.mul_lt_mul_of_pos_left l (show 0 < st by omega); omega
theorem kvG_len (st : Nat) : ∀ (i : Nat) (ths : List Addr), (kvG st i ths).length = ths.length
  | _, [] => rfl
  | i, t :: ts => congrArg Nat.succ (kvG_len st (i + 1) ts)
theorem kvG_get {st : Nat} (h : 1 ≤ st) : ∀ (ths : List Addr) (i k : Nat) (t : Addr), ths[k]? = some t → valV (kvG st i ths) (.inl (tb st (i + k))) = some (.ref t)
  | [], _, _, _, e => by simp at e
  | a :: ts, i, 0, t, e => by
    have e : a = t := by simpa using e
    subst e
    unfold kvG valV
    rw [List.find?_cons_of_pos (by simp)]; rfl
  | a :: ts, i, k + 1, t, e => by
    have ih := kvG_get h ts (i + 1) k t (by simpa using e)
    unfold kvG valV
    rw [List.find?_cons_of_neg]
    · rw [show i + (k + 1) = i + 1 + k by omega]; exact ih
    · intro z
      have z2 : (Sum.inl (tb st i) : Key) = .inl (tb st (i + (k + 1))) := of_decide_eq_true z
      have := tb_inj h (Sum.inl.inj z2); omega
theorem kvG_app (st : Nat) (v : Addr) : ∀ (ths : List Addr) (i : Nat), kvG st i (ths ++ [v]) = kvG st i ths ++ [(.inl (tb st (i + ths.length)), .ref v)]
  | [], i => rfl
  | a :: ts, i => by
    show _ :: kvG st (i + 1) (ts ++ [v]) = _ :: (kvG st (i + 1) ts ++ _)
    rw [kvG_app st v ts (i + 1)]
    rw [show i + 1 + ts.length = i + (a :: ts).length by simp; omega]
theorem kvG_any {st : Nat} (h : 1 ≤ st) : ∀ (ths : List Addr) (i m : Nat), i + ths.length ≤ m → ((kvG st i ths).any fun kv => decide (kv.fst = (.inl (tb st m) : Key))) = false
  | [], _, _, _ => rfl
  | a :: ts, i, m, l => by
    have l' : i + 1 + ts.length ≤ m := by simp at l; omega
    unfold kvG
    rw [List.any_cons, kvG_any h ts (i + 1) m l', Bool.or_false]
    refine decide_eq_false fun z => ?_
    have z2 : (Sum.inl (tb st i) : Key) = .inl (tb st m) := z
    have := tb_inj h (Sum.inl.inj z2); omega
theorem kvF_put {st : Nat} (h : 1 ≤ st) (ths : List Addr) (v : Addr) : putK (kvF st ths) (.inl (tb st ths.length)) (.ref v) = kvF st (ths ++ [v]) := by
  unfold putK kvF
  rw [if_neg (by rw [kvG_any h ths 0 ths.length (by omega)]; decide), kvG_app, Nat.zero_add]
theorem kvF_get {st : Nat} (h : 1 ≤ st) {ths : List Addr} {k : Nat} {t : Addr} (e : ths[k]? = some t) : valV (kvF st ths) (.inl (tb st k)) = some (.ref t) := by
  have := kvG_get h ths 0 k t e
  rwa [Nat.zero_add] at this
/-- the further fields of a bank -/
def More (st n : Nat) (more : List (Str × V)) : Prop := (st = 1 ∧ more = []) ∨ (st = 2 ∧ ∃ md, more = [(fYM, V.int (n : Nat)), (fOM, V.int 0), (fMk, V.ref md)])
structure BkA (K : PySem.W.Frag) (C CT : Addr) (st : Nat) (H : Hp) (B td : Addr) (ths sls : List Addr) (nds : List Nd) : Prop where
  lt : ths.length = nds.length
  ls : sls.length = nds.length
  hB : ∃ dx more, H B = some (.ins C dx ((fThings, .ref td) :: more)) ∧ More st nds.length more
  hD : H td = some (.dK (kvF st ths))
  hT : ∀ (k : Nat) (t s : Addr) (n : Nd), ths[k]? = some t → sls[k]? = some s → nds[k]? = some n → ∃ dx tv, H t = some (.ins CT dx (thF n tv s)) ∧ Rep H tv n.tag
  hS : ∀ (k : Nat) (s : Addr) (n : Nd), sls[k]? = some s → nds[k]? = some n → ∃ vs, H s = some (.lst vs) ∧ Reps H vs (rowD (tb st) n.row)
  nd : sls.Nodup
/-- the lists of a book are different ones -/
structure NdB (nb : Addr) (as rs : List Addr) : Prop where
  n1 : nb ∉ as
  n2 : nb ∉ rs
  na : as.Nodup
  nr : rs.Nodup
  dj : ∀ a ∈ as, a ∉ rs
theorem nodup_snoc {l : List Addr} {x : Addr} (h : l.Nodup) (n : x ∉ l) : (l ++ [x]).Nodup :=
  List.nodup_append.mpr ⟨h, List.pairwise_singleton _ _, fun a ha b hb z => n (by rw [List.mem_singleton.mp hb] at z; rw [← z]; exact ha)⟩
theorem nodup_put {l : List Addr} {x : Addr} {k : Nat} (h : l.Nodup) (n : x ∉ l) : (l.set k x).Nodup := by
  refine List.pairwise_iff_getElem.mpr fun i j hi hj hij z => ?_
  have z' : (l.set k x)[i]? = (l.set k x)[j]? := by rw [List.getElem?_eq_getElem hi, List.getElem?_eq_getElem hj]; exact congrArg some z
  rw [List.length_set] at hi hj
  rw [List.getElem?_set, List.getElem?_set] at z'
  by_cases e1 : k = i
  · rw [if_pos e1, if_neg (show ¬ k = j by omega), if_pos (show k < l.length by omega)] at z'
    exact n (List.mem_of_getElem? z'.symm)
  · rw [if_neg e1] at z'
    by_cases e2 : k = j
    · rw [if_pos e2, if_pos (show k < l.length by omega)] at z'
      exact n (List.mem_of_getElem? z')
    · rw [if_neg e2] at z'
      have e3 : l[i] = l[j] := by
        rw [List.getElem?_eq_getElem hi, List.getElem?_eq_getElem hj] at z'
        exact Option.some.inj z'
      have := (List.getElem_inj h).mp e3
      omega
theorem NdB.more {nb a r : Addr} {as rs : List Addr} (N : NdB nb as rs) (h1 : a ∉ as) (h2 : a ∉ rs) (h3 : a ≠ nb) (h4 : r ∉ as) (h5 : r ∉ rs) (h6 : r ≠ nb) (h7 : a ≠ r) : NdB nb (as ++ [a]) (rs ++ [r]) := by
  refine ⟨fun m => ?_, fun m => ?_, nodup_snoc N.na h1, nodup_snoc N.nr h5, fun x hx m => ?_⟩
  · rcases List.mem_append.mp m with m | m
    · exact N.n1 m
    · exact h3 (List.mem_singleton.mp m).symm
  · rcases List.mem_append.mp m with m | m
    · exact N.n2 m
    · exact h6 (List.mem_singleton.mp m).symm
  · rcases List.mem_append.mp hx with hx | hx
    · rcases List.mem_append.mp m with m | m
      · exact N.dj x hx m
      · rw [List.mem_singleton.mp m] at hx; exact h4 hx
    · rw [List.mem_singleton.mp hx] at m
      rcases List.mem_append.mp m with m | m
      · exact h2 m
      · exact h7 (List.mem_singleton.mp m)
theorem NdB.put {nb a r : Addr} {as rs : List Addr} {k : Nat} (N : NdB nb as rs) (h1 : a ∉ as) (h2 : a ∉ rs) (h3 : a ≠ nb) (h4 : r ∉ as) (h5 : r ∉ rs) (h6 : r ≠ nb) (h7 : a ≠ r) : NdB nb (as.set k a) (rs.set k r) := by
  refine ⟨fun m => ?_, fun m => ?_, nodup_put N.na h1, nodup_put N.nr h5, fun x hx m => ?_⟩
  · rcases List.mem_or_eq_of_mem_set m with m | m
    · exact N.n1 m
    · exact h3 m.symm
  · rcases List.mem_or_eq_of_mem_set m with m | m
    · exact N.n2 m
    · exact h6 m.symm
  · rcases List.mem_or_eq_of_mem_set hx with hx | hx
    · rcases List.mem_or_eq_of_mem_set m with m | m
      · exact N.dj x hx m
      · rw [m] at hx; exact h4 hx
    · rw [hx] at m
      rcases List.mem_or_eq_of_mem_set m with m | m
      · exact h2 m
      · exact h7 m
/-- the book -/
structure BoA (H : Hp) (nb : Addr) (as rs : List Addr) (nds : List Nd) : Prop where
  la : as.length = nds.length
  lr : rs.length = nds.length
  h0 : H nb = some (.lst (as.map V.ref))
  hN : ∀ (k : Nat) (a r : Addr) (n : Nd), as[k]? = some a → rs[k]? = some r → nds[k]? = some n → ∃ tv, H a = some (.lst [.str (S n.kind), tv, .ref r]) ∧ Rep H tv n.tag
  hR : ∀ (k : Nat) (r : Addr) (n : Nd), rs[k]? = some r → nds[k]? = some n → ∃ vs, H r = some (.lst vs) ∧ Reps H vs (rowD ixD n.row)
  nd : NdB nb as rs
def FB (B td : Addr) (ths sls : List Addr) : List Addr := B :: td :: (ths ++ sls)
def FN (nb : Addr) (as rs : List Addr) : List Addr := nb :: (as ++ rs)
theorem ne_ob {H : Hp} {a b : Addr} {o u : HO} (h : H a = some o) (k : H b = some u) (n : o ≠ u) : a ≠ b := fun z => by rw [z, k] at h; exact n (Option.some.inj h).symm
theorem inj_nodup {l : List Addr} (h : l.Nodup) {i j : Nat} {a : Addr} (h1 : l[i]? = some a) (h2 : l[j]? = some a) : i = j := by
  obtain ⟨hi, e1⟩ := List.getElem?_eq_some_iff.mp h1
  obtain ⟨hj, e2⟩ := List.getElem?_eq_some_iff.mp h2
  exact (List.getElem_inj h).mp (e1.trans e2.symm)
section
variable {K : PySem.W.Frag} {C CT : Addr} {st : Nat} {H H' : Hp} {B td : Addr} {ths sls : List Addr} {nds : List Nd}
theorem BkA.frame (X : BkA K C CT st H B td ths sls nds) {F : List Addr} (c : Chg F H H') (d : ∀ a ∈ FB B td ths sls, a ∉ F) : BkA K C CT st H' B td ths sls nds := by
  refine ⟨X.lt, X.ls, ?_, ?_, fun k t s n h1 h2 h3 => ?_, fun k s n h1 h2 => ?_, X.nd⟩
  · obtain ⟨dx, more, h, m⟩ := X.hB
    exact ⟨dx, more, c.keep _ _ (d _ (by simp [FB])) h, m⟩
  · exact c.keep _ _ (d _ (by simp [FB])) X.hD
  · obtain ⟨dx, tv, h, r⟩ := X.hT k t s n h1 h2 h3
    exact ⟨dx, tv, c.keep _ _ (d _ (by have := List.mem_of_getElem? h1; simp [FB, this])) h, r.mono c.tups⟩
  · obtain ⟨vs, h, r⟩ := X.hS k s n h1 h2
    exact ⟨vs, c.keep _ _ (d _ (by have := List.mem_of_getElem? h1; simp [FB, this])) h, r.mono c.tups⟩
theorem BkA.th (X : BkA K C CT st H B td ths sls nds) {k : Nat} {n : Nd} (h : nds[k]? = some n) : ∃ t s, ths[k]? = some t ∧ sls[k]? = some s := by
  obtain ⟨hk, _⟩ := List.getElem?_eq_some_iff.mp h
  have h1 := X.lt; have h2 := X.ls
  exact ⟨_, _, List.getElem?_eq_getElem (by omega), List.getElem?_eq_getElem (by omega)⟩
/-- the row of k is another -/
theorem BkA.setRow (X : BkA K C CT st H B td ths sls nds) {k : Nat} {n : Nd} {s : Addr} {vs : List V} {row : List Ent} (hn : nds[k]? = some n) (hs : sls[k]? = some s) (hr : Reps H vs (rowD (tb st) row)) :
    BkA K C CT st (upd H s (.lst vs)) B td ths sls (nds.set k ⟨n.kind, n.tag, row⟩) ∧ Chg [s] H (upd H s (.lst vs)) := by
  obtain ⟨vs0, h0, _⟩ := X.hS k s n hs hn
  have c : Chg [s] H (upd H s (.lst vs)) := .upd h0 (fun _ z => by cases z) (List.mem_singleton_self _)
  have nl : ∀ {a : Addr} {o : HO}, H a = some o → (∀ ws, o ≠ .lst ws) → upd H s (.lst vs) a = some o := fun h n => by rw [upd_ne (fun z => by rw [z, h0] at h; exact n _ (Option.some.inj h).symm)]; exact h
  refine ⟨⟨by simp [X.lt], by simp [X.ls], ?_, nl X.hD (fun _ z => by cases z), fun j t s' m h1 h2 h3 => ?_, fun j s' m h1 h2 => ?_, X.nd⟩, c⟩
  · obtain ⟨dx, more, h, m⟩ := X.hB
    exact ⟨dx, more, nl h (fun _ z => by cases z), by rw [List.length_set]; exact m⟩
  · rw [List.getElem?_set] at h3
    by_cases e : k = j
    · subst e
      rw [if_pos rfl] at h3
      split at h3
      · cases h3
        obtain ⟨dx, tv, h, r⟩ := X.hT k t s' n h1 h2 hn
        exact ⟨dx, tv, nl h (fun _ z => by cases z), r.mono c.tups⟩
      · cases h3
    · rw [if_neg e] at h3
      obtain ⟨dx, tv, h, r⟩ := X.hT j t s' m h1 h2 h3
      exact ⟨dx, tv, nl h (fun _ z => by cases z), r.mono c.tups⟩
  · rw [List.getElem?_set] at h2
    by_cases e : k = j
    · subst e
      rw [if_pos rfl] at h2
      split at h2
      · cases h2
        have : s' = s := Option.some.inj (h1.symm.trans hs)
        subst this
        exact ⟨vs, upd_same, hr.mono c.tups⟩
      · cases h2
    · rw [if_neg e] at h2
      have ns : s' ≠ s := fun z => e (inj_nodup X.nd (by rw [← z] at hs; exact hs) h1)
      obtain ⟨ws, h, r⟩ := X.hS j s' m h1 h2
      exact ⟨ws, by rw [upd_ne ns]; exact h, r.mono c.tups⟩
/-- tag and row of k are others -/
theorem BkA.setAll (X : BkA K C CT st H B td ths sls nds) {k : Nat} {n : Nd} {t s' : Addr} {vs : List V} {tag : D} {row : List Ent} {tv : V} {dx : Addr} (hn : nds[k]? = some n) (ht : ths[k]? = some t) (f : H s' = none)
    (c : Chg [t] H H') (h1 : H' t = some (.ins CT dx (thF ⟨n.kind, tag, row⟩ tv s'))) (h2 : H' s' = some (.lst vs)) (r1 : Rep H' tv tag) (r2 : Reps H' vs (rowD (tb st) row)) :
    BkA K C CT st H' B td ths (sls.set k s') (nds.set k ⟨n.kind, tag, row⟩) := by
  obtain ⟨t0, s0, ht0, hs0⟩ := X.th hn
  have e0 : t0 = t := Option.some.inj (ht0.symm.trans ht)
  subst e0
  obtain ⟨dx0, tv0, g0, _⟩ := X.hT k t0 s0 n ht hs0 hn
  have kp : ∀ {a : Addr} {o : HO}, H a = some o → a ≠ t0 → H' a = some o := fun h n => c.keep _ _ (by simpa using n) h
  have fr : ∀ j, sls[j]? ≠ some s' := fun j z => by
    obtain ⟨hj, _⟩ := List.getElem?_eq_some_iff.mp z
    have h2 := X.ls
    obtain ⟨ws, h, _⟩ := X.hS j s' _ z (List.getElem?_eq_getElem (by omega))
    rw [f] at h; cases h
  have thne : ∀ j t1, ths[j]? = some t1 → j ≠ k → t1 ≠ t0 := fun j t1 hj nj z => by
    subst z
    obtain ⟨hj', _⟩ := List.getElem?_eq_some_iff.mp hj
    have h1 := X.lt; have h2 := X.ls
    have a1 : sls[j]? = some (sls[j]'(by omega)) := List.getElem?_eq_getElem (by omega)
    have a2 : nds[j]? = some (nds[j]'(by omega)) := List.getElem?_eq_getElem (by omega)
    obtain ⟨dx1, tv1, g1, _⟩ := X.hT j t1 _ _ hj a1 a2
    rw [g0] at g1
    have g2 := Option.some.inj g1
    unfold thF at g2
    injection g2 with _ _ g3
    have g4 : s0 = sls[j]'(by omega) := by
      simp only [List.cons.injEq, Prod.mk.injEq, V.ref.injEq] at g3
      exact g3.2.2.1.2
    exact nj (inj_nodup X.nd a1 (by rw [← g4]; exact hs0))
  refine ⟨by simp [X.lt], by simp [X.ls], ?_, kp X.hD (ne_ob X.hD g0 (fun z => by cases z)), fun j t s m h3 h4 h5 => ?_, fun j s m h3 h4 => ?_, ?_⟩
  · obtain ⟨dx, more, h, m⟩ := X.hB
    refine ⟨dx, more, kp h (ne_ob h g0 (fun z => ?_)), by rw [List.length_set]; exact m⟩
    injection z with _ _ z
    have : fThings = fKind := by
      unfold thF at z
      simp only [List.cons.injEq, Prod.mk.injEq] at z
      exact z.1.1
    exact absurd this (by decide)
  · rw [List.getElem?_set] at h4 h5
    by_cases e : k = j
    · subst e
      rw [if_pos rfl] at h4 h5
      have : t = t0 := Option.some.inj (h3.symm.trans ht)
      subst this
      split at h4
      · cases h4
        split at h5
        · cases h5; exact ⟨dx, tv, h1, r1⟩
        · cases h5
      · cases h4
    · rw [if_neg e] at h4 h5
      obtain ⟨dx1, tv1, g1, r⟩ := X.hT j t s m h3 h4 h5
      exact ⟨dx1, tv1, kp g1 (thne j t h3 (Ne.symm e)), r.mono c.tups⟩
  · rw [List.getElem?_set] at h3 h4
    by_cases e : k = j
    · subst e
      rw [if_pos rfl] at h3 h4
      split at h3
      · cases h3
        split at h4
        · cases h4; exact ⟨vs, h2, r2⟩
        · cases h4
      · cases h3
    · rw [if_neg e] at h3 h4
      obtain ⟨ws, h, r⟩ := X.hS j s m h3 h4
      exact ⟨ws, kp h (ne_ob h g0 (fun z => by cases z)), r.mono c.tups⟩
  · refine List.pairwise_iff_getElem.mpr fun i j hi hj hij z => ?_
    have z' : (sls.set k s')[i]? = (sls.set k s')[j]? := by rw [List.getElem?_eq_getElem hi, List.getElem?_eq_getElem hj]; exact congrArg some z
    rw [List.length_set] at hi hj
    rw [List.getElem?_set, List.getElem?_set] at z'
    by_cases e1 : k = i
    · rw [if_pos e1, if_neg (show ¬ k = j by omega), if_pos (show k < sls.length by omega)] at z'
      exact fr j z'.symm
    · rw [if_neg e1] at z'
      by_cases e2 : k = j
      · rw [if_pos e2, if_pos (show k < sls.length by omega)] at z'
        exact fr i z'
      · rw [if_neg e2] at z'
        have := inj_nodup X.nd (i := i) (j := j) (List.getElem?_eq_getElem hi) (by rw [← z']; exact List.getElem?_eq_getElem hi)
        omega
/-- one more thing -/
theorem BkA.more (X : BkA K C CT st H B td ths sls nds) {t s : Addr} {vs : List V} {n : Nd} {tv : V} {dx dx2 : Addr} {more : List (Str × V)} (fs : H s = none)
    (c : Chg [B, td] H H') (hB : H' B = some (.ins C dx2 ((fThings, .ref td) :: more))) (hM : More st (nds.length + 1) more) (hD : H' td = some (.dK (kvF st (ths ++ [t]))))
    (h1 : H' t = some (.ins CT dx (thF n tv s))) (h2 : H' s = some (.lst vs)) (r1 : Rep H' tv n.tag) (r2 : Reps H' vs (rowD (tb st) n.row)) :
    BkA K C CT st H' B td (ths ++ [t]) (sls ++ [s]) (nds ++ [n]) := by
  have kp : ∀ {a : Addr} {o : HO}, H a = some o → a ≠ B → a ≠ td → H' a = some o := fun h n m => c.keep _ _ (by simp [n, m]) h
  obtain ⟨dx0, more0, g0, _⟩ := X.hB
  have lt := X.lt; have ls := X.ls
  refine ⟨by simp [X.lt], by simp [X.ls], ⟨dx2, more, hB, by rw [List.length_append]; exact hM⟩, hD, fun j t1 s1 m h3 h4 h5 => ?_, fun j s1 m h3 h4 => ?_, ?_⟩
  · rcases Nat.lt_or_ge j nds.length with l | l
    · rw [List.getElem?_append_left (by omega)] at h3 h4 h5
      obtain ⟨dx1, tv1, g1, r⟩ := X.hT j t1 s1 m h3 h4 h5
      refine ⟨dx1, tv1, kp g1 (fun z => ?_) (ne_ob g1 X.hD (fun z => by cases z)), r.mono c.tups⟩
      rw [z, g0] at g1
      have g2 := Option.some.inj g1
      injection g2 with _ _ g2
      have : fThings = fKind := by
        unfold thF at g2
        simp only [List.cons.injEq, Prod.mk.injEq] at g2
        exact g2.1.1
      exact absurd this (by decide)
    · rw [List.getElem?_append_right (by omega)] at h3 h4 h5
      have e5 : j - nds.length = 0 := by
        cases q : j - nds.length with
        | zero => rfl
        | succ x => rw [q] at h5; simp at h5
      rw [show j - ths.length = 0 by omega] at h3
      rw [show j - sls.length = 0 by omega] at h4
      rw [e5] at h5
      cases h3; cases h4; cases h5
      exact ⟨dx, tv, h1, r1⟩
  · rcases Nat.lt_or_ge j nds.length with l | l
    · rw [List.getElem?_append_left (by omega)] at h3 h4
      obtain ⟨ws, h, r⟩ := X.hS j s1 m h3 h4
      exact ⟨ws, kp h (ne_ob h g0 (fun z => by cases z)) (ne_ob h X.hD (fun z => by cases z)), r.mono c.tups⟩
    · rw [List.getElem?_append_right (by omega)] at h3 h4
      have e5 : j - nds.length = 0 := by
        cases q : j - nds.length with
        | zero => rfl
        | succ x => rw [q] at h4; simp at h4
      rw [show j - sls.length = 0 by omega] at h3
      rw [e5] at h4
      cases h3; cases h4
      exact ⟨vs, h2, r2⟩
  · refine List.nodup_append.mpr ⟨X.nd, List.pairwise_singleton _ _, fun a ha b hb => ?_⟩
    rw [List.mem_singleton.mp hb]
    rintro rfl
    obtain ⟨j, hj⟩ := List.getElem?_of_mem ha
    obtain ⟨hj', _⟩ := List.getElem?_eq_some_iff.mp hj
    obtain ⟨ws, h, _⟩ := X.hS j a _ hj (List.getElem?_eq_getElem (by omega))
    rw [fs] at h; cases h
end
end D0
namespace D0
open PySem PySem.Spec PyProof.Rows L2 SX
def C5 (c n s t k : Int) : List V := [.int c, .int n, .int s, .int t, .int k]
/-- a box: a list of five ints -/
def Bag (H : Hp) (b : Addr) : Prop := ∃ c n s t k : Int, H b = some (.lst (C5 c n s t k))
/-- all but the box stays -/
structure Stp (b : Addr) (H H' : Hp) : Prop where
  b0 : Bag H b
  b1 : Bag H' b
  keep : ∀ a o, a ≠ b → H a = some o → H' a = some o
theorem Stp.trans {b : Addr} {H H1 H2 : Hp} (x : Stp b H H1) (y : Stp b H1 H2) : Stp b H H2 := ⟨x.b0, y.b1, fun a o n e => y.keep a o n (x.keep a o n e)⟩
theorem Stp.refl {b : Addr} {H : Hp} (x : Bag H b) : Stp b H H := ⟨x, x, fun _ _ _ e => e⟩
theorem Bag.same {b : Addr} {H H' : Hp} (x : Bag H b) (s : Same H H') : Bag H' b := by obtain ⟨c, t, n, u, v, e⟩ := x; exact ⟨c, t, n, u, v, s _ _ e⟩
theorem Stp.same {b : Addr} {H H' : Hp} (x : Bag H b) (s : Same H H') : Stp b H H' := ⟨x, x.same s, fun a o _ e => s a o e⟩
theorem Bag.ne {b a : Addr} {H : Hp} (x : Bag H b) (h : H a = none) : a ≠ b := by obtain ⟨c, t, n, _, _, e⟩ := x; exact (ne_of_none e h).symm
theorem Bag.ne_tup {b a : Addr} {H : Hp} {vs : List V} (x : Bag H b) (h : H a = some (.tup vs)) : a ≠ b := by
  obtain ⟨c, t, n, _, _, e⟩ := x
  intro z; rw [z, e] at h; cases h
theorem Stp.tups {b : Addr} {H H' : Hp} (x : Stp b H H') : Tups H H' := fun a vs h => x.keep a _ (x.b0.ne_tup h) h
theorem Stp.chg {b : Addr} {H H' : Hp} (x : Stp b H H') : Chg [b] H H' := ⟨fun a o n h => x.keep a o (fun z => n (by rw [z]; exact List.mem_singleton_self _)) h, x.tups, fun a h => by
  cases e : H a with
  | none => rfl
  | some o =>
    have n := x.b1
    obtain ⟨c1, c2, c3, c4, c5, g⟩ := n
    by_cases z : a = b
    · rw [z, g] at h; cases h
    · rw [x.keep a o z e] at h; cases h⟩
theorem Stp.new {b : Addr} {H H1 : Hp} (x : Stp b H H1) {p : Addr} {o : HO} (h : H1 p = none) : Stp b H (upd H1 p o) := x.trans (.same x.b1 (same_new h o))
/-- a list that H did not have grows -/
theorem Stp.grow {b : Addr} {H H1 : Hp} (x : Stp b H H1) {p : Addr} {o : HO} (h : H p = none) (n : p ≠ b) : Stp b H (upd H1 p o) := by
  refine ⟨x.b0, ?_, fun a u k e => ?_⟩
  · obtain ⟨c, t, m, u, v, e⟩ := x.b1; exact ⟨c, t, m, u, v, by rw [upd_ne (Ne.symm n)]; exact e⟩
  · rw [upd_ne (ne_of_none e h)]; exact x.keep a u k e
theorem ints_map : ∀ {xs : List V}, (∀ x ∈ xs, ∃ i : Int, x = V.int i) → ∃ ms : List Int, xs = ms.map V.int
  | [], _ => ⟨[], rfl⟩
  | x :: xs, h => by
    obtain ⟨i, rfl⟩ := h _ (List.mem_cons_self ..)
    obtain ⟨ms, rfl⟩ := ints_map (xs := xs) fun y hy => h y (List.mem_cons_of_mem _ hy)
    exact ⟨i :: ms, rfl⟩
def spCell (K : PySem.W.Frag) : Sp := fun vs H Q _ => ∃ (a : Addr) (ns : List Int) (k : Nat), vs = [.ref a, .int k] ∧ SqL K H a (ns.map V.int) ∧ k ≤ 30 ∧ ∀ i H', Same H H' → Q (.int i) H'
def spBox (K : PySem.W.Frag) : Sp := fun vs H Q _ => ∃ (a : Addr) (ns : List Int) (k : Nat), vs = [.ref a, .int k] ∧ SqL K H a (ns.map V.int) ∧ k ≤ 30 ∧ ∀ p H', Same H H' → H p = none → Bag H' p → Q (.ref p) H'
def spTake : Sp := fun vs H Q _ => ∃ (b : Addr) (n : Int), vs = [.ref b, .int n] ∧ Bag H b ∧ 0 < n ∧ n < 1000000000 ∧ ∀ r H', 0 ≤ r → r < n → Stp b H H' → Q (.int r) H'
section
variable {P : Program} {w : World} {K : PySem.W.Frag} {mg : Str → Option Value} {base : Heap}
theorem ok__law_cell (T : Txt K w mg) : OkD P w K mg base CX0 1 "_law_cell" p__law_cell (spCell K) := by
  refine T.g__law_cell.ok sc__law_cell (fun vs H Q E h => ?_) (fun f cdv A outer s H vs Q E hr h => ?_)
  · obtain ⟨a, ns, k, rfl, _⟩ := h; rfl
  obtain ⟨a, ns, k, rfl, hS, hk, q⟩ := h
  refine ⟨_, (pss_cons (ps_if (pt_cmpR op_lt (pv 1) (pe_callB call_len_seq (by rfl) T.z_len PySem.boot_len (pa_cons (pv 0) pa_nil)) (nomark _)) (pss_one (ps_ret (pe_callTy call_int1 (by rfl) T.z_int PyProof.Rows.boot_int (pa_cons (pe_ix ix_list (pv 0) (pv 1) (fun _ _ => rfl)) pa_nil)))) pss_nil)
      (pss_one (ps_ret (pe_op op_add (pe_op op_add (pe_op op_mul (pe_op op_add (pv 1) pe_int) (pe_op op_mod (pe_callTy call_int1 (by rfl) T.z_int PyProof.Rows.boot_int (pa_cons (pe_callB (cr_sum rfl) (by rfl) T.z_sum (by decide +kernel) (pa_cons (pe_slice sl_list (pv 0) po_none (po_some pe_int)) pa_nil)) pa_nil)) pe_int)) (pe_op op_mul pe_int (pv 1))) pe_int)))), ?_⟩
  refine ⟨_, rfl, _, rfl, a, _, rfl, .inl hS, _, _, rfl, rfl, _, rfl, ite2 (fun c => ?_) (fun c => ?_)⟩
  · have c := of_decide_eq_true c
    have c : (k : Int) < ((ns.map V.int).length : Int) := c
    rw [List.length_map] at c
    have hkl : k < ns.length := by omega
    refine ⟨_, rfl, _, rfl, a, _, _, .int ns[k], rfl, rfl, hS, atI_nat (by rw [List.getElem?_map, List.getElem?_eq_getElem hkl]; rfl), ?_⟩
    exact .inl ⟨_, rfl, q _ _ (.refl _)⟩
  · refine ⟨_, rfl, _, _, rfl, rfl, _, rfl, 1, rfl, a, _, rfl, hS, fun p hp => ?_⟩
    have mem : ∀ x ∈ cutV (ns.map V.int) none (some 1), ∃ i : Int, x = V.int i := fun x hx => by
      have : x ∈ ns.map V.int := List.mem_of_mem_drop (List.mem_of_mem_take hx)
      obtain ⟨i, _, e⟩ := List.mem_map.mp this
      exact ⟨i, e.symm⟩
    obtain ⟨ms, em⟩ := ints_map mem
    refine ⟨p, ms, rfl, SqL.of (by rw [upd_same, em]), .inl ⟨_, rfl, _, _, rfl, rfl, (by show (0 : Int) < _; decide), _, _, rfl, rfl, .inl ⟨by omega, by omega⟩, ?_⟩⟩
    refine ⟨_, rfl, _, _, rfl, rfl, .inl ⟨by decide, by decide⟩, _, _, rfl, rfl, _, _, rfl, rfl, ?_⟩
    exact q _ _ (same_new hp _)
theorem ok__law_box (T : Txt K w mg) (O : OkD P w K mg base CX0 1 "_law_cell" p__law_cell (spCell K)) : OkD P w K mg base CX0 2 "_law_box" p__law_box (spBox K) := by
  refine T.g__law_box.ok sc__law_box (fun vs H Q E h => ?_) (fun f cdv A outer s H vs Q E hr h => ?_)
  · obtain ⟨a, ns, k, rfl, _⟩ := h; rfl
  obtain ⟨a, ns, k, rfl, hS, hk, q⟩ := h
  refine ⟨_, (pss_cons (ps_set (i := 2) sc__law_box.nd rfl (.inl rfl) (pcall O hr (pa_cons (pv 0) (pa_cons (pv 1) pa_nil))))
      (pss_cons (ps_if (pt_cmpR op_ge (pv 2) (pe_op op_pow pe_int pe_int) (nomark _)) (pss_one (ps_ret (pe_lst (pa_cons (pv 2) (pa_cons pe_int (pa_cons (pv 2) (pa_cons pe_int (pa_cons (pv 1) pa_nil)))))))) pss_nil)
      (pss_one (ps_ret (pe_lst (pa_cons pe_int (pa_cons pe_int (pa_cons (pv 2) (pa_cons pe_int (pa_cons (pv 1) pa_nil)))))))))), ?_⟩
  refine ⟨_, rfl, _, rfl, a, ns, k, rfl, hS, hk, fun i H1 s1 => ?_⟩
  refine ⟨_, rfl, _, _, rfl, rfl, ⟨by decide, by decide, by decide⟩, _, _, rfl, rfl, _, rfl, ite2 (fun c => ?_) (fun c => ?_)⟩
  · refine ⟨_, rfl, _, rfl, _, rfl, by show 5 ≤ sizeLine; decide, fun z hz => ?_⟩
    exact q z _ (s1.trans (same_new hz _)) (s1.free hz) ⟨_, _, _, _, _, upd_same⟩
  · refine ⟨_, rfl, _, rfl, by show 5 ≤ sizeLine; decide, fun z hz => ?_⟩
    exact q z _ (s1.trans (same_new hz _)) (s1.free hz) ⟨_, _, _, _, _, upd_same⟩
theorem ok__law_take (T : Txt K w mg) : OkD P w K mg base CX0 1 "_law_take" p__law_take spTake := by
  refine T.g__law_take.ok sc__law_take (fun vs H Q E h => ?_) (fun f cdv A outer s H vs Q E hr h => ?_)
  · obtain ⟨b, n, rfl, _⟩ := h; rfl
  obtain ⟨b, n, rfl, ⟨c, m, sd, t, kk, hb⟩, hn0, hn1, q⟩ := h
  refine split_at 1 (fun t => t { nx := fun _ H' => Q .non H', rt := Q } [some (.ref b), some (.int n), none, none, none] H) ?_ (fun t ht hg => ?_)
  rotate_left
  · refine ⟨_, pss_cons (ps_if (PW.pt (pw_and (pt_cmpR op_gt (pe_ix ix_list (pv 0) pe_int (fun _ _ => rfl)) pe_int (nomark _)) (pw_and1 (pt_cmpR op_gt (pe_ix ix_list (pv 0) pe_int (fun _ _ => rfl)) pe_int (nomark _))))) (pss_cons (ps_set (i := 2) sc__law_take.nd rfl (.inl rfl) (pe_op op_mod (pe_callTy call_int1 (by rfl) T.z_int PyProof.Rows.boot_int (pa_cons (pe_ix ix_list (pv 0) pe_int (fun _ _ => rfl)) pa_nil)) (pv 1)))
      (pss_cons (ps_asg (pe_op op_fdiv (pe_ix ix_list (pv 0) pe_int (fun _ _ => rfl)) (pv 1)) (pg_sub (pv 0) pe_int set_list))
      (pss_cons (ps_asg (pe_op op_sub (pe_ix ix_list (pv 0) pe_int (fun _ _ => rfl)) pe_int) (pg_sub (pv 0) pe_int set_list))
      (pss_one (ps_ret (pv 2)))))) pss_nil) ht, ?_⟩
    refine ⟨_, rfl, b, _, 0, _, rfl, rfl, SqL.of hb, rfl, _, _, rfl, rfl, _, rfl, ite2 (fun _ => ?_) (fun _ => hg)⟩
    refine ⟨_, rfl, b, _, 1, _, rfl, rfl, SqL.of hb, rfl, _, _, rfl, rfl, _, rfl, ite2 (fun _ => ?_) (fun _ => hg)⟩
    refine ⟨_, rfl, b, _, 0, _, rfl, rfl, SqL.of hb, rfl, .inl ⟨_, rfl, _, rfl, _, _, rfl, rfl, hn0, ?_⟩⟩
    refine ⟨_, rfl, b, _, 0, _, rfl, rfl, SqL.of hb, rfl, _, rfl, _, _, rfl, rfl, ?_, ?_⟩
    · exact ⟨hn0, by omega⟩
    refine ⟨_, rfl, b, _, 0, 0, rfl, rfl, hb, rfl, ?_⟩
    refine ⟨_, rfl, b, _, 1, _, rfl, rfl, SqL.of upd_same, rfl, _, _, rfl, rfl, ?_⟩
    refine ⟨_, rfl, b, _, 1, 1, rfl, rfl, upd_same, rfl, ?_⟩
    refine ⟨_, rfl, ?_⟩
    rw [upd_upd]
    exact q _ _ (Int.emod_nonneg _ (by omega)) (Int.emod_lt_of_pos _ hn0) ⟨⟨_, _, _, _, _, hb⟩, ⟨_, _, _, _, _, upd_same⟩, fun a o n e => by rw [upd_ne n]; exact e⟩
  · refine ⟨_, (pss_cons (ps_asg (pe_op op_add (pe_ix ix_list (pv 0) pe_int (fun _ _ => rfl)) pe_int) (pg_sub (pv 0) pe_int set_list))
      (pss_cons (ps_set (i := 3) sc__law_take.nd rfl (.inl rfl) (pe_op op_mod (pe_callTy call_int1 (by rfl) T.z_int PyProof.Rows.boot_int (pa_cons (pe_op op_add (pe_op op_add (pe_op op_mul (pe_ix ix_list (pv 0) pe_int (fun _ _ => rfl)) pe_int) (pe_op op_mul (pe_ix ix_list (pv 0) pe_int (fun _ _ => rfl)) pe_int)) (pe_op op_mul (pe_ix ix_list (pv 0) pe_int (fun _ _ => rfl)) pe_int)) pa_nil)) pe_int))
      (pss_cons (ps_set (i := 4) sc__law_take.nd rfl (.inl rfl) (pe_op op_mod (pe_callTy call_int1 (by rfl) T.z_int PyProof.Rows.boot_int (pa_cons (pe_op op_add (pe_op op_add (pe_op op_mul (pv 3) (pv 3)) (pe_op op_mul (pe_ix ix_list (pv 0) pe_int (fun _ _ => rfl)) pe_int)) pe_int) pa_nil)) pe_int))
      (pss_one (ps_ret (pe_op op_mod (pe_callTy call_int1 (by rfl) T.z_int PyProof.Rows.boot_int (pa_cons (pe_op op_fdiv (pv 4) pe_int) pa_nil)) (pv 1))))))), ?_⟩
    refine ⟨_, rfl, b, _, 3, _, rfl, rfl, SqL.of hb, rfl, _, _, rfl, rfl, ?_⟩
    refine ⟨_, rfl, b, _, 3, 3, rfl, rfl, hb, rfl, ?_⟩
    refine ⟨_, rfl, b, _, 2, _, rfl, rfl, SqL.of upd_same, rfl, _, _, rfl, rfl, .inr ⟨by decide, by decide⟩, ?_⟩
    refine ⟨_, rfl, b, _, 3, _, rfl, rfl, SqL.of upd_same, rfl, _, _, rfl, rfl, .inr ⟨by decide, by decide⟩, _, _, rfl, rfl, ?_⟩
    refine ⟨_, rfl, b, _, 4, _, rfl, rfl, SqL.of upd_same, rfl, _, _, rfl, rfl, .inr ⟨by decide, by decide⟩, _, _, rfl, rfl, .inl ⟨_, rfl, _, _, rfl, rfl, (by show (0 : Int) < _; decide), ?_⟩⟩
    obtain ⟨f1, hf1⟩ : ∃ f1 : Int, f1 = (sd * 48271 + (t + 1) * 1103515245 + kk * 69621) % 2147483647 := ⟨_, rfl⟩
    have hf0 : 0 ≤ f1 := by rw [hf1]; exact Int.emod_nonneg _ (by decide)
    have hf2 : f1 < 2147483647 := by rw [hf1]; exact Int.emod_lt_of_pos _ (by decide)
    refine ⟨_, rfl, _, rfl, _, _, rfl, rfl, .inl ?_, ?_⟩
    · show (-(2 ^ 64) : Int) < (sd * 48271 + (t + 1) * 1103515245 + kk * 69621) % 2147483647 ∧ (sd * 48271 + (t + 1) * 1103515245 + kk * 69621) % 2147483647 < 2 ^ 64
      rw [← hf1]; omega
    refine ⟨_, rfl, b, _, 3, _, rfl, rfl, SqL.of upd_same, rfl, _, _, rfl, rfl, .inr ⟨by decide, by decide⟩, _, _, rfl, rfl, _, _, rfl, rfl, .inl ⟨_, rfl, _, _, rfl, rfl, (by show (0 : Int) < _; decide), ?_⟩⟩
    refine ⟨_, rfl, _, _, rfl, rfl, ⟨by decide, by decide⟩, .inl ⟨_, rfl, _, rfl, _, _, rfl, rfl, hn0, ?_⟩⟩
    exact q _ _ (Int.emod_nonneg _ (by omega)) (Int.emod_lt_of_pos _ hn0) ⟨⟨_, _, _, _, _, hb⟩, ⟨_, _, _, _, _, upd_same⟩, fun a o n e => by rw [upd_ne n]; exact e⟩
end
end D0
namespace D0
open PySem PySem.Spec PyProof.Rows L2 SX
/-- C.m(..), m a def of the class C -/
theorem pe_ccall {X : Cx} {CX : CXT} {k : Nat} {C f : Addr} {fd : FuncData} {ps : List Str} {mc : Value} {sp : Sp} {E : XK} {o e : Expr} {es : List Expr} {m : Str} {pos apos : Pos} {ta : TE} {t : TA} {pl : Sem Bool} (ho : PE X o ta) (r : ClX.CRead X.K C mc)
    (c : PySem.W.findCls X.K (.ref C) mc m = some (.val (.ref f))) (kp : PySem.W.keepIn X.K (.ref f) = true) (F : FnOk X.prog X.w X.K X.mg X.base CX k f fd ps sp) (hr : Room k X.A) (hb : L2.Binds X.K fd ps []) (hx : Passes CX X E) (ha : PA X (e :: es) t)
    (he : starEach (e :: es) X.env = (false, eval e X.env) :: starEach es X.env := by rfl) (hpl : (backTo pos (starEach es X.env)).any (·.1) = false := by rfl)
    (hm : eval (.Call (.Attribute o m apos) (e :: es) [] pos) X.env = (do
      let ov ← eval o X.env
      standAt apos.atName
      let (f, first) ← holding [ov] (getMethod ov m pl)
      callWith pos f first (backTo pos (starEach (e :: es) X.env)) (backToKw pos (keywordEach [] X.env))) := by rfl) :
    PE X (.Call (.Attribute o m apos) (e :: es) [] pos) (fun σ H Q => ta σ H fun x H1 => x = .ref C ∧ t σ H1 fun vs H2 => sp (vs ++ []) H2 Q E) := by
  refine ⟨fun pins s σ H Q I h => ?_⟩
  refine PySem.W.methodCall_KW (thn (ho.run pins s σ H _ I h) fun u s1 z => ?_) hm
  obtain ⟨x, H1, I1, rx, rfl, q⟩ := z
  cases (show u = Value.ref C from rx)
  refine PySem.W.method_cls I1.kIn r.ga (ClX.getcval_ok I1 r (⟨c, rfl⟩ : ClX.CVal _ C mc m (.ref f) (.ref f)) fun s2 I2 => ?_)
  refine PySem.W.callWith_K I2.kIn kp (thn (ha.run pos pins s2 σ H1 _ I2 q) fun us s3 z => ?_) he hpl
  obtain ⟨vs, H2, I3, rv, q3⟩ := z
  exact ⟨I3.kIn, run_fn F hr hb .nil hx I3 rv q3⟩
theorem fnR_of' {P : Program} {w : World} {K : PySem.W.Frag} {mg : Str → Option Value} {base : Heap} {CX : CXT} {k : Nat} {f : Addr} {fd : FuncData} {ps : List Str} {sp : Sp} (F : FnOk P w K mg base CX k f fd ps sp) (hb : L2.Binds K fd ps []) : FnR P w K mg base CX k f sp := fun A outer s H us vs Q E hr e vl z => by
  have kin : K.In s.heap := PySem.W.Frag.In.keeps e.mod.kin (fun b o h => (e.bs b o h).1)
  have ln := F.len vs H Q E z
  have l2 : us.length = vs.length := vl.length.symm
  have b := hb s us kin (by rw [List.append_nil, l2, ln])
  rw [List.append_nil] at b
  exact F.run A outer s H _ us vs Q E hr e b vl z
/-- len(o), o an instance with its own __len__ -/
theorem call_lenOwn {X : Cx} {CX : CXT} {C g : Addr} {n : Nat} {sp : Sp} {E : XK} {fd : FuncData} {ps : List Str} (hs : PySem.W.findIn X.K (.ref C) "__len__" = some (some (.ref g))) (hf : PySem.W.isFn X.K (.ref g) = true)
    (F : FnOk X.prog X.w X.K X.mg X.base CX n g fd ps sp) (hb : L2.Binds X.K fd ps []) (hr : Room (n + 1) X.A) (hx : Passes CX X E) :
    CallR X (.builtin "len") (fun xs H Q => ∃ (a dx : Addr) (fs : List (Str × V)), xs = [.ref a] ∧ H a = some (.ins C dx fs) ∧ sp [.ref a] H (fun v H' => ∃ i : Int, v = .int i ∧ 0 ≤ i ∧ i < 2 ^ 63 ∧ Q (.int i) H') E) := by
  intro pins s σ H xs us Q I r h
  obtain ⟨a, dx, fs, rfl, ha, q⟩ := h
  obtain ⟨u, rfl, ru⟩ := Vals.one r
  cases (show u = Value.ref a from ru)
  obtain ⟨m, hfr⟩ := I.fr
  have ho := I.hok a _ ha
  unfold ObjOk at ho
  obtain ⟨h1, h2, h3, h4, mA, h5, _⟩ := ho
  obtain ⟨od, es, ep, hd, _⟩ := h5
  have J : PySem.W.InstAt s.heap a (PySem.W.instObj C dx) C (some od) := ⟨h4, rfl, rfl, hd⟩
  refine PySem.W.len_K hfr I.mod.kin J hs hf ?_
  refine wpAny_mono (wpAny_call (SlX.run_at (fnR_of' F hb) hr.in1 I.env0.in1 hx I (show Vals [V.ref a] [Value.ref a] from .cons rfl .nil) q)) (fun v s' z => ?_) (fun _ _ z => z)
  obtain ⟨x, H', I', rx, i, rfl, i0, i1, qi⟩ := z
  obtain ⟨t, rfl⟩ := rx
  exact ⟨⟨i0, i1⟩, .int i, H', I'.tok _, ⟨_, rfl⟩, qi⟩
end D0
namespace D0
open PySem PySem.Spec PyProof.Rows L2 SX NumText
theorem join_one (l : List Nat) : Txt.join (S []) (l.map fun c => S [c]) = S l := by
  have e : (l.map fun c => S [c]) = (l.map fun c => [c]).map S := by rw [List.map_map]; rfl
  rw [e, join_S]
  congr 1
  induction l with
  | nil => rfl
  | cons a t ih =>
    cases t with
    | nil => rfl
    | cons b r =>
      have ih := ih (by rw [List.map_map]; rfl)
      show [a] ++ ([] ++ TL.joinL [] ([b] :: r.map fun c => [c])) = a :: b :: r
      show a :: (TL.joinL [] ([b] :: r.map fun c => [c])) = a :: b :: r
      have ih' : TL.joinL [] ([b] :: r.map fun c => [c]) = b :: r := ih
      rw [ih']
/-- the signs of a text -/
def cs (z : Str) : List Nat := z.cps.toList
theorem S_cs (z : Str) : z = S (cs z) := by cases z; rfl
theorem Rep.sv {H : Hp} (z : Str) : Rep H (.str z) (.str (cs z)) := by
  have := Rep.str (H := H) (cs z)
  rwa [← S_cs] at this
def spWord : Sp := fun vs H Q _ => ∃ (b : Addr), vs = [.ref b] ∧ Bag H b ∧ ∀ l H', Stp b H H' → l.length ≤ 10 → Q (.str (S l)) H'
structure OthOk (l : List Nat) (ds : List D) : Prop where
  n1 : l ≠ wRef
  n2 : l ≠ wHandled
  n3 : l ≠ wPending
  dp : deps ds = 0
def spPlain : Sp := fun vs H Q _ => ∃ (b : Addr), vs = [.ref b] ∧ Bag H b ∧ ∀ v l ds H', Stp b H H' → OthOk l ds → Rep H' v (.tup (.str l :: ds)) → Q v H'
section
variable {P : Program} {w : World} {K : PySem.W.Frag} {mg : Str → Option Value} {base : Heap}
theorem at_str {z : Str} {i : Int} (h0 : 0 ≤ i) (h1 : i < z.length) : ∃ c, atI z.cps.toList i = some c := by
  have h2 : i < (z.cps.size : Nat) := h1
  obtain ⟨k, rfl⟩ : ∃ k : Nat, i = (k : Int) := ⟨i.toNat, by omega⟩
  exact ⟨_, atI_nat (List.getElem?_eq_getElem (by rw [Array.length_toList]; omega))⟩
theorem sum_ones : ∀ l : List Nat, ((l.map fun c => S [c]).map fun x => x.length).sum = l.length
  | [] => rfl
  | c :: l => by rw [List.map_cons, List.map_cons, List.sum_cons, sum_ones l, List.length_cons]; show 1 + _ = _; omega
theorem join_lim {l : List Nat} (h : l.length ≤ 100) : ((l.map fun c => S [c]).map fun x => x.length).sum + (l.map fun c => S [c]).length * (Str.ofString "").length ≤ 16777216 := by
  rw [sum_ones]
  have : (Str.ofString "").length = 0 := by decide
  rw [this]; omega
theorem ok__law_word (T : Txt K w mg) (O : OkD P w K mg base CX0 1 "_law_take" p__law_take spTake) : OkD P w K mg base CX0 2 "_law_word" p__law_word spWord := by
  refine T.g__law_word.ok sc__law_word (fun vs H Q E h => ?_) (fun f cdv A outer s H vs Q E hr h => ?_)
  · obtain ⟨b, rfl, _⟩ := h; rfl
  obtain ⟨b, rfl, hb, q⟩ := h
  refine ⟨_, (pss_cons (ps_if (pt_cmpR op_eq (pcall O hr (pa_cons (pv 0) (pa_cons pe_int pa_nil))) pe_int (nomark _)) (pss_cons (ps_set (i := 1) sc__law_word.nd rfl (.inl rfl) (pe_tup (pa_cons pe_str (pa_cons pe_str (pa_cons pe_str (pa_cons pe_str (pa_cons pe_str (pa_cons pe_str pa_nil))))))))
      (pss_one (ps_ret (pe_ix ix_tup (pv 1) (pcall O hr (pa_cons (pv 0) (pa_cons pe_int pa_nil))) (fun _ _ => rfl))))) pss_nil)
      (pss_cons (ps_set (i := 2) sc__law_word.nd rfl (.inr rfl) pe_str)
      (pss_cons (ps_set (i := 2) sc__law_word.nd rfl (.inr rfl) (pe_op op_add_str (pv 2) pe_str))
      (pss_one (ps_ret (pe_join pe_str (pe_lc (own := [("k", 3)]) (g := gName 3) (tt := tYes) rfl sc__law_word.nd (pi_range1 rfl T.z_range (pa_cons (pcall O hr (pa_cons (pv 0) (pa_cons pe_int pa_nil))) pa_nil)) (blkOk_by (own := [("k", 3)]) (N := n__law_word) (sc := defScope s__law_word) (by decide +kernel))
        (fun _ _ _ _ _ => (pg_name (i := 3) sc__law_word.nd rfl (Or.inl rfl))) (fun _ _ _ _ _ => pts_nil) (fun _ _ _ _ _ => (pe_ix ix_str (pv 2) (pcall O hr (pa_cons (pv 0) (pa_cons (pe_callB call_len_str (by rfl) T.z_len PySem.boot_len (pa_cons (pv 2) pa_nil)) pa_nil))) (fun _ _ => rfl)))))))))), ?_⟩
  refine ⟨_, rfl, b, 3, rfl, hb, by decide, by decide, fun r H1 r0 r1 x1 => ⟨rfl, _, rfl, ite2 (fun _ => ?_) (fun _ => ?_)⟩⟩
  · refine ⟨by show 6 ≤ sizeLine; decide, fun p hp => ?_⟩
    refine ⟨_, rfl, _, rfl, b, 6, rfl, x1.b1.same (same_new hp _), by decide, by decide, fun r2 H2 r20 r21 x2 => ?_⟩
    have ht := x2.tups p _ (upd_same (H := H1) (a := p))
    have fin := (x1.new hp).trans x2
    have big : ∀ z : Str, (cs z).length ≤ 10 → Q (.str z) H2 := fun z hz => by rw [S_cs z]; exact q _ _ fin hz
    rcases (by omega : r2 = 0 ∨ r2 = 1 ∨ r2 = 2 ∨ r2 = 3 ∨ r2 = 4 ∨ r2 = 5) with rfl | rfl | rfl | rfl | rfl | rfl
    all_goals exact ⟨p, _, _, _, rfl, rfl, SqT.of ht, rfl, big _ (by decide +kernel)⟩
  · refine ⟨_, rfl, _, _, rfl, rfl, by decide +kernel, ?_⟩
    generalize hz : (Str.ofString " !\"#$&'()*+,-./0123456789:;<=>?@ABCDEFGHIJKLMNOPQRSTUVWXYZ[\\]^_`") ++ (Str.ofString "abcdefghijklmnopqrstuvwxyz{|}~\n") = z
    have hz1 : z.length ≤ 1000 ∧ 0 < z.length := by rw [← hz]; decide +kernel
    have lim : (1000 : Nat) ≤ sizeLine := by decide
    refine ⟨⟨_, rfl⟩, _, rfl, b, 6, rfl, x1.b1, by decide, by decide, fun n H2 n0 n1 x2 => ?_⟩
    refine ⟨n, rfl, by omega, by omega, fun D1 hD1 => ?_⟩
    have nD : D1 ≠ b := x2.b1.ne hD1
    refine lc_it walk_range (fun i H' => Stp b H2 H' ∧ ∃ l : List Nat, l.length = i ∧ H' D1 = some (.lst (l.map fun c => .str (S [c])))) ⟨(Stp.refl x2.b1).new hD1, [], rfl, upd_same⟩ (fun _ _ _ _ => trivial) ?_ ?_
    · rintro i x H3 H4 hi ⟨x3, l, hl, hl1⟩ ⟨rfl, rfl⟩
      refine ⟨rfl, iteT (B := True) (iteT ?_)⟩
      refine ⟨_, rfl, _, rfl, _, rfl, z, rfl, by omega, b, _, rfl, x3.b1, by omega, by omega, fun r5 H5 r50 r51 x5 => ?_⟩
      obtain ⟨e, he⟩ := at_str (z := z) r50 r51
      refine ⟨z, r5, e, rfl, rfl, by omega, he, _, x5.keep _ _ nD hl1, by rw [List.length_map]; omega, (x3.trans x5).grow hD1 nD, l ++ [e], by simp [hl], ?_⟩
      rw [upd_same, List.map_append]; rfl
    · rintro H3 ⟨x3, l, hl, hl1⟩
      refine ⟨_, D1, l.map fun c => S [c], rfl, rfl, .inl (SqL.of (by rw [hl1, List.map_map]; rfl)), join_lim (by omega), ?_⟩
      · have e : Txt.join (Str.ofString "") (l.map fun c => S [c]) = S l := join_one l
        rw [e]; exact q _ _ (x1.trans (x2.trans x3)) (by omega)
theorem ok__law_name (T : Txt K w mg) (O : OkD P w K mg base CX0 1 "_law_take" p__law_take spTake) : OkD P w K mg base CX0 2 "_law_name" p__law_name spWord := by
  refine T.g__law_name.ok sc__law_name (fun vs H Q E h => ?_) (fun f cdv A outer s H vs Q E hr h => ?_)
  · obtain ⟨b, rfl, _⟩ := h; rfl
  obtain ⟨b, rfl, hb, q⟩ := h
  refine ⟨_, (pss_cons (ps_set (i := 1) sc__law_name.nd rfl (.inr rfl) pe_str)
      (pss_one (ps_ret (pe_join pe_str (pe_lc (own := [("k", 2)]) (g := gName 2) (tt := tYes) rfl sc__law_name.nd (pi_range1 rfl T.z_range (pa_cons (pe_op op_add pe_int (pcall O hr (pa_cons (pv 0) (pa_cons pe_int pa_nil)))) pa_nil)) (blkOk_by (own := [("k", 2)]) (N := n__law_name) (sc := defScope s__law_name) (by decide +kernel))
        (fun _ _ _ _ _ => (pg_name (i := 2) sc__law_name.nd rfl (Or.inl rfl))) (fun _ _ _ _ _ => pts_nil) (fun _ _ _ _ _ => (pe_ix ix_str (pv 1) (pcall O hr (pa_cons (pv 0) (pa_cons pe_int pa_nil))) (fun _ _ => rfl)))))))), ?_⟩
  generalize hz : (Str.ofString "abcdefghijklmnopqrstuvwxyz_") = z
  have hz1 : z.length = 27 := by rw [← hz]; decide +kernel
  have lim : (1000 : Nat) ≤ sizeLine := by decide
  refine ⟨⟨_, rfl⟩, _, rfl, b, 3, rfl, hb, by decide, by decide, fun n H2 n0 n1 x2 => ⟨_, _, rfl, rfl, ?_⟩⟩
  refine ⟨1 + n, rfl, by omega, by omega, fun D1 hD1 => ?_⟩
  have nD : D1 ≠ b := x2.b1.ne hD1
  refine lc_it walk_range (fun i H' => Stp b H2 H' ∧ ∃ l : List Nat, l.length = i ∧ H' D1 = some (.lst (l.map fun c => .str (S [c])))) ⟨(Stp.refl x2.b1).new hD1, [], rfl, upd_same⟩ (fun _ _ _ _ => trivial) ?_ ?_
  · rintro i x H3 H4 hi ⟨x3, l, hl, hl1⟩ ⟨rfl, rfl⟩
    refine ⟨rfl, iteT (B := True) (iteT ?_)⟩
    refine ⟨_, rfl, _, rfl, b, 27, rfl, x3.b1, by omega, by omega, fun r5 H5 r50 r51 x5 => ?_⟩
    obtain ⟨e, he⟩ := at_str (z := z) r50 (by omega)
    refine ⟨z, r5, e, rfl, rfl, by omega, he, _, x5.keep _ _ nD hl1, by rw [List.length_map]; omega, (x3.trans x5).grow hD1 nD, l ++ [e], by simp [hl], ?_⟩
    rw [upd_same, List.map_append]; rfl
  · rintro H3 ⟨x3, l, hl, hl1⟩
    refine ⟨_, D1, l.map fun c => S [c], rfl, rfl, .inl (SqL.of (by rw [hl1, List.map_map]; rfl)), join_lim (by omega), ?_⟩
    have e : Txt.join (Str.ofString "") (l.map fun c => S [c]) = S l := join_one l
    rw [e]; exact q _ _ (x2.trans x3) (by omega)
end
end D0
namespace D0
open PySem PySem.Spec PyProof.Rows L2 SX NumText
theorem wRef_e : wRef = cs (Str.ofString "ref") := by decide +kernel
theorem wHandled_e : wHandled = cs (Str.ofString "handled") := by decide +kernel
theorem wPending_e : wPending = cs (Str.ofString "pending") := by decide +kernel
theorem Rep.two {H : Hp} {a : Addr} {x y : V} {d e : D} (h : H a = some (.tup [x, y])) (r : Rep H x d) (s : Rep H y e) : Rep H (.ref a) (.tup [d, e]) := .tup h (by show 2 ≤ 1000; decide) (.cons r (.cons s .nil))
theorem Rep.one {H : Hp} {a : Addr} {x : V} {d : D} (h : H a = some (.tup [x])) (r : Rep H x d) : Rep H (.ref a) (.tup [d]) := .tup h (by show 1 ≤ 1000; decide) (.cons r .nil)
theorem Rep.three {H : Hp} {a : Addr} {x y z : V} {d e f : D} (h : H a = some (.tup [x, y, z])) (r : Rep H x d) (s : Rep H y e) (t : Rep H z f) : Rep H (.ref a) (.tup [d, e, f]) := .tup h (by show 3 ≤ 1000; decide) (.cons r (.cons s (.cons t .nil)))
theorem deps1 (d : D) : deps [d] = dep d := by unfold deps; unfold deps; omega
section
variable {P : Program} {w : World} {K : PySem.W.Frag} {mg : Str → Option Value} {base : Heap}
theorem ok__law_plain (T : Txt K w mg) (O : OkD P w K mg base CX0 1 "_law_take" p__law_take spTake) (Ow : OkD P w K mg base CX0 2 "_law_word" p__law_word spWord) : OkD P w K mg base CX0 3 "_law_plain" p__law_plain spPlain := by
  refine T.g__law_plain.ok sc__law_plain (fun vs H Q E h => ?_) (fun f cdv A outer s H vs Q E hr h => ?_)
  · obtain ⟨b, rfl, _⟩ := h; rfl
  obtain ⟨b, rfl, hb, q⟩ := h
  refine ⟨_, (pss_cons (ps_set (i := 1) sc__law_plain.nd rfl (.inl rfl) (pcall O hr (pa_cons (pv 0) (pa_cons pe_int pa_nil))))
      (pss_cons (ps_if (pt_cmpR op_lt (pv 1) pe_int (nomark _)) (pss_cons (ps_set (i := 2) sc__law_plain.nd rfl (.inl rfl) (pe_tup (pa_cons (pe_tup (pa_cons pe_str pa_nil)) (pa_cons (pe_tup (pa_cons pe_str (pa_cons pe_bl pa_nil))) (pa_cons (pe_tup (pa_cons pe_str (pa_cons pe_bl pa_nil))) pa_nil)))))
      (pss_one (ps_ret (pe_ix ix_tup (pv 2) (pv 1) (fun _ _ => rfl))))) pss_nil)
      (pss_cons (ps_if (pt_cmpR op_lt (pv 1) pe_int (nomark _)) (pss_one (ps_ret (pe_tup (pa_cons pe_str (pa_cons (pcall O hr (pa_cons (pv 0) (pa_cons pe_int pa_nil))) pa_nil))))) pss_nil)
      (pss_cons (ps_if (pt_cmpR op_eq (pv 1) pe_int (nomark _)) (pss_one (ps_ret (pe_tup (pa_cons pe_str (pa_cons (pe_op op_sub (pcall O hr (pa_cons (pv 0) (pa_cons pe_int pa_nil))) pe_int) pa_nil))))) pss_nil)
      (pss_cons (ps_if (pt_cmpR op_eq (pv 1) pe_int (nomark _)) (pss_one (ps_ret (pe_tup (pa_cons pe_str (pa_cons (pe_op op_mul (pe_op op_sub (pe_op op_sub (pe_op op_pow pe_int pe_int) pe_int) (pcall O hr (pa_cons (pv 0) (pa_cons pe_int pa_nil)))) (pe_op op_sub pe_int (pe_op op_mul pe_int (pcall O hr (pa_cons (pv 0) (pa_cons pe_int pa_nil)))))) pa_nil))))) pss_nil)
      (pss_cons (ps_if (pt_cmpR op_eq (pv 1) pe_int (nomark _)) (pss_cons (ps_set (i := 3) sc__law_plain.nd rfl (.inl rfl) (pe_tup (pa_cons pe_str (pa_cons pe_str (pa_cons pe_str pa_nil)))))
      (pss_one (ps_ret (pe_tup (pa_cons pe_str (pa_cons (pe_ix ix_tup (pv 3) (pcall O hr (pa_cons (pv 0) (pa_cons pe_int pa_nil))) (fun _ _ => rfl)) pa_nil)))))) pss_nil)
      (pss_cons (ps_if (pt_cmpR op_eq (pv 1) pe_int (nomark _)) (pss_cons (ps_set (i := 3) sc__law_plain.nd rfl (.inl rfl) (pe_tup (pa_cons pe_str (pa_cons pe_str (pa_cons pe_str pa_nil)))))
      (pss_one (ps_ret (pe_tup (pa_cons pe_str (pa_cons (pe_ix ix_tup (pv 3) (pcall O hr (pa_cons (pv 0) (pa_cons pe_int pa_nil))) (fun _ _ => rfl)) pa_nil)))))) pss_nil)
      (pss_one (ps_ret (pe_tup (pa_cons pe_str (pa_cons (pcall Ow hr (pa_cons (pv 0) pa_nil)) pa_nil)))))))))))), ?_⟩
  have two : 2 ≤ sizeLine := by decide
  have one : 1 ≤ sizeLine := by decide
  have three : 3 ≤ sizeLine := by decide
  refine ⟨_, rfl, b, 10, rfl, hb, by decide, by decide, fun way H1 r0 r1 x1 => ?_⟩
  -- a pair is told
  have pair : ∀ (H2 : Hp) (z : Str) (v : V) (d : D), Stp b H H2 → OthOk (cs z) [d] → Rep H2 v d → [V.str z, v].length ≤ sizeLine ∧ ∀ p, H2 p = none → Q (.ref p) (upd H2 p (.tup [.str z, v])) := fun H2 z v d x2 oo rv =>
    ⟨two, fun p hp => q _ _ _ _ (x2.new hp) oo (Rep.two upd_same (Rep.sv z) (rv.mono (.new hp)))⟩
  have oth : ∀ (z : String) (d : D), z = "number" ∨ z = "truth" ∨ z = "builtin" ∨ z = "errorclass" ∨ z = "text" → dep d = 0 → OthOk (cs (Str.ofString z)) [d] := fun z d hz hd =>
    ⟨by rw [wRef_e]; rcases hz with rfl | rfl | rfl | rfl | rfl <;> decide +kernel, by rw [wHandled_e]; rcases hz with rfl | rfl | rfl | rfl | rfl <;> decide +kernel, by rw [wPending_e]; rcases hz with rfl | rfl | rfl | rfl | rfl <;> decide +kernel, by rw [deps1]; exact hd⟩
  have dI : ∀ i, dep (.int i) = 0 := fun i => by unfold dep; rfl
  have dS : ∀ i, dep (.str i) = 0 := fun i => by unfold dep; rfl
  have dB : ∀ i, dep (.bl i) = 0 := fun i => by unfold dep; rfl
  refine ⟨_, rfl, _, _, rfl, rfl, _, rfl, ite2 (fun c => ?_) (fun _ => ?_)⟩
  · have c : way < 3 := of_decide_eq_true c
    refine ⟨one, fun p1 hp1 => ⟨two, fun p2 hp2 => ⟨two, fun p3 hp3 => ⟨three, fun p hp => ?_⟩⟩⟩⟩
    have n12 := Tups.new (o := HO.tup [V.str (Str.ofString "truth"), V.bl true]) hp2
    have n23 := Tups.new (o := HO.tup [V.str (Str.ofString "truth"), V.bl false]) hp3
    have n3 := Tups.new (o := HO.tup [V.ref p1, V.ref p2, V.ref p3]) hp
    have t1 := (n12.trans (n23.trans n3)) p1 _ upd_same
    have t2 := (n23.trans n3) p2 _ upd_same
    have t3 := n3 p3 _ upd_same
    have xs := (((x1.new hp1).new hp2).new hp3).new (o := HO.tup [V.ref p1, V.ref p2, V.ref p3]) hp
    refine ⟨_, rfl, _, rfl, ?_⟩
    rcases (by omega : way = 0 ∨ way = 1 ∨ way = 2) with rfl | rfl | rfl
    · refine ⟨p, _, _, _, rfl, rfl, SqT.of upd_same, rfl, q _ _ [] _ xs ⟨?_, ?_, ?_, by unfold deps; rfl⟩ (Rep.one t1 (Rep.sv _))⟩
      · rw [wRef_e]; decide +kernel
      · rw [wHandled_e]; decide +kernel
      · rw [wPending_e]; decide +kernel
    · exact ⟨p, _, _, _, rfl, rfl, SqT.of upd_same, rfl, q _ _ _ _ xs (oth "truth" _ (.inr (.inl rfl)) (dB _)) (Rep.two t2 (Rep.sv _) (.bl _))⟩
    · exact ⟨p, _, _, _, rfl, rfl, SqT.of upd_same, rfl, q _ _ _ _ xs (oth "truth" _ (.inr (.inl rfl)) (dB _)) (Rep.two t3 (Rep.sv _) (.bl _))⟩
  refine ⟨_, rfl, _, _, rfl, rfl, _, rfl, ite2 (fun c => ?_) (fun _ => ?_)⟩
  · refine ⟨_, rfl, b, 4, rfl, x1.b1, by decide, by decide, fun r H2 _ _ x2 => ?_⟩
    exact pair _ _ _ _ (x1.trans x2) (oth "number" _ (.inl rfl) (dI r)) (.int r)
  refine ⟨_, rfl, rfl, _, rfl, ite2 (fun c => ?_) (fun _ => ?_)⟩
  · refine ⟨_, rfl, b, 2001, rfl, x1.b1, by decide, by decide, fun r H2 _ _ x2 => ⟨_, _, rfl, rfl, ?_⟩⟩
    exact pair _ _ _ _ (x1.trans x2) (oth "number" _ (.inl rfl) (dI _)) (.int _)
  refine ⟨_, rfl, rfl, _, rfl, ite2 (fun c => ?_) (fun _ => ?_)⟩
  · refine ⟨_, _, rfl, rfl, ⟨by decide, by decide, by decide⟩, _, _, rfl, rfl, _, rfl, b, 3, rfl, x1.b1, by decide, by decide, fun r H2 _ _ x2 => ⟨_, _, rfl, rfl, ?_⟩⟩
    refine ⟨_, rfl, b, 2, rfl, x2.b1, by decide, by decide, fun r3 H3 r30 r31 x3 => ⟨_, _, rfl, rfl, .inl ⟨by decide, by decide⟩, _, _, rfl, rfl, _, _, rfl, rfl, .inr ⟨by omega, by omega⟩, ?_⟩⟩
    exact pair _ _ _ _ (x1.trans (x2.trans x3)) (oth "number" _ (.inl rfl) (dI _)) (.int _)
  refine ⟨_, rfl, rfl, _, rfl, ite2 (fun c => ?_) (fun _ => ?_)⟩
  · refine ⟨three, fun p hp => ⟨_, rfl, _, rfl, b, 3, rfl, (x1.new hp).b1, by decide, by decide, fun r H2 r0 r1 x2 => ?_⟩⟩
    have ht := x2.tups p _ upd_same
    have fin := (x1.new hp).trans x2
    rcases (by omega : r = 0 ∨ r = 1 ∨ r = 2) with rfl | rfl | rfl
    all_goals exact ⟨p, _, _, _, rfl, rfl, SqT.of ht, rfl, pair _ _ _ _ fin (oth "builtin" _ (.inr (.inr (.inl rfl))) (dS _)) (Rep.sv _)⟩
  refine ⟨_, rfl, rfl, _, rfl, ite2 (fun c => ?_) (fun _ => ?_)⟩
  · refine ⟨three, fun p hp => ⟨_, rfl, _, rfl, b, 3, rfl, (x1.new hp).b1, by decide, by decide, fun r H2 r0 r1 x2 => ?_⟩⟩
    have ht := x2.tups p _ upd_same
    have fin := (x1.new hp).trans x2
    rcases (by omega : r = 0 ∨ r = 1 ∨ r = 2) with rfl | rfl | rfl
    all_goals exact ⟨p, _, _, _, rfl, rfl, SqT.of ht, rfl, pair _ _ _ _ fin (oth "errorclass" _ (.inr (.inr (.inr (.inl rfl)))) (dS _)) (Rep.sv _)⟩
  · refine ⟨_, rfl, b, rfl, x1.b1, fun l H2 x2 _ => ?_⟩
    exact pair _ _ _ _ (x1.trans x2) (oth "text" _ (.inr (.inr (.inr (.inr rfl)))) (dS l)) (.str l)
end
end D0
namespace D0
open PySem PySem.Spec PyProof.Rows L2 SX NumText
def sRef : Str := "ref"
def sHandled : Str := "handled"
def sPending : Str := "pending"
theorem rep_ref {H : Hp} {f : Nat → Int} {a : Addr} {k : Nat} {i : Int} (h : H a = some (.tup [.str sRef, .int i])) (e : i = f k) : Rep H (.ref a) ((En.ref k).d f) := by
  subst e
  show Rep H (.ref a) (.tup [.str wRef, .int (f k)])
  rw [wRef_e]; exact Rep.two h (Rep.sv _) (.int _)
theorem rep_hand {H : Hp} {f : Nat → Int} {a : Addr} {k : Nat} {i : Int} (h : H a = some (.tup [.str sHandled, .int i])) (e : i = f k) : Rep H (.ref a) ((En.hand k).d f) := by
  subst e
  show Rep H (.ref a) (.tup [.str wHandled, .int (f k)])
  rw [wHandled_e]; exact Rep.two h (Rep.sv _) (.int _)
theorem rep_pend {H : Hp} {f : Nat → Int} {a : Addr} {i : Int} {v : V} {e : En} (h : H a = some (.tup [.str sPending, .int i, v])) (r : Rep H v (e.d f)) : Rep H (.ref a) ((Ent.pend i e).d f) := by
  show Rep H (.ref a) (.tup [.str wPending, .int i, e.d f])
  rw [wPending_e]; exact Rep.three h (Rep.sv _) (.int _) r
/-- the kinds -/
def KS : List Str := ["list", "tuple", "dict", "cell", "function", "method", "class", "instance", "iterator", "generator"]
def KX : List Str := ["generator", "generator", "instance", "instance"]
theorem kx_in : ∀ z ∈ KS ++ KX, z ∈ KS := by decide +kernel
def spKinds : Sp := fun vs H Q _ => vs = [] ∧ ∀ p H', Same H H' → H' p = some (.tup (KS.map V.str)) → Q (.ref p) H'
def spKind : Sp := fun vs H Q _ => ∃ (b : Addr), vs = [.ref b] ∧ Bag H b ∧ ∀ z H', Stp b H H' → z ∈ KS → Q (.str z) H'
def spMarks : Sp := fun vs H Q _ => ∃ (z : Str), vs = [.str z] ∧ ∀ i, Q (.int i) H
/-- a list of places below m -/
def Pool (H : Hp) (b pl : Addr) (m : Nat) : Prop := pl ≠ b ∧ ∃ ks : List Nat, H pl = some (.lst (ks.map fun k => .int (k : Nat))) ∧ (∀ k ∈ ks, k < m) ∧ ks.length ≤ 1000
theorem Pool.stp {H H' : Hp} {b pl : Addr} {m : Nat} (x : Pool H b pl m) (s : Stp b H H') : Pool H' b pl m := by
  obtain ⟨n, ks, h, u⟩ := x
  exact ⟨n, ks, s.keep _ _ n h, u⟩
def spPending : Sp := fun vs H Q _ => ∃ (b pl er : Addr) (m : Nat), vs = [.ref b, .ref pl, .ref er] ∧ Bag H b ∧ Pool H b pl m ∧ Pool H b er m ∧ ∀ v (e : Ent) H', Stp b H H' → e.ok m → Rep H' v (e.d ixD) → Q v H'
def spMarked : Sp := fun vs H Q _ => ∃ (b pl er : Addr) (m : Nat) (i : Int), vs = [.ref b, .ref pl, .ref er, .int i] ∧ Bag H b ∧ Pool H b pl m ∧ Pool H b er m ∧ ∀ v (e : Ent) H', Stp b H H' → e.ok m → Rep H' v (e.d ixD) → Q v H'
theorem via2 {B G : Prop} (h : B → G) (b : B) : G := h b
section
variable {P : Program} {w : World} {K : PySem.W.Frag} {mg : Str → Option Value} {base : Heap}
theorem ok__law_kinds (T : Txt K w mg) : OkD P w K mg base CX0 1 "_law_kinds" p__law_kinds spKinds := by
  refine T.g__law_kinds.ok sc__law_kinds (fun vs H Q E h => ?_) (fun f cdv A outer s H vs Q E hr h => ?_)
  · obtain ⟨rfl, _⟩ := h; rfl
  obtain ⟨rfl, q⟩ := h
  refine ⟨_, (pss_cons (ps_set (i := 0) sc__law_kinds.nd rfl (.inl rfl) (pe_tup (pa_cons pe_str (pa_cons pe_str (pa_cons pe_str (pa_cons pe_str (pa_cons pe_str pa_nil)))))))
      (pss_one (ps_ret (pe_op op_catT (pv 0) (pe_tup (pa_cons pe_str (pa_cons pe_str (pa_cons pe_str (pa_cons pe_str (pa_cons pe_str pa_nil)))))))))), ?_⟩
  refine ⟨by show 5 ≤ sizeLine; decide, fun p hp => ⟨_, rfl, by show 5 ≤ sizeLine; decide, fun p2 hp2 => ?_⟩⟩
  refine ⟨p, p2, _, _, rfl, rfl, SqT.of (same_new hp2 _ _ _ upd_same), SqT.of upd_same, (by intro z; cases z), (by show 10 ≤ sizeLine; decide), (fun z => by cases z), fun _ p3 hp3 => ?_⟩
  exact q p3 _ ((same_new hp _).trans ((same_new hp2 _).trans (same_new hp3 _))) upd_same
theorem ok__law_kind (T : Txt K w mg) (O : OkD P w K mg base CX0 1 "_law_take" p__law_take spTake) (Ok : OkD P w K mg base CX0 1 "_law_kinds" p__law_kinds spKinds) : OkD P w K mg base CX0 2 "_law_kind" p__law_kind spKind := by
  refine T.g__law_kind.ok sc__law_kind (fun vs H Q E h => ?_) (fun f cdv A outer s H vs Q E hr h => ?_)
  · obtain ⟨b, rfl, _⟩ := h; rfl
  obtain ⟨b, rfl, hb, q⟩ := h
  refine ⟨_, (pss_cons (ps_set (i := 1) sc__law_kind.nd rfl (.inl rfl) (pe_op op_catT (pcall0 Ok hr) (pe_tup (pa_cons pe_str (pa_cons pe_str (pa_cons pe_str (pa_cons pe_str pa_nil)))))))
      (pss_one (ps_ret (pe_ix ix_tup (pv 1) (pcall O hr (pa_cons (pv 0) (pa_cons pe_int pa_nil))) (fun _ _ => rfl))))), ?_⟩
  refine ⟨rfl, fun p H1 s1 h1 => ⟨by show 4 ≤ sizeLine; decide, fun p2 hp2 => ?_⟩⟩
  refine ⟨p, p2, _, _, rfl, rfl, SqT.of (same_new hp2 _ _ _ h1), SqT.of upd_same, (by intro z; cases z), (by show 14 ≤ sizeLine; decide), (fun z => by cases z), fun _ p3 hp3 => ?_⟩
  have st : Stp b H _ := (Stp.same hb s1).trans (.same (hb.same s1) ((same_new hp2 (.tup (KX.map V.str))).trans (same_new hp3 (.tup ((KS ++ KX).map V.str)))))
  refine ⟨_, rfl, _, rfl, b, 14, rfl, st.b1, by decide, by decide, fun r H2 r0 r1 x2 => ?_⟩
  obtain ⟨k, rfl⟩ : ∃ k : Nat, r = (k : Int) := ⟨r.toNat, by omega⟩
  have hk : k < (KS ++ KX).length := by show k < 14; omega
  refine ⟨p3, _, _, .str (KS ++ KX)[k], rfl, rfl, SqT.of (x2.tups p3 ((KS ++ KX).map V.str) upd_same), atI_nat (by rw [List.getElem?_map, List.getElem?_eq_getElem hk]; rfl), ?_⟩
  exact q _ _ (st.trans x2) (kx_in _ (List.getElem_mem hk))
theorem ok__law_marks (T : Txt K w mg) : OkD P w K mg base CX0 1 "_law_marks" p__law_marks spMarks := by
  refine T.g__law_marks.ok sc__law_marks (fun vs H Q E h => ?_) (fun f cdv A outer s H vs Q E hr h => ?_)
  · obtain ⟨z, rfl, _⟩ := h; rfl
  obtain ⟨z, rfl, q⟩ := h
  refine ⟨_, (pss_one (ps_ret (pe_op op_add (pe_op op_mul pe_int (pe_callTy call_int1 (by rfl) T.z_int PyProof.Rows.boot_int (pa_cons (pe_cmpR op_eq (pv 0) pe_str (nomark _)) pa_nil))) (pe_callTy call_int1 (by rfl) T.z_int PyProof.Rows.boot_int (pa_cons (pe_cmpR op_eq (pv 0) pe_str (nomark _)) pa_nil))))), ?_⟩
  refine ⟨_, rfl, rfl, .inr ⟨_, rfl, _, _, rfl, rfl, .inl ⟨by decide, by decide⟩, _, rfl, rfl, .inr ⟨_, rfl, _, _, rfl, rfl, q _⟩⟩⟩
theorem ok__law_pending (T : Txt K w mg) (O : OkD P w K mg base CX0 1 "_law_take" p__law_take spTake) (Op : OkD P w K mg base CX0 3 "_law_plain" p__law_plain spPlain) : OkD P w K mg base CX0 4 "_law_pending" p__law_pending spPending := by
  refine T.g__law_pending.ok sc__law_pending (fun vs H Q E h => ?_) (fun f cdv A outer s H vs Q E hr h => ?_)
  · obtain ⟨b, pl, er, m, rfl, _⟩ := h; rfl
  obtain ⟨b, pl, er, m, rfl, hb, hp, he, q⟩ := h
  refine ⟨_, (pss_cons (ps_set (i := 3) sc__law_pending.nd rfl (.inl rfl) (pcall O hr (pa_cons (pv 0) (pa_cons pe_int pa_nil))))
      (pss_cons (ps_if (PW.pt (pw_and (pt_cmpR op_lt (pv 3) pe_int (nomark _)) (pw_and1 (pt_truth (pv 2) (by intro _; rfl))))) (pss_one (ps_ret (pe_tup (pa_cons pe_str (pa_cons pe_int (pa_cons (pe_tup (pa_cons pe_str (pa_cons (pe_ix ix_list (pv 2) (pcall O hr (pa_cons (pv 0) (pa_cons (pe_callB call_len_seq (by rfl) T.z_len PySem.boot_len (pa_cons (pv 2) pa_nil)) pa_nil))) (fun _ _ => rfl)) pa_nil))) pa_nil)))))) pss_nil)
      (pss_cons (ps_if (PW.pt (pw_and (pt_cmpR op_lt (pv 3) pe_int (nomark _)) (pw_and1 (pt_truth (pv 1) (by intro _; rfl))))) (pss_one (ps_ret (pe_tup (pa_cons pe_str (pa_cons pe_int (pa_cons (pe_tup (pa_cons pe_str (pa_cons (pe_ix ix_list (pv 1) (pcall O hr (pa_cons (pv 0) (pa_cons (pe_callB call_len_seq (by rfl) T.z_len PySem.boot_len (pa_cons (pv 1) pa_nil)) pa_nil))) (fun _ _ => rfl)) pa_nil))) pa_nil)))))) pss_nil)
      (pss_cons (ps_if (pt_cmpR op_eq (pv 3) pe_int (nomark _)) (pss_one (ps_ret (pe_tup (pa_cons pe_str (pa_cons pe_int (pa_cons (pcall Op hr (pa_cons (pv 0) pa_nil)) pa_nil)))))) pss_nil)
      (pss_cons (ps_set (i := 4) sc__law_pending.nd rfl (.inl rfl) (pe_tup (pa_cons pe_int (pa_cons pe_int (pa_cons pe_int (pa_cons pe_int (pa_cons pe_int (pa_cons pe_int (pa_cons pe_int (pa_cons pe_int pa_nil))))))))))
      (pss_one (ps_ret (pe_tup (pa_cons pe_str (pa_cons (pe_ix ix_tup (pv 4) (pv 3) (fun _ _ => rfl)) (pa_cons (pe_tup (pa_cons pe_str pa_nil)) pa_nil))))))))))), ?_⟩
  have two : 2 ≤ sizeLine := by decide
  have one : 1 ≤ sizeLine := by decide
  have three : 3 ≤ sizeLine := by decide
  refine ⟨_, rfl, b, 8, rfl, hb, by decide, by decide, fun way H1 r0 r1 x1 => ?_⟩
  have pend : ∀ (H2 : Hp) (i : Int) (v : V) (e : En), Stp b H H2 → e.ok m → Rep H2 v (e.d ixD) → [V.str sPending, .int i, v].length ≤ sizeLine ∧ ∀ p, H2 p = none → Q (.ref p) (upd H2 p (.tup [.str sPending, .int i, v])) := fun H2 i v e x2 oo rv =>
    ⟨three, fun p hp => q _ (.pend i e) _ (x2.new hp) oo (rep_pend upd_same (rv.mono (.new hp)))⟩
  obtain ⟨np, ps, hp1, hpm, hpl⟩ := hp.stp x1
  obtain ⟨ne, es, he1, hem, hel⟩ := he.stp x1
  have lim : (1000 : Nat) ≤ sizeLine := by decide
  have bl : ∀ (l : List Nat), l.length ≤ 1000 → ((l.map fun k => V.int (k : Nat)).length : Int) < 1000000000 := fun l h => by rw [List.length_map]; omega
  refine via2 (fun hB => ⟨_, rfl, _, _, rfl, rfl, _, rfl, ite2 (fun c => ⟨_, rfl, _, .inl ⟨_, SqL.of he1, rfl⟩, ite2 (fun k => ?_) (fun _ => hB)⟩) (fun _ => hB)⟩) ?_
  · have k0 : 0 < es.length := by cases es with | nil => exact absurd k (by decide) | cons => simp
    refine ⟨_, rfl, _, rfl, _, rfl, er, _, rfl, .inl (SqL.of he1), b, _, rfl, x1.b1, (by rw [List.length_map]; omega), bl es hel, fun r H2 r20 r21 x2 => ?_⟩
    rw [List.length_map] at r21
    obtain ⟨j, rfl⟩ : ∃ j : Nat, r = (j : Int) := ⟨r.toNat, by omega⟩
    have hj : j < es.length := by omega
    refine ⟨er, _, _, .int (es[j] : Nat), rfl, rfl, SqL.of (x2.keep _ _ ne he1), atI_nat (by rw [List.getElem?_map, List.getElem?_eq_getElem hj]; rfl), two, fun p hp => ?_⟩
    exact pend _ 4 _ (.hand es[j]) ((x1.trans x2).new hp) (hem _ (List.getElem_mem hj)) (rep_hand upd_same rfl)
  refine via2 (fun hB => ⟨_, rfl, _, _, rfl, rfl, _, rfl, ite2 (fun c => ⟨_, rfl, _, .inl ⟨_, SqL.of hp1, rfl⟩, ite2 (fun k => ?_) (fun _ => hB)⟩) (fun _ => hB)⟩) ?_
  · have k0 : 0 < ps.length := by cases ps with | nil => exact absurd k (by decide) | cons => simp
    refine ⟨_, rfl, _, rfl, _, rfl, pl, _, rfl, .inl (SqL.of hp1), b, _, rfl, x1.b1, (by rw [List.length_map]; omega), bl ps hpl, fun r H2 r20 r21 x2 => ?_⟩
    rw [List.length_map] at r21
    obtain ⟨j, rfl⟩ : ∃ j : Nat, r = (j : Int) := ⟨r.toNat, by omega⟩
    have hj : j < ps.length := by omega
    refine ⟨pl, _, _, .int (ps[j] : Nat), rfl, rfl, SqL.of (x2.keep _ _ np hp1), atI_nat (by rw [List.getElem?_map, List.getElem?_eq_getElem hj]; rfl), two, fun p hp => ?_⟩
    exact pend _ 1 _ (.ref ps[j]) ((x1.trans x2).new hp) (hpm _ (List.getElem_mem hj)) (rep_ref upd_same rfl)
  refine ⟨_, rfl, rfl, _, rfl, ite2 (fun c => ?_) (fun _ => ?_)⟩
  · refine ⟨_, rfl, b, rfl, x1.b1, fun v l ds H2 x2 oo rv => ?_⟩
    exact pend _ 1 _ (.oth l ds) (x1.trans x2) ⟨oo.n1, oo.n2, oo.n3, oo.dp⟩ rv
  · refine ⟨by show 8 ≤ sizeLine; decide, fun p hp => ?_⟩
    have fin : ∀ (i : Int), [V.str (Str.ofString "none")].length ≤ sizeLine ∧ ∀ p2, upd H1 p (.tup [V.int 0, .int 2, .int 3, .int 0, .int 2, .int 3, .int 0, .int 2]) p2 = none → _ := fun i => ⟨one, fun p2 hp2 => pend _ i _ (.oth (cs (Str.ofString "none")) []) ((x1.new hp).new hp2) ⟨by rw [wRef_e]; decide +kernel, by rw [wHandled_e]; decide +kernel, by rw [wPending_e]; decide +kernel, by unfold deps; rfl⟩ (Rep.one upd_same (Rep.sv _))⟩
    refine ⟨_, rfl, _, rfl, ?_⟩
    rcases (by omega : way = 0 ∨ way = 1 ∨ way = 2 ∨ way = 3 ∨ way = 4 ∨ way = 5 ∨ way = 6 ∨ way = 7) with rfl | rfl | rfl | rfl | rfl | rfl | rfl | rfl
    all_goals exact ⟨p, _, _, _, rfl, rfl, SqT.of upd_same, rfl, fin _⟩
theorem ok__law_marked (T : Txt K w mg) (O : OkD P w K mg base CX0 1 "_law_take" p__law_take spTake) (Op : OkD P w K mg base CX0 3 "_law_plain" p__law_plain spPlain) (On : OkD P w K mg base CX0 4 "_law_pending" p__law_pending spPending) : OkD P w K mg base CX0 5 "_law_marked" p__law_marked spMarked := by
  refine T.g__law_marked.ok sc__law_marked (fun vs H Q E h => ?_) (fun f cdv A outer s H vs Q E hr h => ?_)
  · obtain ⟨b, pl, er, m, i, rfl, _⟩ := h; rfl
  obtain ⟨b, pl, er, m, way, rfl, hb, hp, he, q⟩ := h
  refine ⟨_, (pss_cons (ps_if (PW.pt (pw_and (pt_truth (pv 2) (by intro _; rfl)) (pw_and1 (pt_cmpR op_lt (pv 3) pe_int (nomark _))))) (pss_one (ps_ret (pe_tup (pa_cons pe_str (pa_cons (pe_ix ix_list (pv 2) (pcall O hr (pa_cons (pv 0) (pa_cons (pe_callB call_len_seq (by rfl) T.z_len PySem.boot_len (pa_cons (pv 2) pa_nil)) pa_nil))) (fun _ _ => rfl)) pa_nil))))) pss_nil)
      (pss_cons (ps_if (pt_cmpR op_lt (pv 3) pe_int (nomark _)) (pss_one (ps_ret (pcall On hr (pa_cons (pv 0) (pa_cons (pv 1) (pa_cons (pv 2) pa_nil)))))) pss_nil)
      (pss_cons (ps_if (pt_cmpR op_eq (pv 3) pe_int (nomark _)) (pss_one (ps_ret (pe_tup (pa_cons pe_str pa_nil)))) pss_nil)
      (pss_cons (ps_if (PW.pt (pw_and (pt_truth (pv 1) (by intro _; rfl)) (pw_and1 (pt_cmpR op_lt (pv 3) pe_int (nomark _))))) (pss_one (ps_ret (pe_tup (pa_cons pe_str (pa_cons (pe_ix ix_list (pv 1) (pcall O hr (pa_cons (pv 0) (pa_cons (pe_callB call_len_seq (by rfl) T.z_len PySem.boot_len (pa_cons (pv 1) pa_nil)) pa_nil))) (fun _ _ => rfl)) pa_nil))))) pss_nil)
      (pss_one (ps_ret (pcall Op hr (pa_cons (pv 0) pa_nil)))))))), ?_⟩
  have two : 2 ≤ sizeLine := by decide
  have one : 1 ≤ sizeLine := by decide
  obtain ⟨np, ps, hp1, hpm, hpl⟩ := id hp
  obtain ⟨ne, es, he1, hem, hel⟩ := id he
  have bl : ∀ (l : List Nat), l.length ≤ 1000 → ((l.map fun k => V.int (k : Nat)).length : Int) < 1000000000 := fun l h => by rw [List.length_map]; omega
  refine via2 (fun hB => ⟨_, rfl, _, .inl ⟨_, SqL.of he1, rfl⟩, ite2 (fun k => ⟨_, rfl, _, _, rfl, rfl, _, rfl, ite2 (fun c => ?_) (fun _ => hB)⟩) (fun _ => hB)⟩) ?_
  · have k0 : 0 < es.length := by cases es with | nil => exact absurd k (by decide) | cons => simp
    refine ⟨_, rfl, _, rfl, _, rfl, er, _, rfl, .inl (SqL.of he1), b, _, rfl, hb, (by rw [List.length_map]; omega), bl es hel, fun r H2 r20 r21 x2 => ?_⟩
    rw [List.length_map] at r21
    obtain ⟨j, rfl⟩ : ∃ j : Nat, r = (j : Int) := ⟨r.toNat, by omega⟩
    have hj : j < es.length := by omega
    refine ⟨er, _, _, .int (es[j] : Nat), rfl, rfl, SqL.of (x2.keep _ _ ne he1), atI_nat (by rw [List.getElem?_map, List.getElem?_eq_getElem hj]; rfl), two, fun p hp => ?_⟩
    exact q _ (.pl (.hand es[j])) _ (x2.new hp) (hem _ (List.getElem_mem hj)) (rep_hand upd_same rfl)
  refine ⟨_, rfl, _, _, rfl, rfl, _, rfl, ite2 (fun c => ?_) (fun _ => ?_)⟩
  · exact ⟨_, rfl, _, rfl, _, rfl, b, pl, er, m, rfl, hb, hp, he, q⟩
  refine ⟨_, rfl, rfl, _, rfl, ite2 (fun c => ?_) (fun _ => ?_)⟩
  · refine ⟨one, fun p hp => ?_⟩
    exact q _ (.pl (.oth (cs (Str.ofString "unset")) [])) _ ((Stp.refl hb).new hp) ⟨by rw [wRef_e]; decide +kernel, by rw [wHandled_e]; decide +kernel, by rw [wPending_e]; decide +kernel, by unfold deps; rfl⟩ (Rep.one upd_same (Rep.sv _))
  refine via2 (fun hB => ⟨_, rfl, _, .inl ⟨_, SqL.of hp1, rfl⟩, ite2 (fun k => ⟨_, rfl, _, _, rfl, rfl, _, rfl, ite2 (fun c => ?_) (fun _ => hB)⟩) (fun _ => hB)⟩) ?_
  · have k0 : 0 < ps.length := by cases ps with | nil => exact absurd k (by decide) | cons => simp
    refine ⟨_, rfl, _, rfl, _, rfl, pl, _, rfl, .inl (SqL.of hp1), b, _, rfl, hb, (by rw [List.length_map]; omega), bl ps hpl, fun r H2 r20 r21 x2 => ?_⟩
    rw [List.length_map] at r21
    obtain ⟨j, rfl⟩ : ∃ j : Nat, r = (j : Int) := ⟨r.toNat, by omega⟩
    have hj : j < ps.length := by omega
    refine ⟨pl, _, _, .int (ps[j] : Nat), rfl, rfl, SqL.of (x2.keep _ _ np hp1), atI_nat (by rw [List.getElem?_map, List.getElem?_eq_getElem hj]; rfl), two, fun p hp => ?_⟩
    exact q _ (.pl (.ref ps[j])) _ (x2.new hp) (hpm _ (List.getElem_mem hj)) (rep_ref upd_same rfl)
  · refine ⟨_, rfl, b, rfl, hb, fun v l ds H2 x2 oo rv => ?_⟩
    exact q _ (.pl (.oth l ds)) _ x2 ⟨oo.n1, oo.n2, oo.n3, oo.dp⟩ rv
theorem ok__law_entry (T : Txt K w mg) (O : OkD P w K mg base CX0 1 "_law_take" p__law_take spTake) (Op : OkD P w K mg base CX0 3 "_law_plain" p__law_plain spPlain) (On : OkD P w K mg base CX0 5 "_law_marked" p__law_marked spMarked) : OkD P w K mg base CX0 6 "_law_entry" p__law_entry spMarked := by
  refine T.g__law_entry.ok sc__law_entry (fun vs H Q E h => ?_) (fun f cdv A outer s H vs Q E hr h => ?_)
  · obtain ⟨b, pl, er, m, i, rfl, _⟩ := h; rfl
  obtain ⟨b, pl, er, m, mk, rfl, hb, hp, he, q⟩ := h
  refine ⟨_, (pss_cons (ps_set (i := 4) sc__law_entry.nd rfl (.inl rfl) (pcall O hr (pa_cons (pv 0) (pa_cons pe_int pa_nil))))
      (pss_cons (ps_if (pt_cmpR op_gt (pv 3) pe_int (nomark _)) (pss_one (ps_ret (pcall On hr (pa_cons (pv 0) (pa_cons (pv 1) (pa_cons (pv 2) (pa_cons (pv 4) pa_nil))))))) pss_nil)
      (pss_cons (ps_if (PW.pt (pw_and (pt_truth (pv 1) (by intro _; rfl)) (pw_and1 (pt_cmpR op_lt (pv 4) pe_int (nomark _))))) (pss_one (ps_ret (pe_tup (pa_cons pe_str (pa_cons (pe_ix ix_list (pv 1) (pcall O hr (pa_cons (pv 0) (pa_cons (pe_callB call_len_seq (by rfl) T.z_len PySem.boot_len (pa_cons (pv 1) pa_nil)) pa_nil))) (fun _ _ => rfl)) pa_nil))))) pss_nil)
      (pss_cons (ps_if (PW.pt (pw_and (pt_cmpR op_gt (pv 3) pe_int (nomark _)) (pw_and1 (pt_cmpR op_eq (pv 4) pe_int (nomark _))))) (pss_one (ps_ret (pe_tup (pa_cons pe_str pa_nil)))) pss_nil)
      (pss_one (ps_ret (pcall Op hr (pa_cons (pv 0) pa_nil)))))))), ?_⟩
  have two : 2 ≤ sizeLine := by decide
  have one : 1 ≤ sizeLine := by decide
  refine ⟨_, rfl, b, 10, rfl, hb, by decide, by decide, fun way H1 r0 r1 x1 => ?_⟩
  have hp' := hp.stp x1
  have he' := he.stp x1
  obtain ⟨np, ps, hp1, hpm, hpl⟩ := id hp'
  have bl : ∀ (l : List Nat), l.length ≤ 1000 → ((l.map fun k => V.int (k : Nat)).length : Int) < 1000000000 := fun l h => by rw [List.length_map]; omega
  refine ⟨_, rfl, _, _, rfl, rfl, _, rfl, ite2 (fun c => ?_) (fun _ => ?_)⟩
  · exact ⟨_, rfl, _, rfl, _, rfl, _, rfl, b, pl, er, m, way, rfl, x1.b1, hp', he', fun v e H2 x2 => q v e H2 (x1.trans x2)⟩
  refine via2 (fun hB => ⟨_, rfl, _, .inl ⟨_, SqL.of hp1, rfl⟩, ite2 (fun k => ⟨_, rfl, _, _, rfl, rfl, _, rfl, ite2 (fun c => ?_) (fun _ => hB)⟩) (fun _ => hB)⟩) ?_
  · have k0 : 0 < ps.length := by cases ps with | nil => exact absurd k (by decide) | cons => simp
    refine ⟨_, rfl, _, rfl, _, rfl, pl, _, rfl, .inl (SqL.of hp1), b, _, rfl, x1.b1, (by rw [List.length_map]; omega), bl ps hpl, fun r H2 r20 r21 x2 => ?_⟩
    rw [List.length_map] at r21
    obtain ⟨j, rfl⟩ : ∃ j : Nat, r = (j : Int) := ⟨r.toNat, by omega⟩
    have hj : j < ps.length := by omega
    refine ⟨pl, _, _, .int (ps[j] : Nat), rfl, rfl, SqL.of (x2.keep _ _ np hp1), atI_nat (by rw [List.getElem?_map, List.getElem?_eq_getElem hj]; rfl), two, fun p hp => ?_⟩
    exact q _ (.pl (.ref ps[j])) _ ((x1.trans x2).new hp) (hpm _ (List.getElem_mem hj)) (rep_ref upd_same rfl)
  refine via2 (fun hB => ⟨_, rfl, _, _, rfl, rfl, _, rfl, ite2 (fun k => ⟨_, rfl, rfl, _, rfl, ite2 (fun c => ?_) (fun _ => hB)⟩) (fun _ => hB)⟩) ?_
  · refine ⟨one, fun p hp => ?_⟩
    exact q _ (.pl (.oth (cs (Str.ofString "unset")) [])) _ (x1.new hp) ⟨by rw [wRef_e]; decide +kernel, by rw [wHandled_e]; decide +kernel, by rw [wPending_e]; decide +kernel, by unfold deps; rfl⟩ (Rep.one upd_same (Rep.sv _))
  · refine ⟨_, rfl, b, rfl, x1.b1, fun v l ds H2 x2 oo rv => ?_⟩
    exact q _ (.pl (.oth l ds)) _ (x1.trans x2) ⟨oo.n1, oo.n2, oo.n3, oo.dp⟩ rv
end
end D0
namespace D0
open PySem PySem.Spec PyProof.Rows L2 SX NumText
theorem str_small : ∀ k : Nat, k ≤ 100 → (Str.ofString (toString ((k : Nat) : Int))).length ≤ 5 := by
  have h : ∀ k : Fin 101, (Str.ofString (toString ((k.1 : Nat) : Int))).length ≤ 5 := by decide +kernel
  exact fun k hk => h ⟨k, by omega⟩
def spTag : Sp := fun vs H Q _ => ∃ (b : Addr) (z : Str) (n : Nat), vs = [.ref b, .str z, .int n] ∧ Bag H b ∧ n ≤ 100 ∧ ∀ v d H', Stp b H H' → Rep H' v d → dep d ≤ 3 → Q v H'
theorem reps_strs {H : Hp} : ∀ zs : List Str, Reps H (zs.map V.str) (zs.map fun z => .str (cs z))
  | [] => .nil
  | z :: zs => .cons (Rep.sv z) (reps_strs zs)
theorem deps_strs (zs : List Str) : deps (zs.map fun z => .str (cs z)) ≤ 0 := deps_of fun d hd => by
  obtain ⟨z, _, rfl⟩ := List.mem_map.mp hd
  unfold dep; exact Nat.le_refl _
section
variable {P : Program} {w : World} {K : PySem.W.Frag} {mg : Str → Option Value} {base : Heap}
theorem ok__law_tag (T : Txt K w mg) (O : OkD P w K mg base CX0 1 "_law_take" p__law_take spTake) (On : OkD P w K mg base CX0 2 "_law_name" p__law_name spWord) : OkD P w K mg base CX0 3 "_law_tag" p__law_tag spTag := by
  refine T.g__law_tag.ok sc__law_tag (fun vs H Q E h => ?_) (fun f cdv A outer s H vs Q E hr h => ?_)
  · obtain ⟨b, z, n, rfl, _⟩ := h; rfl
  obtain ⟨b, z, n, rfl, hb, hn, q⟩ := h
  refine ⟨_, (pss_cons (ps_if (pt_cmpR op_in_seq (pv 1) (pe_tup (pa_cons pe_str (pa_cons pe_str (pa_cons pe_str (pa_cons pe_str pa_nil))))) (by rfl)) (pss_one (ps_ret pe_non)) pss_nil)
      (pss_cons (ps_set (i := 3) sc__law_tag.nd rfl (.inr rfl) (pcall On hr (pa_cons (pv 0) pa_nil)))
      (pss_cons (ps_if (pt_cmpR op_eq (pv 1) pe_str (nomark _)) (pss_one (ps_ret (pe_tup (pa_cons (pcall O hr (pa_cons (pv 0) (pa_cons pe_int pa_nil))) (pa_cons (pv 3) pa_nil))))) pss_nil)
      (pss_cons (ps_if (pt_cmpR op_eq (pv 1) pe_str (nomark _)) (pss_one (ps_ret (pv 3))) pss_nil)
      (pss_cons (ps_if (pt_cmpR op_eq (pv 1) pe_str (nomark _)) (pss_one (ps_ret (pe_tup (pa_cons (pe_op op_sub (pcall O hr (pa_cons (pv 0) (pa_cons pe_int pa_nil))) pe_int) (pa_cons (pcall O hr (pa_cons (pv 0) (pa_cons pe_int pa_nil))) pa_nil))))) pss_nil)
      (pss_cons (ps_set (i := 4) sc__law_tag.nd rfl (.inl rfl) (pe_callTy call_tuple_of (by rfl) T.z_tuple PyProof.Rows.boot_tuple (pa_cons (pe_lc (own := [("k", 5)]) (g := gName 5) (tt := tYes) rfl sc__law_tag.nd (pi_range1 rfl T.z_range (pa_cons (pv 2) pa_nil)) (blkOk_by (own := [("k", 5)]) (N := n__law_tag) (sc := defScope s__law_tag) (by decide +kernel))
        (fun _ _ _ _ _ => (pg_name (i := 5) sc__law_tag.nd rfl (Or.inl rfl))) (fun _ _ _ _ _ => pts_nil) (fun _ _ _ _ _ => (pe_op op_add_str (pv 3) (pe_callTy call_str_int (by rfl) T.z_str PyProof.Rows.boot_str (pa_cons (pv 5) pa_nil))))) pa_nil)))
      (pss_cons (ps_if (pt_cmpR op_eq (pv 1) pe_str (nomark _)) (pss_one (ps_ret (pe_tup (pa_cons (pv 3) (pa_cons (pv 4) pa_nil))))) pss_nil)
      (pss_cons (ps_if (pt_cmpR op_eq (pv 1) pe_str (nomark _)) (pss_one (ps_ret (pe_tup (pa_cons (pv 4) (pa_cons (pe_callTy call_tuple_of (by rfl) T.z_tuple PyProof.Rows.boot_tuple (pa_cons (pe_lc (own := [("k", 5)]) (g := gName 5) (tt := tYes) rfl sc__law_tag.nd (pi_range1 rfl T.z_range (pa_cons (pcall O hr (pa_cons (pv 0) (pa_cons pe_int pa_nil))) pa_nil)) (blkOk_by (own := [("k", 5)]) (N := n__law_tag) (sc := defScope s__law_tag) (by decide +kernel))
        (fun _ _ _ _ _ => (pg_name (i := 5) sc__law_tag.nd rfl (Or.inl rfl))) (fun _ _ _ _ _ => pts_nil) (fun _ _ _ _ _ => (pe_tup (pa_cons (pcall On hr (pa_cons (pv 0) pa_nil)) (pa_cons (pcall O hr (pa_cons (pv 0) (pa_cons pe_int pa_nil))) pa_nil))))) pa_nil)) pa_nil))))) pss_nil)
      (pss_one (ps_ret (pe_tup (pa_cons pe_str (pa_cons (pv 3) (pa_cons (pcall O hr (pa_cons (pv 0) (pa_cons pe_int pa_nil))) (pa_cons (pe_tup pa_nil) (pa_cons (pe_tup (pa_cons (pcall O hr (pa_cons (pv 0) (pa_cons pe_int pa_nil))) (pa_cons (pcall O hr (pa_cons (pv 0) (pa_cons pe_int pa_nil))) pa_nil))) pa_nil)))))))))))))))), ?_⟩
  have lim : (1000 : Nat) ≤ sizeLine := by decide
  have dI : ∀ i, dep (.int i) = 0 := fun i => by unfold dep; rfl
  have dS : ∀ i, dep (.str i) = 0 := fun i => by unfold dep; rfl
  have d2 : ∀ a b : D, dep (.tup [a, b]) = 1 + max (dep a) (dep b) := fun a b => by rw [dep_tup]; unfold deps; rw [deps1]
  have two : 2 ≤ sizeLine := by omega
  have pair : ∀ (H2 : Hp) (u v : V) (d e : D), Stp b H H2 → dep d ≤ 2 → dep e ≤ 2 → Rep H2 u d → Rep H2 v e → [u, v].length ≤ sizeLine ∧ ∀ p, H2 p = none → Q (.ref p) (upd H2 p (.tup [u, v])) := fun H2 u v d e x2 h1 h2 r1 r2 =>
    ⟨two, fun p hp => q _ _ _ (x2.new hp) (Rep.two upd_same (r1.mono (.new hp)) (r2.mono (.new hp))) (by rw [d2]; omega)⟩
  refine ⟨_, rfl, by show 4 ≤ sizeLine; omega, fun p0 hp0 => ⟨p0, _, rfl, .inr (SqT.of upd_same), rfl, rfl, _, rfl, ?_⟩⟩
  have x0 := (Stp.refl hb).new (o := HO.tup [V.str (Str.ofString "list"), V.str (Str.ofString "tuple"), V.str (Str.ofString "dict"), V.str (Str.ofString "cell")]) hp0
  refine ite2 (fun _ => q _ .non _ x0 .non (by unfold dep; omega)) (fun _ => ?_)
  refine ⟨_, rfl, b, rfl, x0.b1, fun l H1 x1 hl => ?_⟩
  have x1 := x0.trans x1
  have rl : ∀ H2, Rep H2 (.str (S l)) (.str l) := fun _ => .str l
  refine ⟨_, rfl, rfl, _, rfl, ite2 (fun _ => ?_) (fun _ => ?_)⟩
  · refine ⟨_, rfl, b, 40, rfl, x1.b1, by decide, by decide, fun r H2 _ _ x2 => ⟨_, rfl, ?_⟩⟩
    exact pair _ _ _ (.int r) (.str l) (x1.trans x2) (by rw [dI]; omega) (by rw [dS]; omega) (.int r) (rl _)
  refine ⟨_, rfl, rfl, _, rfl, ite2 (fun _ => ⟨_, rfl, q _ _ _ x1 (rl _) (by rw [dS]; omega)⟩) (fun _ => ?_)⟩
  refine ⟨_, rfl, rfl, _, rfl, ite2 (fun _ => ?_) (fun _ => ?_)⟩
  · refine ⟨_, rfl, b, 9, rfl, x1.b1, by decide, by decide, fun r H2 _ _ x2 => ⟨_, _, rfl, rfl, _, rfl, b, 9, rfl, x2.b1, by decide, by decide, fun r2 H3 _ _ x3 => ?_⟩⟩
    exact pair _ _ _ (.int (r - 1)) (.int r2) (x1.trans (x2.trans x3)) (by rw [dI]; omega) (by rw [dI]; omega) (.int _) (.int _)
  refine ⟨_, rfl, n, rfl, by omega, by omega, fun D1 hD1 => ?_⟩
  have nD : D1 ≠ b := x1.b1.ne hD1
  refine lc_it walk_range (fun i H' => Stp b H1 H' ∧ ∃ zs : List Str, zs.length = i ∧ H' D1 = some (.lst (zs.map V.str))) ⟨(Stp.refl x1.b1).new hD1, [], rfl, upd_same⟩ (fun _ _ _ _ => trivial) ?_ ?_
  · rintro i x H3 H4 hi ⟨x3, zs, hl, hl1⟩ ⟨rfl, rfl⟩
    refine ⟨rfl, iteT (B := True) (iteT ?_)⟩
    have hi' : i < n := by simpa using hi
    refine ⟨_, rfl, _, rfl, _, rfl, ?_, _, _, rfl, rfl, ?_, _, hl1, by rw [List.length_map]; omega, x3.grow hD1 nD, zs ++ [_], by simp [hl], by rw [upd_same, List.map_append]; rfl⟩
    · have := Nat.log2_le_self (0 + (i : Int)).natAbs; omega
    · have := str_small i (by omega)
      have e : (0 + (i : Int)) = ((i : Nat) : Int) := by omega
      rw [e, S_len]; omega
  rintro H2 ⟨x2, zs, hzl, hl1⟩
  refine ⟨D1, _, rfl, .inl ⟨SqL.of hl1, fun pw hpw => ?_⟩⟩
  have x2 := x1.trans (x2.new (o := .tup (zs.map V.str)) hpw)
  have hzl1 : zs.length = n := by simpa using hzl
  have hzl2 : (zs.map V.str).length ≤ 1000 := by rw [List.length_map]; omega
  have hw : ∀ H', Tups (upd H2 pw (.tup (zs.map V.str))) H' → Rep H' (.ref pw) (.tup (zs.map fun z => .str (cs z))) := fun H' t => .tup (t _ _ upd_same) hzl2 (reps_strs zs)
  have dw : dep (.tup (zs.map fun z => .str (cs z))) ≤ 1 := by rw [dep_tup]; have := deps_strs zs; omega
  refine ⟨_, rfl, rfl, _, rfl, ite2 (fun _ => ?_) (fun _ => ?_)⟩
  · refine ⟨_, rfl, _, rfl, ?_⟩
    exact pair _ _ _ (.str l) _ x2 (by rw [dS]; omega) (by omega) (rl _) (hw _ .refl)
  refine ⟨_, rfl, rfl, _, rfl, ite2 (fun _ => ?_) (fun _ => ?_)⟩
  · refine ⟨_, rfl, _, rfl, b, 3, rfl, x2.b1, by decide, by decide, fun m H3 m0 m1 x3 => ⟨m, rfl, by omega, by omega, fun D2 hD2 => ?_⟩⟩
    have nD2 : D2 ≠ b := x3.b1.ne hD2
    refine lc_it walk_range (fun i H' => Stp b H3 H' ∧ ∃ vs ds, H' D2 = some (.lst vs) ∧ Reps H' vs ds ∧ deps ds ≤ 1 ∧ vs.length = i) ⟨(Stp.refl x3.b1).new hD2, [], [], upd_same, .nil, (by unfold deps; omega), rfl⟩ (fun _ _ _ _ => trivial) ?_ ?_
    · rintro i x H4 H5 hi ⟨x4, vs, ds, hl1, hrs, hds, hvl⟩ ⟨rfl, rfl⟩
      refine ⟨rfl, iteT (B := True) (iteT ?_)⟩
      refine ⟨_, rfl, b, rfl, x4.b1, fun l2 H6 x6 _ => ⟨_, rfl, b, 90, rfl, x6.b1, by decide, by decide, fun r H7 _ _ x7 => ⟨two, fun p hp => ?_⟩⟩⟩
      have x8 := (x6.trans x7).new (o := .tup [.str (S l2), .int r]) hp
      have hl2 := x8.keep _ _ nD2 hl1
      refine ⟨_, hl2, by omega, (x4.trans x8).grow hD2 nD2, vs ++ [.ref p], ds ++ [.tup [.str l2, .int r]], upd_same, ?_, ?_, by simp [hvl]⟩
      · exact (hrs.mono (x8.tups.trans (.at hl2 (fun _ z => by cases z)))).app (.one (Rep.mono (.at hl2 (fun _ z => by cases z)) (Rep.two upd_same (.str l2) (.int r))))
      · refine deps_of fun d hd => ?_
        rcases List.mem_append.mp hd with h | h
        · exact deps_mem hds d h
        · rw [List.mem_singleton.mp h, d2, dS, dI]; omega
    · rintro H4 ⟨x4, vs, ds, hl1, hrs, hds, hvl⟩
      refine ⟨D2, _, rfl, .inl ⟨SqL.of hl1, fun p2 hp2 => ?_⟩⟩
      have x5 := (x3.trans x4).new (o := .tup vs) hp2
      refine ⟨two, fun p hp => q _ (.tup [_, .tup ds]) _ ((x2.trans x5).new hp) (Rep.two upd_same (hw _ (x5.tups.trans (.new hp))) (.tup (Tups.new hp _ _ upd_same) (by omega) (hrs.mono ((Tups.new hp2).trans (.new hp))))) ?_⟩
      rw [d2, dep_tup ds]; omega
  · refine ⟨_, rfl, _, rfl, b, 90, rfl, x2.b1, by decide, by decide, fun r H3 _ _ x3 => ⟨Nat.zero_le _, fun p1 hp1 => ?_⟩⟩
    have x3 := (x2.trans x3).new (o := .tup []) hp1
    refine ⟨_, rfl, b, 9, rfl, x3.b1, by decide, by decide, fun r4 H4 _ _ x4 => ⟨_, rfl, b, 90, rfl, x4.b1, by decide, by decide, fun r5 H5 _ _ x5 => ⟨two, fun p2 hp2 => ⟨by show 5 ≤ sizeLine; omega, fun p hp => ?_⟩⟩⟩⟩
    have t1 : Tups (upd H3 p1 (.tup [])) _ := (x4.trans x5).tups
    have n2 := Tups.new (o := HO.tup [V.int r4, V.int r5]) hp2
    refine q _ (.tup [.str (cs (Str.ofString "waiting")), .str l, .int r, .tup [], .tup [.int r4, .int r5]]) _ (((x3.trans (x4.trans x5)).new hp2).new hp) (.tup upd_same (by show 5 ≤ 1000; decide) (.cons (Rep.sv _) (.cons (rl _) (.cons (.int r) (.cons (.tup ?_ (Nat.zero_le _) .nil) (.cons (Rep.two ?_ (.int _) (.int _)) .nil)))))) ?_
    · exact (t1.trans (n2.trans (.new hp))) _ _ upd_same
    · exact Tups.new hp _ _ upd_same
    · simp [dep, deps]
end
end D0
namespace D0
open PySem PySem.Spec PyProof.Rows L2 SX NumText
def spForm : Sp := fun vs H Q _ => ∃ (b pl er : Addr) (z : Str) (m : Nat), vs = [.ref b, .str z, .ref pl, .ref er] ∧ Bag H b ∧ Pool H b pl m ∧ Pool H b er m ∧
  ∀ p tv r tag es vs H', Stp b H H' → H' p = some (.tup [tv, .ref r]) → Rep H' tv tag → dep tag ≤ 3 → H r = none → H' r = some (.lst vs) → Reps H' vs (rowD ixD es) → (∀ e ∈ es, e.ok m) → es.length ≤ 100 → Q (.ref p) H'
theorem Pool.same {H H' : Hp} {b pl : Addr} {m : Nat} (x : Pool H b pl m) (s : Same H H') : Pool H' b pl m := by
  obtain ⟨n, ks, h, u⟩ := x
  exact ⟨n, ks, s _ _ h, u⟩
theorem rowD_app (f : Nat → Int) (a c : List Ent) : rowD f (a ++ c) = rowD f a ++ rowD f c := List.map_append
theorem rep_oth {H : Hp} {f : Nat → Int} {v : V} {l : List Nat} {ds : List D} (h : Rep H v (.tup (.str l :: ds))) : Rep H v ((Ent.pl (.oth l ds)).d f) := h
theorem oth_ok {m : Nat} {z : Str} {ds : List D} (h : z = "none" ∨ z = "errorclass" ∨ z = "number" ∨ z = "text") (hd : deps ds = 0) : (Ent.pl (.oth (cs z) ds)).ok m := by
  refine ⟨?_, ?_, ?_, hd⟩
  · rw [wRef_e]; rcases h with rfl | rfl | rfl | rfl <;> decide +kernel
  · rw [wHandled_e]; rcases h with rfl | rfl | rfl | rfl <;> decide +kernel
  · rw [wPending_e]; rcases h with rfl | rfl | rfl | rfl <;> decide +kernel
/-- an entry is a tuple that begins with a text -/
theorem ent_head {H : Hp} {f : Nat → Int} {v : V} : ∀ {e : Ent}, Rep H v (e.d f) → ∃ a z vs, v = .ref a ∧ H a = some (.tup (.str z :: vs))
  | .pl (.ref k), r => by cases r with | tup h hl rs => cases rs with | cons r1 r2 => cases r1; exact ⟨_, _, _, rfl, h⟩
  | .pl (.hand k), r => by cases r with | tup h hl rs => cases rs with | cons r1 r2 => cases r1; exact ⟨_, _, _, rfl, h⟩
  | .pl (.oth l ds), r => by cases r with | tup h hl rs => cases rs with | cons r1 r2 => cases r1; exact ⟨_, _, _, rfl, h⟩
  | .pend i e, r => by cases r with | tup h hl rs => cases rs with | cons r1 r2 => cases r1; exact ⟨_, _, _, rfl, h⟩
theorem Stp.free {b a : Addr} {H H' : Hp} (x : Stp b H H') (h : H' a = none) : H a = none := by
  cases e : H a with
  | none => rfl
  | some o =>
    have n := x.b1.ne h
    rw [x.keep a o n e] at h; cases h
theorem Tups.lst {H : Hp} {p : Addr} {vs : List V} {o : HO} (h : H p = some (.lst vs)) : Tups H (upd H p o) := .at h (fun _ z => by cases z)
section
variable {P : Program} {w : World} {K : PySem.W.Frag} {mg : Str → Option Value} {base : Heap}
theorem ok__law_form (T : Txt K w mg) (O : OkD P w K mg base CX0 1 "_law_take" p__law_take spTake) (Ow : OkD P w K mg base CX0 2 "_law_word" p__law_word spWord)
    (Om : OkD P w K mg base CX0 1 "_law_marks" p__law_marks spMarks) (Oe : OkD P w K mg base CX0 6 "_law_entry" p__law_entry spMarked) (Ot : OkD P w K mg base CX0 3 "_law_tag" p__law_tag spTag) : OkD P w K mg base CX0 7 "_law_form" p__law_form spForm := by
  refine T.g__law_form.ok sc__law_form (fun vs H Q E h => ?_) (fun f cdv A outer s H vs Q E hr h => ?_)
  · obtain ⟨b, pl, er, z, m, rfl, _⟩ := h; rfl
  obtain ⟨b, pl, er, z, m, rfl, hb, hp, he, q⟩ := h
  have lim : (1000 : Nat) ≤ sizeLine := by decide
  have two : 2 ≤ sizeLine := by omega
  have one : 1 ≤ sizeLine := by omega
  refine split_at 6 (fun t => ∀ (n : Nat) (y : Option V) (r : Addr) (vs : List V) (es : List Ent) (H1 : Hp) (o : Option V), n ≤ 40 → Stp b H H1 → H r = none → H1 r = some (.lst vs) → Reps H1 vs (rowD ixD es) → (∀ e ∈ es, e.ok m) → es.length = n →
    t { nx := fun _ H' => Q .non H', rt := Q } [some (.ref b), some (.str z), some (.ref pl), some (.ref er), some (.int (n : Nat)), y, some (.ref r), none, none, none, o] H1) ?_ (fun t6 ht6 hg6 => ?_)
  · refine ⟨_, (pss_cons (ps_set (i := 7) sc__law_form.nd rfl (.inl rfl) (pcall Ot hr (pa_cons (pv 0) (pa_cons (pv 1) (pa_cons (pv 4) pa_nil)))))
      (pss_cons (ps_if (pt_cmpR op_eq (pv 1) pe_str (nomark _)) (pss_one (ps_ret (pe_tup (pa_cons (pv 7) (pa_cons (pe_op op_cat (pe_lst (pa_cons (pe_tup (pa_cons pe_str pa_nil)) pa_nil)) (pv 6)) pa_nil))))) pss_nil)
      (pss_cons (ps_if (pt_cmpR op_eq (pv 1) pe_str (nomark _)) (pss_one (ps_ret (pe_tup (pa_cons (pv 7) (pa_cons (pe_op op_cat (pe_lst (pa_cons (pe_tup (pa_cons pe_str (pa_cons pe_str pa_nil))) pa_nil)) (pv 6)) pa_nil))))) pss_nil)
      (pss_cons (ps_if (pt_cmpR op_ne (pv 1) pe_str (nomark _)) (pss_one (ps_ret (pe_tup (pa_cons (pv 7) (pa_cons (pv 6) pa_nil))))) pss_nil)
      (pss_cons (ps_set (i := 8) sc__law_form.nd rfl (.inl rfl) (pcall O hr (pa_cons (pv 0) (pa_cons pe_int pa_nil))))
      (pss_cons (ps_set (i := 9) sc__law_form.nd rfl (.inl rfl) (pe_lst pa_nil))
      (pss_cons (ps_for PassesOwn.never rfl (pi_range1 rfl T.z_range (pa_cons (pv 4) pa_nil)) (pg_name (i := 5) sc__law_form.nd rfl (Or.inl rfl)) (pss_cons (ps_expr (pe_bm PySem.F.plainAttrs_list PySem.F.slot_list_append PySem.F.type_list_append mt_append (pv 9) (pa_cons (pe_tup (pa_cons pe_str (pa_cons (pe_op op_add (pv 8) (pv 5)) pa_nil))) pa_nil)))
      (pss_one (ps_expr (pe_bm PySem.F.plainAttrs_list PySem.F.slot_list_append PySem.F.type_list_append mt_append (pv 9) (pa_cons (pe_ix ix_list (pv 6) (pv 5) (fun _ _ => rfl)) pa_nil))))))
      (pss_one (ps_ret (pe_tup (pa_cons (pv 7) (pa_cons (pv 9) pa_nil)))))))))))), ?_⟩
    intro n y r vs es H1 o hn x1 hr0 hr1 hrs hok hel
    have hvl : vs.length = n := by rw [hrs.len]; unfold rowD; rw [List.length_map]; exact hel
    have nr : r ≠ b := fun z => by obtain ⟨c1, c2, c3, c4, c5, e⟩ := hb; rw [z, e] at hr0; cases hr0
    refine ⟨_, rfl, _, rfl, _, rfl, b, z, n, rfl, x1.b1, by omega, fun tv tag H2 x2 rt hd => ?_⟩
    have h2 := x2.keep _ _ nr hr1
    have hrs := hrs.mono x2.tups
    have X := x1.trans x2
    have fin : ∀ (l : Addr) (ws : List V) (fs : List Ent) (H3 : Hp), Stp b H H3 → Tups H2 H3 → H l = none → H3 l = some (.lst ws) → Reps H3 ws (rowD ixD fs) → (∀ e ∈ fs, e.ok m) → fs.length ≤ 100 → [tv, .ref l].length ≤ sizeLine ∧ ∀ p, H3 p = none → Q (.ref p) (upd H3 p (.tup [tv, .ref l])) := fun l ws fs H3 x3 t3 f3 h3 r3 o3 l3 =>
      ⟨two, fun p hp => q p tv l tag fs ws _ (x3.new hp) upd_same (rt.mono (t3.trans (.new hp))) hd f3 (by rw [upd_ne (ne_of_none h3 hp)]; exact h3) (r3.mono (.new hp)) o3 l3⟩
    have cat : ∀ (us : List V) (e : Ent) (p0 : Addr), H2 p0 = none → Rep (upd H2 p0 (.tup us)) (.ref p0) (e.d ixD) → e.ok m → ∀ l0, upd H2 p0 (.tup us) l0 = none →
        ∃ xs zs, upd (upd H2 p0 (.tup us)) l0 (.lst [.ref p0]) l0 = some (.lst xs) ∧ upd (upd H2 p0 (.tup us)) l0 (.lst [.ref p0]) r = some (.lst zs) ∧ xs.length + zs.length ≤ sizeLine ∧ ∀ l1, upd (upd H2 p0 (.tup us)) l0 (.lst [.ref p0]) l1 = none →
          [tv, .ref l1].length ≤ sizeLine ∧ ∀ p, upd (upd (upd H2 p0 (.tup us)) l0 (.lst [.ref p0])) l1 (.lst (xs ++ zs)) p = none → Q (.ref p) (upd (upd (upd (upd H2 p0 (.tup us)) l0 (.lst [.ref p0])) l1 (.lst (xs ++ zs))) p (.tup [tv, .ref l1])) := fun us e p0 hp0 re oe l0 hl0 => by
      have a1 := X.new (o := HO.tup us) hp0
      have a2 := a1.new (o := HO.lst [.ref p0]) hl0
      have k1 : upd H2 p0 (.tup us) r = some (.lst vs) := by rw [upd_ne (ne_of_none h2 hp0)]; exact h2
      refine ⟨_, _, upd_same, by rw [upd_ne (ne_of_none k1 hl0)]; exact k1, by show 1 + vs.length ≤ _; omega, fun l1 hl1 => ?_⟩
      have t1 := Tups.new (o := HO.tup us) hp0
      have t2 := Tups.new (o := HO.lst [V.ref p0]) hl0
      have t3 := Tups.new (o := HO.lst ([V.ref p0] ++ vs)) hl1
      refine fin l1 ([.ref p0] ++ vs) (e :: es) _ (a2.new hl1) (t1.trans (t2.trans t3)) (a2.free hl1) upd_same (.cons (re.mono (t2.trans t3)) (hrs.mono (t1.trans (t2.trans t3)))) (fun x hx => ?_) (by simp [hel]; omega)
      rcases List.mem_cons.mp hx with rfl | hx
      · exact oe
      · exact hok x hx
    refine ⟨_, rfl, rfl, _, rfl, ite2 (fun _ => ?_) (fun _ => ?_)⟩
    · refine ⟨_, rfl, one, fun p0 hp0 => ⟨one, fun l0 hl0 => ⟨_, rfl, ?_⟩⟩⟩
      obtain ⟨xs, zs, a1, a2, a3, a4⟩ := cat [.str (Str.ofString "none")] (.pl (.oth (cs (Str.ofString "none")) [])) p0 hp0 (rep_oth (Rep.one upd_same (Rep.sv _))) (oth_ok (.inl rfl) (by unfold deps; rfl)) l0 hl0
      exact ⟨l0, r, xs, zs, rfl, rfl, a1, a2, a3, a4⟩
    refine ⟨_, rfl, rfl, _, rfl, ite2 (fun _ => ?_) (fun _ => ?_)⟩
    · refine ⟨_, rfl, two, fun p0 hp0 => ⟨one, fun l0 hl0 => ⟨_, rfl, ?_⟩⟩⟩
      obtain ⟨xs, zs, a1, a2, a3, a4⟩ := cat [.str (Str.ofString "errorclass"), .str (Str.ofString "ValueError")] (.pl (.oth (cs (Str.ofString "errorclass")) [.str (cs (Str.ofString "ValueError"))])) p0 hp0 (rep_oth (Rep.two upd_same (Rep.sv _) (Rep.sv _))) (oth_ok (.inr (.inl rfl)) (by rw [deps1]; unfold dep; rfl)) l0 hl0
      exact ⟨l0, r, xs, zs, rfl, rfl, a1, a2, a3, a4⟩
    refine ⟨_, rfl, rfl, _, rfl, ite2 (fun _ => ?_) (fun _ => ?_)⟩
    · exact ⟨_, rfl, _, rfl, fin r vs es H2 X .refl hr0 h2 hrs hok (by omega)⟩
    refine ⟨_, rfl, b, 9, rfl, x2.b1, by decide, by decide, fun f0 H3 _ _ x3 => ⟨Nat.zero_le _, fun D1 hD1 => ?_⟩⟩
    have nD : D1 ≠ b := x3.b1.ne hD1
    have X3 := X.trans x3
    have h3 := x3.keep _ _ nr h2
    have nDr : r ≠ D1 := ne_of_none h3 hD1
    refine ⟨_, rfl, n, rfl, by omega, by omega, ?_⟩
    refine for_range (lo := 0) (n := n) (fun i σ H' => ∃ y, σ = [some (.ref b), some (.str z), some (.ref pl), some (.ref er), some (.int (n : Nat)), y, some (.ref r), some tv, some (.int f0), some (.ref D1), o] ∧ Stp b H3 H' ∧ ∃ ws fs, H' D1 = some (.lst ws) ∧ Reps H' ws (rowD ixD fs) ∧ (∀ e ∈ fs, e.ok m) ∧ fs.length = 2 * i) ⟨y, rfl, (Stp.refl x3.b1).new hD1, [], [], upd_same, .nil, (fun _ h => by cases h), rfl⟩ ?_ ?_
    · rintro i σ H4 hi ⟨y, rfl, x4, ws, fs, h4, r4, o4, l4⟩
      have wl : ws.length = 2 * i := by rw [r4.len]; unfold rowD; rw [List.length_map]; exact l4
      refine ⟨_, rfl, .inl ⟨rfl, _, SqL.of h4⟩, _, rfl, _, rfl, _, _, rfl, rfl, two, fun p5 hp5 => ?_⟩
      have h5 : upd H4 p5 (.tup [.str (Str.ofString "number"), .int (f0 + (0 + (i : Int)))]) D1 = some (.lst ws) := by rw [upd_ne (ne_of_none h4 hp5)]; exact h4
      refine ⟨D1, ws, _, rfl, rfl, h5, by omega, ?_⟩
      have x6 := (x4.new (o := HO.tup [.str (Str.ofString "number"), .int (f0 + (0 + (i : Int)))]) hp5).grow (o := HO.lst (ws ++ [.ref p5])) hD1 nD
      have r6 : Reps (upd (upd H4 p5 (.tup [.str (Str.ofString "number"), .int (f0 + (0 + (i : Int)))])) D1 (.lst (ws ++ [.ref p5]))) (ws ++ [.ref p5]) (rowD ixD (fs ++ [.pl (.oth (cs (Str.ofString "number")) [.int (f0 + (0 + (i : Int)))])])) := by
        rw [rowD_app]
        exact (r4.mono ((Tups.new hp5).trans (.lst h5))).app (.one (Rep.mono (.lst h5) (rep_oth (Rep.two upd_same (Rep.sv _) (.int _)))))
      obtain ⟨v, hv, rv⟩ := hrs.at (i := i) (d := es[i].d ixD) (by unfold rowD; rw [List.getElem?_map, List.getElem?_eq_getElem (by omega)]; rfl)
      have h6 := x6.keep _ _ nr h3
      refine ⟨_, rfl, .inl ⟨rfl, _, SqL.of upd_same⟩, _, rfl, _, rfl, r, _, _, v, rfl, rfl, SqL.of h6, by rw [Int.zero_add]; exact atI_nat hv, ?_⟩
      refine ⟨D1, _, _, rfl, rfl, upd_same, by rw [List.length_append, wl]; show 2 * i + 1 < _; omega, ?_⟩
      rw [upd_upd]
      refine ⟨_, rfl, (x4.new (o := HO.tup [.str (Str.ofString "number"), .int (f0 + (0 + (i : Int)))]) hp5).grow hD1 nD, _, (fs ++ [.pl (.oth (cs (Str.ofString "number")) [.int (f0 + (0 + (i : Int)))])]) ++ [es[i]], upd_same, ?_, ?_, by simp [l4]; omega⟩
      · have t7 : Tups (upd (upd H4 p5 (.tup [.str (Str.ofString "number"), .int (f0 + (0 + (i : Int)))])) D1 (.lst (ws ++ [.ref p5]))) (upd (upd H4 p5 (.tup [.str (Str.ofString "number"), .int (f0 + (0 + (i : Int)))])) D1 (.lst (ws ++ [.ref p5] ++ [v]))) := fun a us e => by
          have na : a ≠ D1 := fun z => by rw [z, upd_same] at e; cases e
          rw [upd_ne na] at e ⊢; exact e
        rw [rowD_app]
        exact (r6.mono t7).app (.one (rv.mono (x3.tups.trans ((x6.tups).trans t7))))
      · intro e he
        rcases List.mem_append.mp he with h | h
        · rcases List.mem_append.mp h with h | h
          · exact o4 e h
          · rw [List.mem_singleton.mp h]; exact oth_ok (.inr (.inr (.inl rfl))) (by rw [deps1]; unfold dep; rfl)
        · rw [List.mem_singleton.mp h]; exact hok _ (List.getElem_mem _)
    · rintro σ H4 ⟨y, rfl, x4, ws, fs, h4, r4, o4, l4⟩
      exact ⟨_, rfl, _, rfl, fin D1 ws fs H4 (X3.trans x4) ((x3.trans x4).tups) (X3.free hD1) h4 r4 o4 (by omega)⟩
  · refine split_at 4 (fun t => ∀ (n : Nat) (H1 : Hp), n ≤ 40 → Stp b H H1 → t { nx := fun _ H' => Q .non H', rt := Q } [some (.ref b), some (.str z), some (.ref pl), some (.ref er), some (.int (n : Nat)), none, none, none, none, none, none] H1) ?_ (fun t4 ht4 hg4 => ?_)
    · refine ⟨_, pss_cons (ps_setLc (i := 6) (own := [("k", 5)]) (g := gName 5) (tt := tYes) rfl sc__law_form.nd rfl rfl rfl (pi_range1 rfl T.z_range (pa_cons (pv 4) pa_nil)) (blkOk_by (own := [("k", 5)]) (N := n__law_form) (sc := defScope s__law_form) (by decide +kernel)) (fun _ _ _ _ _ => (pg_name (i := 5) sc__law_form.nd rfl (Or.inl rfl))) (fun _ _ _ _ _ => pts_nil) (fun _ _ _ _ _ => (pcall Oe hr (pa_cons (pv 0) (pa_cons (pv 2) (pa_cons (pv 3) (pa_cons (pcall Om hr (pa_cons (pv 1) pa_nil)) pa_nil)))))))
        (pss_cons (ps_if (pt_cmpR op_in_seq (pv 1) (pe_tup (pa_cons pe_str (pa_cons pe_str pa_nil))) (by rfl)) (pss_one (ps_setLc (i := 6) (own := [("entry", 10)]) (g := gName 10) (tt := tYes) rfl sc__law_form.nd rfl rfl rfl (pi_list (pv 6)) (blkOk_by (own := [("entry", 10)]) (N := n__law_form) (sc := defScope s__law_form) (by decide +kernel)) (fun _ _ _ _ _ => (pg_name (i := 10) sc__law_form.nd rfl (Or.inl rfl))) (fun _ _ _ _ _ => pts_nil) (fun _ _ _ _ _ => (pe_ifExp (pt_cmpR op_eq (pe_ix (show IxR _ (rIxT K) from ix_tup) (pv 10) pe_int (fun _ _ => rfl)) pe_str (nomark _)) (pv 10) (pe_tup (pa_cons pe_str (pa_cons (pcall Ow hr (pa_cons (pv 0) pa_nil)) pa_nil))))))) pss_nil) ht6), ?_⟩
      intro n H1 hn x1
      refine ⟨_, rfl, n, rfl, by omega, by omega, fun D1 hD1 => ?_⟩
      have nD : D1 ≠ b := x1.b1.ne hD1
      refine lc_it walk_range (fun i H' => Stp b H1 H' ∧ ∃ vs es, H' D1 = some (.lst vs) ∧ Reps H' vs (rowD ixD es) ∧ (∀ e ∈ es, e.ok m) ∧ es.length = i) ⟨(Stp.refl x1.b1).new hD1, [], [], upd_same, .nil, (fun _ h => by cases h), rfl⟩ (fun _ _ _ _ => trivial) ?_ ?_
      · rintro i x H3 H4 hi ⟨x3, vs, es, h3, r3, o3, l3⟩ ⟨rfl, rfl⟩
        refine ⟨rfl, iteT (B := True) (iteT ?_)⟩
        have hi' : i < n := by simpa using hi
        refine ⟨_, rfl, _, rfl, _, rfl, _, rfl, z, rfl, fun mk => ⟨b, pl, er, m, mk, rfl, x3.b1, hp.stp (x1.trans x3), he.stp (x1.trans x3), fun v e H5 x5 oe re => ?_⟩⟩
        have h5 := x5.keep _ _ nD h3
        have vl : vs.length = i := by rw [r3.len]; unfold rowD; rw [List.length_map]; exact l3
        refine ⟨_, h5, by omega, (x3.trans x5).grow hD1 nD, vs ++ [v], es ++ [e], upd_same, ?_, ?_, by simp [l3]⟩
        · rw [rowD_app]; exact (r3.mono (x5.tups.trans (.lst h5))).app (.one (re.mono (.lst h5)))
        · intro e' he'
          rcases List.mem_append.mp he' with h | h
          · exact o3 e' h
          · rw [List.mem_singleton.mp h]; exact oe
      rintro H2 ⟨x2, vs, es, h2, r2, o2, l2⟩
      have l2 : es.length = n := by simpa using l2
      have X := x1.trans x2
      have vl : vs.length = n := by rw [r2.len]; unfold rowD; rw [List.length_map]; exact l2
      refine ⟨_, rfl, two, fun p0 hp0 => ⟨p0, _, rfl, .inr (SqT.of upd_same), rfl, rfl, _, rfl, ?_⟩⟩
      have X0 := X.new (o := HO.tup [V.str (Str.ofString "method"), V.str (Str.ofString "iterator")]) hp0
      have t0 := Tups.new (o := HO.tup [V.str (Str.ofString "method"), V.str (Str.ofString "iterator")]) hp0
      have h0 : upd H2 p0 (.tup [V.str (Str.ofString "method"), V.str (Str.ofString "iterator")]) D1 = some (.lst vs) := by rw [upd_ne (ne_of_none h2 hp0)]; exact h2
      generalize upd H2 p0 (.tup [V.str (Str.ofString "method"), V.str (Str.ofString "iterator")]) = H0 at X0 t0 h0
      refine ite2 (fun _ => ?_) (fun _ => hg6 n _ D1 vs es H0 _ hn X0 (x1.free hD1) h0 (r2.mono t0) o2 l2)
      refine ⟨_, rfl, D1, rfl, ⟨vs, SqL.of h0⟩, fun D2 hD2 => ?_⟩
      have nD2 : D2 ≠ b := X0.b1.ne hD2
      have n12 : D1 ≠ D2 := ne_of_none h0 hD2
      refine lc_it (walk_list (xs := vs)) (fun i H' => Stp b H0 H' ∧ ∃ ws fs, H' D2 = some (.lst ws) ∧ Reps H' ws (rowD ixD fs) ∧ (∀ e ∈ fs, e.ok m) ∧ fs.length = i) ⟨(Stp.refl X0.b1).new hD2, [], [], upd_same, .nil, (fun _ h => by cases h), rfl⟩ (fun i H' _ h => SqL.of (h.1.keep _ _ nD h0)) ?_ ?_
      · rintro i x H3 H4 hi ⟨x3, ws, fs, h3, r3, o3, l3⟩ ⟨rfl, hx⟩
        refine ⟨rfl, iteT (B := True) (iteT ?_)⟩
        have wl : ws.length = i := by rw [r3.len]; unfold rowD; rw [List.length_map]; exact l3
        obtain ⟨d, hd, rd⟩ := (r2.mono (t0.trans x3.tups)).get hx
        have hd' : (es.map (Ent.d ixD))[i]? = some d := hd
        rw [List.getElem?_map] at hd'
        obtain ⟨e, hie, rfl⟩ : ∃ e, es[i]? = some e ∧ e.d ixD = d := by
          cases h : es[i]? with
          | none => rw [h] at hd'; cases hd'
          | some e => rw [h] at hd'; exact ⟨e, rfl, Option.some.inj hd'⟩
        have oe := o2 e (List.mem_of_getElem? hie)
        obtain ⟨a, z1, us, rfl, ha⟩ := ent_head rd
        have snoc : ∀ (H5 : Hp) (v : V) (e' : Ent), Stp b H4 H5 → e'.ok m → Rep H5 v (e'.d ixD) → ∃ acc, H5 D2 = some (.lst acc) ∧ acc.length < sizeLine ∧ (Stp b H0 (upd H5 D2 (.lst (acc ++ [v]))) ∧ ∃ ws fs, upd H5 D2 (.lst (acc ++ [v])) D2 = some (.lst ws) ∧ Reps (upd H5 D2 (.lst (acc ++ [v]))) ws (rowD ixD fs) ∧ (∀ e ∈ fs, e.ok m) ∧ fs.length = i + 1) := fun H5 v e' x5 oe' re' => by
          have h5 := x5.keep _ _ nD2 h3
          refine ⟨_, h5, by omega, (x3.trans x5).grow hD2 nD2, ws ++ [v], fs ++ [e'], upd_same, ?_, ?_, by simp [l3]⟩
          · rw [rowD_app]; exact (r3.mono (x5.tups.trans (.lst h5))).app (.one (re'.mono (.lst h5)))
          · intro e1 he1
            rcases List.mem_append.mp he1 with h | h
            · exact o3 e1 h
            · rw [List.mem_singleton.mp h]; exact oe'
        refine ⟨_, rfl, a, _, 0, .str z1, rfl, rfl, SqT.of ha, (show atI (V.str z1 :: us) ((0 : Nat) : Int) = _ from atI_nat rfl), rfl, _, rfl, ite2 (fun _ => ⟨_, rfl, snoc _ _ e (.refl x3.b1) oe rd⟩) (fun _ => ?_)⟩
        refine ⟨_, rfl, b, rfl, x3.b1, fun l H5 x5 _ => ⟨two, fun p hp => ?_⟩⟩
        exact snoc _ _ (.pl (.oth (cs (Str.ofString "text")) [.str l])) (x5.new hp) (oth_ok (.inr (.inr (.inr rfl))) (by rw [deps1]; unfold dep; rfl)) (rep_oth (Rep.two upd_same (Rep.sv _) (.str l)))
      · rintro H3 ⟨x3, ws, fs, h3, r3, o3, l3⟩
        exact hg6 n _ D2 ws fs H3 _ hn (X0.trans x3) (X0.free hD2) h3 r3 o3 (by rw [l3]; exact vl)
    · -- behind the third if
      have g4 : ∀ (r : Int) (H2 : Hp), 0 ≤ r → r ≤ 40 → Stp b H H2 → t4 { nx := fun _ H' => Q .non H', rt := Q } [some (.ref b), some (.str z), some (.ref pl), some (.ref er), some (.int r), none, none, none, none, none, none] H2 := fun r H2 h0 h1 x2 => by
        obtain ⟨k, rfl⟩ : ∃ k : Nat, r = (k : Int) := ⟨r.toNat, by omega⟩
        exact hg4 k H2 (by omega) x2
      refine split_at 3 (fun t => ∀ (r : Int) (H1 : Hp), 0 ≤ r → r ≤ 40 → Stp b H H1 → t { nx := fun _ H' => Q .non H', rt := Q } [some (.ref b), some (.str z), some (.ref pl), some (.ref er), some (.int r), none, none, none, none, none, none] H1)
        ⟨_, pss_cons (ps_if (pt_cmpR op_eq (pv 1) pe_str (nomark _)) (pss_one (ps_set (i := 4) sc__law_form.nd rfl (.inl rfl) (pe_op op_add pe_int (pe_op op_mod (pe_callTy call_int1 (by rfl) T.z_int PyProof.Rows.boot_int (pa_cons (pv 4) pa_nil)) pe_int)))) pss_nil) ht4, fun r H2 h0 h1 x2 => ?_⟩ (fun t3 ht3 hg3 => ?_)
      · refine ⟨_, rfl, rfl, _, rfl, ite2 (fun _ => ?_) (fun _ => g4 r H2 h0 h1 x2)⟩
        refine ⟨_, rfl, .inl ⟨_, rfl, _, _, rfl, rfl, (by show (0 : Int) < _; decide), _, _, rfl, rfl, ?_⟩⟩
        have e0 := Int.emod_nonneg r (show (2 : Int) ≠ 0 by decide)
        have e1 := Int.emod_lt_of_pos r (show (0 : Int) < 2 by decide)
        exact g4 _ H2 (by omega) (by omega) x2
      refine split_at 2 (fun t => ∀ (r : Int) (H1 : Hp), 0 ≤ r → r ≤ 40 → Stp b H H1 → t { nx := fun _ H' => Q .non H', rt := Q } [some (.ref b), some (.str z), some (.ref pl), some (.ref er), some (.int r), none, none, none, none, none, none] H1)
        ⟨_, pss_cons (ps_if (PW.pt (pw_or (pt_cmpR op_eq (pv 1) pe_str (nomark _)) (pw_or1 (pt_cmpR op_eq (pv 1) pe_str (nomark _))))) (pss_one (ps_set (i := 4) sc__law_form.nd rfl (.inl rfl) pe_int)) pss_nil) ht3, fun r H2 h0 h1 x2 => ?_⟩ (fun t2 ht2 hg2 => ?_)
      · refine ⟨_, rfl, rfl, _, rfl, ite2 (fun _ => iteT (hg3 1 H2 (by omega) (by omega) x2)) (fun _ => ?_)⟩
        exact ⟨_, rfl, rfl, _, rfl, ite2 (fun _ => hg3 1 H2 (by omega) (by omega) x2) (fun _ => hg3 r H2 h0 h1 x2)⟩
      refine ⟨_, pss_cons (ps_set (i := 4) sc__law_form.nd rfl (.inl rfl) (pcall O hr (pa_cons (pv 0) (pa_cons pe_int pa_nil))))
        (pss_cons (ps_if (pt_cmpR op_eq (pcall O hr (pa_cons (pv 0) (pa_cons pe_int pa_nil))) pe_int (nomark _)) (pss_one (ps_set (i := 4) sc__law_form.nd rfl (.inl rfl) (pe_op op_add pe_int (pcall O hr (pa_cons (pv 0) (pa_cons pe_int pa_nil)))))) pss_nil) ht2), ?_⟩
      refine ⟨_, rfl, b, 5, rfl, hb, by decide, by decide, fun r1 H1 r10 r11 x1 => ?_⟩
      refine ⟨_, rfl, b, 12, rfl, x1.b1, by decide, by decide, fun r2 H2 _ _ x2 => ⟨rfl, _, rfl, ite2 (fun _ => ?_) (fun _ => hg2 r1 H2 r10 (by omega) (x1.trans x2))⟩⟩
      refine ⟨_, rfl, b, 30, rfl, x2.b1, by decide, by decide, fun r3 H3 r30 r31 x3 => ⟨_, _, rfl, rfl, ?_⟩⟩
      exact hg2 (9 + r3) H3 (by omega) (by omega) (x1.trans (x2.trans x3))
end
end D0
namespace D0
open PySem PySem.Spec PyProof.Rows L2 SX NumText
def nats (ks : List Nat) : List V := ks.map fun k => V.int (k : Nat)
theorem nats_app (a c : List Nat) : nats (a ++ c) = nats a ++ nats c := List.map_append
theorem rg2 {L : Nat} (h : L ≤ 200) : RgC 1 (L : Int) 2 (L / 2) := by
  have z : ∀ k : Fin 201, RgC 1 (k.1 : Int) 2 (k.1 / 2) := by unfold RgC; decide +kernel
  exact z ⟨L, by omega⟩
def tbL (st m : Nat) : List V := (List.range m).map fun k => V.int (tb st k)
theorem tbL_at {st m k : Nat} (h : k < m) : (tbL st m)[k]? = some (.int (tb st k)) := by unfold tbL; rw [List.getElem?_map, List.getElem?_range h]; rfl
theorem tbL_len (st m : Nat) : (tbL st m).length = m := by unfold tbL; rw [List.length_map, List.length_range]
theorem eR : Str.ofString "ref" = S wRef := by rw [wRef_e]; exact S_cs _
theorem eH : Str.ofString "handled" = S wHandled := by rw [wHandled_e]; exact S_cs _
theorem eP : Str.ofString "pending" = S wPending := by rw [wPending_e]; exact S_cs _
theorem n_rh : wRef ≠ wHandled ∧ wRef ≠ wPending ∧ wHandled ≠ wPending ∧ wHandled ≠ wRef ∧ wPending ≠ wRef ∧ wPending ≠ wHandled := by decide
def MI : List V := [V.str (Str.ofString "method"), V.str (Str.ofString "iterator")]
def CI : List V := [V.str (Str.ofString "class"), V.str (Str.ofString "instance")]
def i0 (z : Str) : Nat := if inV (.str z) CI = true then 1 else 0
/-- the free places of a node -/
def frees (z : Str) (n : Nat) : List Nat := if inV (.str z) MI = true then [] else if decide (V.str z = V.str (Str.ofString "dict")) = true then (List.range (n / 2)).map (fun i => 1 + i * 2) else (List.range (n - i0 z)).map (fun i => i0 z + i)
theorem i0_le (z : Str) : i0 z ≤ 1 := by unfold i0; split <;> omega
theorem frees_lt {z : Str} {n k : Nat} (h : k ∈ frees z n) : k < n := by
  unfold frees at h
  split at h
  · cases h
  · split at h
    · obtain ⟨i, hi, rfl⟩ := List.mem_map.mp h
      have := List.mem_range.mp hi; omega
    · obtain ⟨i, hi, rfl⟩ := List.mem_map.mp h
      have := List.mem_range.mp hi; omega
theorem frees_len (z : Str) (n : Nat) : (frees z n).length ≤ n := by
  unfold frees
  split
  · exact Nat.zero_le _
  · split
    · rw [List.length_map, List.length_range]; omega
    · rw [List.length_map, List.length_range]; omega
def spFree : Sp := fun vs H Q _ => ∃ (a : Addr) (z : Str) (tv : V) (r : Addr) (ws : List V), vs = [.ref a] ∧ H a = some (.lst [.str z, tv, .ref r]) ∧ H r = some (.lst ws) ∧ ws.length ≤ 200 ∧
  ∀ p H', Same H H' → H p = none → H' p = some (.lst (nats (frees z ws.length))) → Q (.ref p) H'
def spErrors : Sp := fun vs H Q _ => ∃ (nb : Addr) (as : List Addr), vs = [.ref nb] ∧ H nb = some (.lst (as.map V.ref)) ∧ (∀ a ∈ as, ∃ z t, H a = some (.lst (.str z :: t))) ∧ as.length ≤ 1000 ∧
  ∀ p ks H', Same H H' → H p = none → H' p = some (.lst (nats ks)) → (∀ k ∈ ks, k < as.length) → ks.length ≤ 1000 → Q (.ref p) H'
def spTable : Sp := fun vs H Q _ => ∃ (m st : Nat), vs = [.int m, .int st] ∧ 1 ≤ st ∧ st ≤ 2 ∧ m ≤ 1000 ∧ ∀ p H', Same H H' → H p = none → H' p = some (.lst (tbL st m)) → Q (.ref p) H'
def spMoved0 (st m : Nat) : Sp := fun vs H Q _ => ∃ (v : V) (t : Addr) (e : En), vs = [v, .ref t] ∧ Rep H v (e.d ixD) ∧ e.ok m ∧ H t = some (.lst (tbL st m)) ∧ ∀ v' H', Same H H' → Rep H' v' (e.d (tb st)) → Q v' H'
def spMoved (st m : Nat) : Sp := fun vs H Q _ => ∃ (v : V) (t : Addr) (e : Ent), vs = [v, .ref t] ∧ Rep H v (e.d ixD) ∧ e.ok m ∧ H t = some (.lst (tbL st m)) ∧ ∀ v' H', Same H H' → Rep H' v' (e.d (tb st)) → Q v' H'
def spSent (st m : Nat) : Sp := fun vs H Q _ => ∃ (a t : Addr) (ws : List V) (es : List Ent), vs = [.ref a, .ref t] ∧ H a = some (.lst ws) ∧ Reps H ws (rowD ixD es) ∧ (∀ e ∈ es, e.ok m) ∧ es.length ≤ 100 ∧ H t = some (.lst (tbL st m)) ∧
  ∀ p us H', Same H H' → H p = none → H' p = some (.lst us) → Reps H' us (rowD (tb st) es) → Q (.ref p) H'
theorem same_grow {H H1 : Hp} (s : Same H H1) {p : Addr} {o : HO} (h : H p = none) : Same H (upd H1 p o) := fun a u e => by rw [upd_ne (ne_of_none e h)]; exact s a u e
theorem rep_two_inv {H : Hp} {v : V} {l : List Nat} {i : Int} (r : Rep H v (.tup [.str l, .int i])) : ∃ a, v = .ref a ∧ H a = some (.tup [.str (S l), .int i]) := by
  cases r with | tup h hl rs => cases rs with | cons r1 r2 => cases r2 with | cons r2 r3 => cases r1; cases r2; cases r3; exact ⟨_, rfl, h⟩
theorem rep_cons_inv {H : Hp} {v : V} {l : List Nat} {ds : List D} (r : Rep H v (.tup (.str l :: ds))) : ∃ a us, v = .ref a ∧ H a = some (.tup (.str (S l) :: us)) ∧ Reps H us ds := by
  cases r with | tup h hl rs => cases rs with | cons r1 r2 => cases r1; exact ⟨_, _, rfl, h, r2⟩
theorem rep_pend_inv {H : Hp} {v : V} {l : List Nat} {i : Int} {d : D} (r : Rep H v (.tup [.str l, .int i, d])) : ∃ a u, v = .ref a ∧ H a = some (.tup [.str (S l), .int i, u]) ∧ Rep H u d := by
  cases r with | tup h hl rs => cases rs with | cons r1 r2 => cases r2 with | cons r2 r3 => cases r3 with | cons r3 r4 => cases r1; cases r2; cases r4; exact ⟨_, _, rfl, h, r3⟩
section
variable {P : Program} {w : World} {K : PySem.W.Frag} {mg : Str → Option Value} {base : Heap}
theorem Gv.none {CX : CXT} {k : Nat} {x : Str} {st : Stmt} {ps : List Str} {sp : Sp} (G : Gv K mg x st ps) (h : ∀ vs H Q E, ¬ sp vs H Q E) : OkD P w K mg base CX k x ps sp := by
  obtain ⟨f, fd, F, hm, hb⟩ := G
  exact ⟨f, fd, hm, F.kp, hb, F.lk, ⟨fun vs H Q E z => absurd z (h vs H Q E), fun A outer s H args us vs Q E _ _ _ _ z => absurd z (h vs H Q E)⟩⟩
theorem ok__law_free (T : Txt K w mg) : OkD P w K mg base CX0 1 "_law_free" p__law_free spFree := by
  refine T.g__law_free.ok sc__law_free (fun vs H Q E h => ?_) (fun f cdv A outer s H vs Q E hr h => ?_)
  · obtain ⟨a, z, tv, r, ws, rfl, _⟩ := h; rfl
  obtain ⟨a, z, tv, r, ws, rfl, ha, hw, hl, q⟩ := h
  refine ⟨_, (pss_cons (ps_if (pt_cmpR op_in_seq (pe_ix ix_list (pv 0) pe_int (fun _ _ => rfl)) (pe_tup (pa_cons pe_str (pa_cons pe_str pa_nil))) (by rfl)) (pss_one (ps_ret (pe_lst pa_nil))) pss_nil)
      (pss_cons (ps_if (pt_cmpR op_eq (pe_ix ix_list (pv 0) pe_int (fun _ _ => rfl)) pe_str (nomark _)) (pss_one (ps_ret (pe_lc (own := [("k", 1)]) (g := gName 1) (tt := tYes) rfl sc__law_free.nd (pi_range3 rfl T.z_range (pa_cons pe_int (pa_cons (pe_callB call_len_seq (by rfl) T.z_len PySem.boot_len (pa_cons (pe_ix ix_list (pv 0) pe_int (fun _ _ => rfl)) pa_nil)) (pa_cons pe_int pa_nil)))) (blkOk_by (own := [("k", 1)]) (N := n__law_free) (sc := defScope s__law_free) (by decide +kernel)) (fun _ _ _ _ _ => (pg_name (i := 1) sc__law_free.nd rfl (Or.inl rfl))) (fun _ _ _ _ _ => pts_nil) (fun _ _ _ _ _ => (pv 1))))) pss_nil)
      (pss_one (ps_ret (pe_lc (own := [("k", 1)]) (g := gName 1) (tt := tYes) rfl sc__law_free.nd (pi_range2 rfl T.z_range (pa_cons (pe_callTy call_int1 (by rfl) T.z_int PyProof.Rows.boot_int (pa_cons (pe_cmpR op_in_seq (pe_ix ix_list (pv 0) pe_int (fun _ _ => rfl)) (pe_tup (pa_cons pe_str (pa_cons pe_str pa_nil))) (by rfl)) pa_nil)) (pa_cons (pe_callB call_len_seq (by rfl) T.z_len PySem.boot_len (pa_cons (pe_ix ix_list (pv 0) pe_int (fun _ _ => rfl)) pa_nil)) pa_nil))) (blkOk_by (own := [("k", 1)]) (N := n__law_free) (sc := defScope s__law_free) (by decide +kernel)) (fun _ _ _ _ _ => (pg_name (i := 1) sc__law_free.nd rfl (Or.inl rfl))) (fun _ _ _ _ _ => pts_nil) (fun _ _ _ _ _ => (pv 1))))))), ?_⟩
  have lim : (1000 : Nat) ≤ sizeLine := by decide
  have two : 2 ≤ sizeLine := by omega
  refine ⟨_, rfl, a, _, 0, _, rfl, rfl, SqL.of ha, rfl, two, fun p0 hp0 => ⟨p0, _, rfl, .inr (SqT.of upd_same), rfl, rfl, _, rfl, ?_⟩⟩
  have s0 := same_new hp0 (.tup [.str (Str.ofString "method"), .str (Str.ofString "iterator")])
  refine ite2 (fun c => ⟨Nat.zero_le _, fun p hp => q p _ (s0.trans (same_new hp _)) (s0.free hp) (by rw [upd_same]; unfold frees; rw [if_pos (show inV (.str z) MI = true from c)]; rfl)⟩) (fun c0 => ?_)
  have c0 : ¬ inV (.str z) MI = true := c0
  refine ⟨_, rfl, a, _, 0, _, rfl, rfl, SqL.of (s0 _ _ ha), rfl, rfl, _, rfl, ite2 (fun c1 => ?_) (fun c1 => ?_)⟩
  · refine ⟨_, rfl, a, _, 2, _, rfl, rfl, SqL.of (s0 _ _ ha), rfl, r, _, rfl, .inl (SqL.of (s0 _ _ hw)), _, _, _, ws.length / 2, rfl, rg2 hl, fun D1 hD1 => ?_⟩
    refine lc_it walk_rangeC (fun i H' => Same H H' ∧ H' D1 = some (.lst (nats ((List.range i).map fun i => 1 + i * 2)))) ⟨s0.trans (same_new hD1 _), upd_same⟩ (fun _ _ _ _ => trivial) ?_ ?_
    · rintro i x H3 H4 hi ⟨s3, h3⟩ ⟨rfl, rfl⟩
      refine ⟨rfl, iteT (B := True) (iteT ?_)⟩
      refine ⟨_, rfl, _, h3, by unfold nats; rw [List.length_map, List.length_map, List.length_range]; omega, same_grow s3 (s0.free hD1), ?_⟩
      rw [upd_same, List.range_succ, List.map_append, nats_app]; rfl
    · rintro H3 ⟨s3, h3⟩
      exact q D1 H3 s3 (s0.free hD1) (by rw [h3]; unfold frees; rw [if_neg c0, if_pos c1])
  · refine ⟨_, rfl, a, _, 0, _, rfl, rfl, SqL.of (s0 _ _ ha), rfl, two, fun p1 hp1 => ⟨p1, _, rfl, .inr (SqT.of upd_same), rfl, rfl, .inr ⟨_, rfl, ?_⟩⟩⟩
    have s1 := s0.trans (same_new hp1 (.tup [.str (Str.ofString "class"), .str (Str.ofString "instance")]))
    refine ⟨_, rfl, a, _, 2, _, rfl, rfl, SqL.of (s1 _ _ ha), rfl, r, _, rfl, .inl (SqL.of (s1 _ _ hw)), ?_⟩
    have e0 : (if (if false = true then !inV (V.str z) [V.str (Str.ofString "class"), V.str (Str.ofString "instance")] else inV (V.str z) [V.str (Str.ofString "class"), V.str (Str.ofString "instance")]) = true then (1 : Int) else 0) = ((i0 z : Nat) : Int) := by
      unfold i0
      show (if inV (V.str z) CI = true then (1 : Int) else 0) = _
      split <;> rfl
    have hi0 := i0_le z
    refine ⟨(i0 z : Int), (ws.length : Int), by rw [← e0], ⟨by omega, by omega, by omega, by omega⟩, fun D1 hD1 => ?_⟩
    refine lc_it walk_range (fun i H' => Same H H' ∧ H' D1 = some (.lst (nats ((List.range i).map fun i => i0 z + i)))) ⟨s1.trans (same_new hD1 _), upd_same⟩ (fun _ _ _ _ => trivial) ?_ ?_
    · rintro i x H3 H4 hi ⟨s3, h3⟩ ⟨rfl, rfl⟩
      refine ⟨rfl, iteT (B := True) (iteT ?_)⟩
      refine ⟨_, rfl, _, h3, by unfold nats; rw [List.length_map, List.length_map, List.length_range]; omega, same_grow s3 (s1.free hD1), ?_⟩
      rw [upd_same, List.range_succ, List.map_append, nats_app]; show some (HO.lst (nats ((List.range i).map fun i => i0 z + i) ++ [V.int ((i0 z : Int) + (i : Int))])) = some (HO.lst (nats ((List.range i).map fun i => i0 z + i) ++ [V.int ((i0 z + i : Nat) : Int)])); rw [show ((i0 z : Int) + (i : Int)) = ((i0 z + i : Nat) : Int) by omega]
    · rintro H3 ⟨s3, h3⟩
      have e : ((ws.length : Int) - (i0 z : Int)).toNat = ws.length - i0 z := by omega
      rw [e] at h3
      exact q D1 H3 s3 (s1.free hD1) (by rw [h3]; unfold frees; rw [if_neg c0, if_neg c1])
theorem ok__law_errors (T : Txt K w mg) : OkD P w K mg base CX0 1 "_law_errors" p__law_errors spErrors := by
  refine T.g__law_errors.ok sc__law_errors (fun vs H Q E h => ?_) (fun f cdv A outer s H vs Q E hr h => ?_)
  · obtain ⟨nb, as, rfl, _⟩ := h; rfl
  obtain ⟨nb, as, rfl, hb, ha, hl, q⟩ := h
  refine ⟨_, (pss_one (ps_ret (pe_lc (own := [("k", 1)]) (g := gName 1) rfl sc__law_errors.nd (pi_range1 rfl T.z_range (pa_cons (pe_callB call_len_seq (by rfl) T.z_len PySem.boot_len (pa_cons (pv 0) pa_nil)) pa_nil)) (blkOk_by (own := [("k", 1)]) (N := n__law_errors) (sc := defScope s__law_errors) (by decide +kernel)) (fun _ _ _ _ _ => (pg_name (i := 1) sc__law_errors.nd rfl (Or.inl rfl))) (fun _ _ _ _ _ => (pts_one (pt_cmpR op_eq (pe_ix (show IxR _ (rIxL K) from ix_list) (pe_ix (show IxR _ (rIxL K) from ix_list) (pv 0) (pv 1) (fun _ _ => rfl)) pe_int (fun _ _ => rfl)) pe_str (nomark _)))) (fun _ _ _ _ _ => (pv 1))))), ?_⟩
  have lim : (1000 : Nat) < sizeLine := by decide
  refine ⟨_, rfl, nb, _, rfl, .inl (SqL.of hb), _, rfl, by rw [List.length_map]; omega, by rw [List.length_map]; omega, fun D1 hD1 => ?_⟩
  rw [List.length_map]
  refine lc_it walk_range (fun i H' => Same H H' ∧ ∃ ks, H' D1 = some (.lst (nats ks)) ∧ (∀ k ∈ ks, k < as.length) ∧ ks.length ≤ i) ⟨same_new hD1 _, [], upd_same, (fun k h => by cases h), Nat.le_refl _⟩ (fun _ _ _ _ => trivial) ?_ ?_
  · rintro i x H3 H4 hi ⟨s3, ks, h3, o3, l3⟩ ⟨rfl, rfl⟩
    have hi' : i < as.length := by simpa using hi
    obtain ⟨z, t, hz⟩ := ha _ (List.getElem_mem hi')
    refine ⟨rfl, ?_⟩
    refine ⟨_, rfl, _, rfl, nb, _, _, .ref as[i], rfl, rfl, SqL.of (s3 _ _ hb), by rw [Int.zero_add]; exact atI_nat (by rw [List.getElem?_map, List.getElem?_eq_getElem hi']; rfl), _, _, 0, .str z, rfl, rfl, SqL.of (s3 _ _ hz), (show atI (V.str z :: t) ((0 : Nat) : Int) = _ from atI_nat rfl), rfl, _, rfl, ite2 (fun _ => ?_) (fun _ => ?_)⟩
    · refine ⟨_, rfl, _, h3, by unfold nats; rw [List.length_map]; omega, same_grow s3 hD1, ks ++ [i], ?_, ?_, by simp; omega⟩
      · rw [upd_same, nats_app]; show some (HO.lst (nats ks ++ [V.int (0 + (i : Int))])) = some (HO.lst (nats ks ++ [V.int (i : Int)])); rw [Int.zero_add]
      · intro k hk
        rcases List.mem_append.mp hk with h | h
        · exact o3 k h
        · rw [List.mem_singleton.mp h]; omega
    · exact ⟨s3, ks, h3, o3, by omega⟩
  · rintro H3 ⟨s3, ks, h3, o3, l3⟩
    have l3 : ks.length ≤ as.length := by simpa using l3
    exact q D1 ks H3 s3 hD1 h3 o3 (by omega)
theorem ok__law_table (T : Txt K w mg) : OkD P w K mg base CX0 1 "_law_table" p__law_table spTable := by
  refine T.g__law_table.ok sc__law_table (fun vs H Q E h => ?_) (fun f cdv A outer s H vs Q E hr h => ?_)
  · obtain ⟨m, st, rfl, _⟩ := h; rfl
  obtain ⟨m, st, rfl, h1, h2, hm, q⟩ := h
  refine ⟨_, (pss_one (ps_ret (pe_lc (own := [("k", 2)]) (g := gName 2) (tt := tYes) rfl sc__law_table.nd (pi_range1 rfl T.z_range (pa_cons (pv 0) pa_nil)) (blkOk_by (own := [("k", 2)]) (N := n__law_table) (sc := defScope s__law_table) (by decide +kernel)) (fun _ _ _ _ _ => (pg_name (i := 2) sc__law_table.nd rfl (Or.inl rfl))) (fun _ _ _ _ _ => pts_nil) (fun _ _ _ _ _ => (pe_op op_sub (pe_op op_add (pe_op op_mul (pv 1) (pv 2)) (pv 1)) pe_int))))), ?_⟩
  have lim : (1000 : Nat) < sizeLine := by decide
  refine ⟨_, rfl, m, rfl, by omega, by omega, fun D1 hD1 => ?_⟩
  refine lc_it walk_range (fun i H' => Same H H' ∧ H' D1 = some (.lst (tbL st i))) ⟨same_new hD1 _, upd_same⟩ (fun _ _ _ _ => trivial) ?_ ?_
  · rintro i x H3 H4 hi ⟨s3, h3⟩ ⟨rfl, rfl⟩
    have hi' : i < m := by simpa using hi
    refine ⟨rfl, iteT (B := True) (iteT ?_)⟩
    refine ⟨_, rfl, _, rfl, _, _, rfl, rfl, .inl ⟨by omega, by omega⟩, _, rfl, _, _, rfl, rfl, _, _, rfl, rfl, _, h3, by rw [tbL_len]; omega, same_grow s3 hD1, ?_⟩
    rw [upd_same]
    have e : tbL st (i + 1) = tbL st i ++ [V.int ((st : Int) * (0 + (i : Int)) + st - 1)] := by
      unfold tbL tb
      rw [List.range_succ, List.map_append]
      congr 1
      show [V.int _] = [V.int _]
      have : (((st * i + st - 1 : Nat)) : Int) = (st : Int) * (0 + (i : Int)) + st - 1 := by
        rw [Int.zero_add, ← Int.natCast_mul]
        all_goals omega
      rw [this]
    rw [e]
  · rintro H3 ⟨s3, h3⟩
    exact q D1 H3 s3 hD1 (by simpa using h3)
theorem okm0__law_moved (T : Txt K w mg) (st m : Nat) : OkD P w K mg base CX0 1 "_law_moved" p__law_moved (spMoved0 st m) := by
  have O : OkD P w K mg base CX0 0 "_law_moved" p__law_moved (fun _ _ _ _ => False) := T.g__law_moved.none fun _ _ _ _ h => h
  refine T.g__law_moved.ok sc__law_moved (fun vs H Q E h => ?_) (fun f cdv A outer s H vs Q E hr h => ?_)
  · obtain ⟨v, t, e, rfl, _⟩ := h; rfl
  obtain ⟨v, t, e, rfl, rv, oe, ht, q⟩ := h
  refine ⟨_, (pss_cons (ps_if (pt_cmpR op_eq (pe_ix ix_tup (pv 0) pe_int (fun _ _ => rfl)) pe_str (nomark _)) (pss_one (ps_ret (pe_tup (pa_cons pe_str (pa_cons (pe_ix ix_tup (pv 0) pe_int (fun _ _ => rfl)) (pa_cons (pcall O hr (pa_cons (pe_ix ix_tup (pv 0) pe_int (fun _ _ => rfl)) (pa_cons (pv 1) pa_nil))) pa_nil)))))) pss_nil)
      (pss_cons (ps_if (PW.pt (pw_or (pt_cmpR op_eq (pe_ix ix_tup (pv 0) pe_int (fun _ _ => rfl)) pe_str (nomark _)) (pw_or1 (pt_cmpR op_eq (pe_ix ix_tup (pv 0) pe_int (fun _ _ => rfl)) pe_str (nomark _))))) (pss_one (ps_ret (pe_tup (pa_cons (pe_ix ix_tup (pv 0) pe_int (fun _ _ => rfl)) (pa_cons (pe_ix ix_list (pv 1) (pe_ix ix_tup (pv 0) pe_int (fun _ _ => rfl)) (fun _ _ => rfl)) pa_nil))))) pss_nil)
      (pss_one (ps_ret (pv 0))))), ?_⟩
  have two : 2 ≤ sizeLine := by decide
  have dd : ∀ a c : List Nat, decide (V.str (S a) = V.str (S c)) = decide (a = c) := str_dec
  obtain ⟨n1, n2, n3, n4, n5, n6⟩ := n_rh
  cases e with
  | ref k =>
    obtain ⟨a, rfl, h⟩ := rep_two_inv rv
    refine ⟨_, rfl, a, _, 0, .str (S wRef), rfl, rfl, SqT.of h, rfl, rfl, _, rfl, ?_⟩
    rw [eP, dd, decide_eq_false n2]
    refine iteF ⟨_, rfl, a, _, 0, .str (S wRef), rfl, rfl, SqT.of h, rfl, rfl, _, rfl, ?_⟩
    rw [eR, dd, decide_eq_true rfl]
    refine iteT (iteT ?_)
    refine ⟨_, rfl, a, _, 0, .str (S wRef), rfl, rfl, SqT.of h, rfl, _, rfl, _, rfl, a, _, 1, _, rfl, rfl, SqT.of h, rfl, t, _, _, _, rfl, rfl, SqL.of ht, atI_nat (tbL_at oe), two, fun p hp => ?_⟩
    exact q _ _ (same_new hp _) (Rep.two upd_same (.str wRef) (.int _))
  | hand k =>
    obtain ⟨a, rfl, h⟩ := rep_two_inv rv
    refine ⟨_, rfl, a, _, 0, .str (S wHandled), rfl, rfl, SqT.of h, rfl, rfl, _, rfl, ?_⟩
    rw [eP, dd, decide_eq_false n3]
    refine iteF ⟨_, rfl, a, _, 0, .str (S wHandled), rfl, rfl, SqT.of h, rfl, rfl, _, rfl, ?_⟩
    rw [eR, dd, decide_eq_false n4]
    refine iteF ⟨_, rfl, a, _, 0, .str (S wHandled), rfl, rfl, SqT.of h, rfl, rfl, _, rfl, ?_⟩
    rw [eH, dd, decide_eq_true rfl]
    refine iteT ?_
    refine ⟨_, rfl, a, _, 0, .str (S wHandled), rfl, rfl, SqT.of h, rfl, _, rfl, _, rfl, a, _, 1, _, rfl, rfl, SqT.of h, rfl, t, _, _, _, rfl, rfl, SqL.of ht, atI_nat (tbL_at oe), two, fun p hp => ?_⟩
    exact q _ _ (same_new hp _) (Rep.two upd_same (.str wHandled) (.int _))
  | oth l ds =>
    have rv0 := rv
    obtain ⟨o1, o2, o3, o4⟩ := oe
    obtain ⟨a, us, rfl, h, _⟩ := rep_cons_inv rv
    have z0 : atI (V.str (S l) :: us) ((0 : Nat) : Int) = some (.str (S l)) := atI_nat rfl
    refine ⟨_, rfl, a, _, 0, .str (S l), rfl, rfl, SqT.of h, z0, rfl, _, rfl, ?_⟩
    rw [eP, dd, decide_eq_false o3]
    refine iteF ⟨_, rfl, a, _, 0, .str (S l), rfl, rfl, SqT.of h, z0, rfl, _, rfl, ?_⟩
    rw [eR, dd, decide_eq_false o1]
    refine iteF ⟨_, rfl, a, _, 0, .str (S l), rfl, rfl, SqT.of h, z0, rfl, _, rfl, ?_⟩
    rw [eH, dd, decide_eq_false o2]
    exact iteF ⟨_, rfl, q _ _ (.refl _) rv0⟩
end
end D0
namespace D0
open PySem PySem.Spec PyProof.Rows L2 SX NumText
section
variable {P : Program} {w : World} {K : PySem.W.Frag} {mg : Str → Option Value} {base : Heap}
theorem OkD.imp {CX : CXT} {k : Nat} {x : Str} {ps : List Str} {sp sp' : Sp} (O : OkD P w K mg base CX k x ps sp) (h : ∀ vs H Q E, sp' vs H Q E → sp vs H Q E) : OkD P w K mg base CX k x ps sp' := by
  obtain ⟨f, fd, a, b, c, d, F⟩ := O
  exact ⟨f, fd, a, b, c, d, ⟨fun vs H Q E z => F.len vs H Q E (h _ _ _ _ z), fun A outer s H args us vs Q E r e bt vl z => F.run A outer s H args us vs Q E r e bt vl (h _ _ _ _ z)⟩⟩
theorem OkD.or {CX : CXT} {k : Nat} {x : Str} {ps : List Str} {sp sp' : Sp} (O : OkD P w K mg base CX k x ps sp) (O' : OkD P w K mg base CX k x ps sp') : OkD P w K mg base CX k x ps (fun vs H Q E => sp vs H Q E ∨ sp' vs H Q E) := by
  obtain ⟨f, fd, a, b, c, ⟨oc, od, osl, hl⟩, F⟩ := O
  obtain ⟨f', fd', a', b', c', ⟨oc', od', osl', hl'⟩, F'⟩ := O'
  have e : f' = f := Value.ref.inj (Option.some.inj (a'.symm.trans a))
  subst e
  have e2 := Option.some.inj (hl'.symm.trans hl)
  have e3 : fd' = fd := by cases e2; rfl
  subst e3
  refine ⟨f', fd', a, b, c, ⟨oc, od, osl, hl⟩, ⟨fun vs H Q E z => ?_, fun A outer s H args us vs Q E r e bt vl z => ?_⟩⟩
  · rcases z with z | z
    · exact F.len vs H Q E z
    · exact F'.len vs H Q E z
  · rcases z with z | z
    · exact F.run A outer s H args us vs Q E r e bt vl z
    · exact F'.run A outer s H args us vs Q E r e bt vl z
def spMovedP (st m : Nat) : Sp := fun vs H Q _ => ∃ (v : V) (t : Addr) (r : Int) (e : En), vs = [v, .ref t] ∧ Rep H v ((Ent.pend r e).d ixD) ∧ e.ok m ∧ H t = some (.lst (tbL st m)) ∧ ∀ v' H', Same H H' → Rep H' v' ((Ent.pend r e).d (tb st)) → Q v' H'
theorem okmp__law_moved (T : Txt K w mg) (st m : Nat) : OkD P w K mg base CX0 2 "_law_moved" p__law_moved (spMovedP st m) := by
  have O := okm0__law_moved (P := P) (base := base) T st m
  refine T.g__law_moved.ok sc__law_moved (fun vs H Q E h => ?_) (fun f cdv A outer s H vs Q E hr h => ?_)
  · obtain ⟨v, t, r, e, rfl, _⟩ := h; rfl
  obtain ⟨v, t, r, e, rfl, rv, oe, ht, q⟩ := h
  refine ⟨_, (pss_cons (ps_if (pt_cmpR op_eq (pe_ix ix_tup (pv 0) pe_int (fun _ _ => rfl)) pe_str (nomark _)) (pss_one (ps_ret (pe_tup (pa_cons pe_str (pa_cons (pe_ix ix_tup (pv 0) pe_int (fun _ _ => rfl)) (pa_cons (pcall O hr (pa_cons (pe_ix ix_tup (pv 0) pe_int (fun _ _ => rfl)) (pa_cons (pv 1) pa_nil))) pa_nil)))))) pss_nil)
      (pss_cons (ps_if (PW.pt (pw_or (pt_cmpR op_eq (pe_ix ix_tup (pv 0) pe_int (fun _ _ => rfl)) pe_str (nomark _)) (pw_or1 (pt_cmpR op_eq (pe_ix ix_tup (pv 0) pe_int (fun _ _ => rfl)) pe_str (nomark _))))) (pss_one (ps_ret (pe_tup (pa_cons (pe_ix ix_tup (pv 0) pe_int (fun _ _ => rfl)) (pa_cons (pe_ix ix_list (pv 1) (pe_ix ix_tup (pv 0) pe_int (fun _ _ => rfl)) (fun _ _ => rfl)) pa_nil))))) pss_nil)
      (pss_one (ps_ret (pv 0))))), ?_⟩
  obtain ⟨a, u, rfl, h, ru⟩ := rep_pend_inv rv
  refine ⟨_, rfl, a, _, 0, .str (S wPending), rfl, rfl, SqT.of h, rfl, rfl, _, rfl, ?_⟩
  rw [eP, str_dec, decide_eq_true rfl]
  refine iteT ⟨_, rfl, a, _, 1, _, rfl, rfl, SqT.of h, rfl, _, rfl, a, _, 2, _, rfl, rfl, SqT.of h, rfl, _, rfl, u, t, e, rfl, ru, oe, ht, fun v' H1 s1 r1 => ⟨by show 3 ≤ sizeLine; decide, fun p hp => ?_⟩⟩
  exact q _ _ (s1.trans (same_new hp _)) (Rep.three upd_same (.str wPending) (.int r) (r1.mono (.new hp)))
theorem ok__law_moved (T : Txt K w mg) (st m : Nat) : OkD P w K mg base CX0 2 "_law_moved" p__law_moved (spMoved st m) := by
  refine (((okm0__law_moved T st m).mono (by omega)).or (okmp__law_moved T st m)).imp fun vs H Q E h => ?_
  obtain ⟨v, t, e, rfl, rv, oe, ht, q⟩ := h
  cases e with
  | pl e => exact .inl ⟨v, t, e, rfl, rv, oe, ht, q⟩
  | pend r e => exact .inr ⟨v, t, r, e, rfl, rv, oe, ht, q⟩
theorem ok__law_sent (T : Txt K w mg) (st m : Nat) (O : OkD P w K mg base CX0 2 "_law_moved" p__law_moved (spMoved st m)) : OkD P w K mg base CX0 3 "_law_sent" p__law_sent (spSent st m) := by
  refine T.g__law_sent.ok sc__law_sent (fun vs H Q E h => ?_) (fun f cdv A outer s H vs Q E hr h => ?_)
  · obtain ⟨a, t, ws, es, rfl, _⟩ := h; rfl
  obtain ⟨a, t, ws, es, rfl, ha, rw_, oe, hl, ht, q⟩ := h
  refine ⟨_, (pss_one (ps_ret (pe_lc (own := [("entry", 2)]) (g := gName 2) (tt := tYes) rfl sc__law_sent.nd (pi_list (pv 0)) (blkOk_by (own := [("entry", 2)]) (N := n__law_sent) (sc := defScope s__law_sent) (by decide +kernel)) (fun _ _ _ _ _ => (pg_name (i := 2) sc__law_sent.nd rfl (Or.inl rfl))) (fun _ _ _ _ _ => pts_nil) (fun _ _ _ _ _ => (pcall O hr (pa_cons (pv 2) (pa_cons (pv 1) pa_nil))))))), ?_⟩
  have lim : (1000 : Nat) < sizeLine := by decide
  refine ⟨_, rfl, a, rfl, ⟨ws, SqL.of ha⟩, fun D1 hD1 => ?_⟩
  have wl : ws.length = es.length := by rw [rw_.len]; unfold rowD; rw [List.length_map]
  refine lc_it (walk_list (xs := ws)) (fun i H' => Same H H' ∧ ∃ us, H' D1 = some (.lst us) ∧ Reps H' us (rowD (tb st) (es.take i)) ∧ us.length = i) ⟨same_new hD1 _, [], upd_same, .nil, rfl⟩ (fun i H' _ h => SqL.of (h.1 _ _ ha)) ?_ ?_
  · rintro i x H3 H4 hi ⟨s3, us, h3, r3, l3⟩ ⟨rfl, hx⟩
    have hi' : i < es.length := by omega
    obtain ⟨d, hd, rd⟩ := (rw_.mono (.same s3)).get hx
    have hd' : (es.map (Ent.d ixD))[i]? = some d := hd
    rw [List.getElem?_map, List.getElem?_eq_getElem hi'] at hd'
    have hd' : es[i].d ixD = d := Option.some.inj hd'
    subst hd'
    refine ⟨rfl, iteT (B := True) (iteT ?_)⟩
    refine ⟨_, rfl, _, rfl, x, t, es[i], rfl, rd, oe _ (List.getElem_mem hi'), s3 _ _ ht, fun v' H5 s5 r5 => ?_⟩
    have h5 := s5 _ _ h3
    refine ⟨_, h5, by omega, same_grow (s3.trans s5) hD1, us ++ [v'], upd_same, ?_, by simp [l3]⟩
    have e : es.take (i + 1) = es.take i ++ [es[i]] := by rw [List.take_add_one, List.getElem?_eq_getElem hi']; rfl
    rw [e, rowD_app]
    exact (r3.mono ((Tups.same s5).trans (.lst h5))).app (.one (r5.mono (.lst h5)))
  · rintro H3 ⟨s3, us, h3, r3, l3⟩
    rw [wl, List.take_length] at r3
    exact q D1 us H3 s3 hD1 h3 r3
theorem ixN_nat {n j : Nat} (h : j < n) : ixN n (j : Int) = some j := by
  unfold ixN
  simp
  omega
/-- a list (true) or a tuple at a -/
def SeqW (K : PySem.W.Frag) (H : Hp) : Bool → Addr → List V → Prop
  | true, a, vs => H a = some (.lst vs)
  | false, a, vs => SqT K H a vs ∧ TyX K H (.ref a) (.type "tuple")
def SeqSame (K : PySem.W.Frag) (n : Nat) (H : Hp) (v u : V) : Prop := ∃ kd a c us ws ds, v = .ref a ∧ u = .ref c ∧ SeqW K H kd a us ∧ SeqW K H kd c ws ∧ Reps H us ds ∧ Reps H ws ds ∧ us.length ≤ 1000 ∧ deps ds + 1 < n
def spSame (K : PySem.W.Frag) (n : Nat) : Sp := fun vs H Q _ => ∃ (v u : V), vs = [v, u] ∧ Q (.bl true) H ∧ (SeqSame K n H v u ∨ ∃ d, Rep H v d ∧ Rep H u d ∧ dep d < n)
theorem ok__law_same (T : Txt K w mg) : ∀ n : Nat, OkD P w K mg base CX0 (n + 1) "_law_same" p__law_same (spSame K n)
  | 0 => T.g__law_same.none fun vs H Q E h => by
    obtain ⟨v, u, _, _, h⟩ := h
    rcases h with ⟨_, _, _, _, _, _, _, _, _, _, _, _, _, h⟩ | ⟨_, _, _, h⟩ <;> omega
  | n + 1 => by
    have O := ok__law_same T n
    refine T.g__law_same.ok sc__law_same (fun vs H Q E h => ?_) (fun f cdv A outer s H vs Q E hr h => ?_)
    · obtain ⟨v, u, rfl, _⟩ := h; rfl
    obtain ⟨v, u, rfl, q, h⟩ := h
    refine ⟨_, (pss_cons (ps_if (PW.pt (pw_or (pt_val (pe_callB call_isi (by rfl) T.z_isinstance PyProof.Rows.boot_isinstance (pa_cons (pv 1) (pa_cons (pe_bltn (v := .ty "tuple") rfl T.z_tuple PyProof.Rows.boot_tuple rfl) pa_nil)))) (pw_or1 (pt_val (pe_callB call_isi (by rfl) T.z_isinstance PyProof.Rows.boot_isinstance (pa_cons (pv 1) (pa_cons (pe_bltn (v := .ty "list") rfl T.z_list PyProof.Rows.boot_list rfl) pa_nil))))))) (pss_cons (ps_if (PW.pt (pw_and (pt_val (pe_callB call_isi (by rfl) T.z_isinstance PyProof.Rows.boot_isinstance (pa_cons (pv 1) (pa_cons (pe_bltn (v := .ty "list") rfl T.z_list PyProof.Rows.boot_list rfl) pa_nil)))) (pw_and1 (pt_not (pt_val (pe_callB call_isi (by rfl) T.z_isinstance PyProof.Rows.boot_isinstance (pa_cons (pv 0) (pa_cons (pe_bltn (v := .ty "list") rfl T.z_list PyProof.Rows.boot_list rfl) pa_nil)))))))) (pss_one (ps_ret pe_bl)) pss_nil)
      (pss_cons (ps_if (PW.pt (pw_and (pt_val (pe_callB call_isi (by rfl) T.z_isinstance PyProof.Rows.boot_isinstance (pa_cons (pv 1) (pa_cons (pe_bltn (v := .ty "tuple") rfl T.z_tuple PyProof.Rows.boot_tuple rfl) pa_nil)))) (pw_and1 (pt_not (pt_val (pe_callB call_isi (by rfl) T.z_isinstance PyProof.Rows.boot_isinstance (pa_cons (pv 0) (pa_cons (pe_bltn (v := .ty "tuple") rfl T.z_tuple PyProof.Rows.boot_tuple rfl) pa_nil)))))))) (pss_one (ps_ret pe_bl)) pss_nil)
      (pss_cons (ps_if (pt_cmpR op_ne (pe_callB call_len_seq (by rfl) T.z_len PySem.boot_len (pa_cons (pv 0) pa_nil)) (pe_callB call_len_seq (by rfl) T.z_len PySem.boot_len (pa_cons (pv 1) pa_nil)) (nomark _)) (pss_one (ps_ret pe_bl)) pss_nil)
      (pss_cons (ps_for PassesOwn.never rfl (pi_range1 rfl T.z_range (pa_cons (pe_callB call_len_seq (by rfl) T.z_len PySem.boot_len (pa_cons (pv 1) pa_nil)) pa_nil)) (pg_name (i := 2) sc__law_same.nd rfl (Or.inl rfl)) (pss_one (ps_if (pt_not (pt_val (pcall O hr (pa_cons (pe_ix ix_seq (pv 0) (pv 2) (fun _ _ => rfl)) (pa_cons (pe_ix ix_seq (pv 1) (pv 2) (fun _ _ => rfl)) pa_nil))))) (pss_one (ps_ret pe_bl)) pss_nil)))
      (pss_one (ps_ret pe_bl)))))) pss_nil)
      (pss_cons (ps_if (pt_cmpR op_isN (pv 1) pe_non (nomark _)) (pss_one (ps_ret (pe_cmpR op_isN (pv 0) pe_non (nomark _)))) pss_nil)
      (pss_cons (ps_if (pt_val (pe_callB call_isi (by rfl) T.z_isinstance PyProof.Rows.boot_isinstance (pa_cons (pv 1) (pa_cons (pe_bltn (v := .ty "bool") rfl T.z_bool PyProof.Rows.boot_bool rfl) pa_nil)))) (pss_one (ps_ret (pe_and (pe_callB call_isi (by rfl) T.z_isinstance PyProof.Rows.boot_isinstance (pa_cons (pv 0) (pa_cons (pe_bltn (v := .ty "bool") rfl T.z_bool PyProof.Rows.boot_bool rfl) pa_nil))) (pe_one (pe_cmpR op_eq (pv 0) (pv 1) (nomark _)))))) pss_nil)
      (pss_cons (ps_if (pt_val (pe_callB call_isi (by rfl) T.z_isinstance PyProof.Rows.boot_isinstance (pa_cons (pv 1) (pa_cons (pe_bltn (v := .ty "int") rfl T.z_int PyProof.Rows.boot_int rfl) pa_nil)))) (pss_one (ps_ret (pe_and (pe_callB call_isi (by rfl) T.z_isinstance PyProof.Rows.boot_isinstance (pa_cons (pv 0) (pa_cons (pe_bltn (v := .ty "int") rfl T.z_int PyProof.Rows.boot_int rfl) pa_nil))) (pe_and (pe_not (pe_callB call_isi (by rfl) T.z_isinstance PyProof.Rows.boot_isinstance (pa_cons (pv 0) (pa_cons (pe_bltn (v := .ty "bool") rfl T.z_bool PyProof.Rows.boot_bool rfl) pa_nil)))) (pe_one (pe_cmpR op_eq (pv 0) (pv 1) (nomark _))))))) pss_nil)
      (pss_one (ps_ret (pe_and (pe_callB call_isi (by rfl) T.z_isinstance PyProof.Rows.boot_isinstance (pa_cons (pv 0) (pa_cons (pe_bltn (v := .ty "str") rfl T.z_str PyProof.Rows.boot_str rfl) pa_nil))) (pe_one (pe_cmpR op_eq (pv 0) (pv 1) (nomark _)))))))))), ?_⟩
    have seq : SeqSame K (n + 1) H v u ∨ ∃ d, Rep H v d ∧ Rep H u d ∧ isTup d = false := by
      rcases h with h | ⟨d, r1, r2, hd⟩
      · exact .inl h
      · cases r1 with
        | tup h1 l1 rs1 =>
          cases r2 with
          | tup h2 l2 rs2 =>
            rw [dep_tup] at hd
            exact .inl ⟨false, _, _, _, _, _, rfl, rfl, ⟨SqT.of h1, .base (.tup h1)⟩, ⟨SqT.of h2, .base (.tup h2)⟩, rs1, rs2, l1, by omega⟩
        | non => exact .inr ⟨_, .non, r2, rfl⟩
        | bl b => exact .inr ⟨_, .bl b, r2, rfl⟩
        | int i => exact .inr ⟨_, .int i, r2, rfl⟩
        | str l => exact .inr ⟨_, .str l, r2, rfl⟩
    clear h
    have b1 : kitB "list" "tuple" = some false := by decide +kernel
    have b2 : kitB "list" "list" = some true := by decide +kernel
    have b3 : kitB "tuple" "list" = some false := by decide +kernel
    have b4 : kitB "tuple" "tuple" = some true := by decide +kernel
    rcases seq with ⟨kd, a, c, us, ws, ds, rfl, rfl, h1, h2, rs1, rs2, hl, hd⟩ | ⟨d, r1, r2, hd⟩
    · have hlen : us.length = ws.length := by rw [rs1.len, rs2.len]
      obtain ⟨ty, t1, t2, kt, kl, s1, s2⟩ : ∃ ty : String, TyX K H (.ref a) (.type ty) ∧ TyX K H (.ref c) (.type ty) ∧ kitB ty "tuple" = some (!kd) ∧ kitB ty "list" = some kd ∧ (SqL K H a us ∨ SqT K H a us) ∧ (SqL K H c ws ∨ SqT K H c ws) := by
        cases kd with
        | true => exact ⟨"list", .base (.lst h1), .base (.lst h2), b1, b2, .inl (SqL.of h1), .inl (SqL.of h2)⟩
        | false => exact ⟨"tuple", h1.2, h2.2, b4, b3, .inr h1.1, .inr h2.1⟩
      have ixv : ∀ (a : Addr) (us : List V) (i : Nat) (v : V) (R : VK), (SqL K H a us ∨ SqT K H a us) → us[i]? = some v → R v H → rIx K (.ref a) (.int (0 + (i : Int))) H R := fun a us i v R hs hi hR => by
        rcases hs with hs | hs
        · exact .inl ⟨a, us, _, v, rfl, rfl, hs, by rw [Int.zero_add]; exact atI_nat hi, hR⟩
        · exact .inr (.inl ⟨a, us, _, v, rfl, rfl, hs, by rw [Int.zero_add]; exact atI_nat hi, hR⟩)
      refine via2 (fun hB => ⟨_, rfl, _, _, _, _, _, rfl, .ty _, t2, kit_ty kt, _, rfl, ite2 (fun _ => iteT hB) (fun e => ⟨_, rfl, _, _, _, _, _, rfl, .ty _, t2, kit_ty kl, _, rfl, ite2 (fun _ => hB) (fun e2 => absurd e2 (by cases kd <;> simp_all))⟩)⟩) ?_
      refine via2 (fun hB => ⟨_, rfl, _, _, _, _, _, rfl, .ty _, t2, kit_ty kl, _, rfl, ite2 (fun e => ⟨_, rfl, _, _, _, _, _, rfl, .ty _, t1, kit_ty kl, _, rfl, ite2 (fun e2 => absurd e2 (by rw [e]; decide)) (fun _ => hB)⟩) (fun _ => hB)⟩) ?_
      refine via2 (fun hB => ⟨_, rfl, _, _, _, _, _, rfl, .ty _, t2, kit_ty kt, _, rfl, ite2 (fun e => ⟨_, rfl, _, _, _, _, _, rfl, .ty _, t1, kit_ty kt, _, rfl, ite2 (fun e2 => absurd e2 (by rw [e]; decide)) (fun _ => hB)⟩) (fun _ => hB)⟩) ?_
      refine ⟨_, rfl, a, _, rfl, s1, _, rfl, c, _, rfl, s2, rfl, _, rfl, ?_⟩
      rw [hlen]
      refine ite2 (fun c => absurd c (by simp)) (fun _ => ?_)
      refine ⟨_, rfl, c, _, rfl, s2, (ws.length : Int), rfl, by omega, by omega, ?_⟩
      refine for_range (lo := 0) (n := ws.length) (fun i σ H' => ∃ y, σ = [some (.ref a), some (.ref c), y] ∧ H' = H) ⟨none, rfl, rfl⟩ ?_ ?_
      · rintro i σ H' hi ⟨y, rfl, rfl⟩
        have hi1 : i < us.length := by omega
        obtain ⟨d1, e1, x1⟩ := rs1.get (List.getElem?_eq_getElem hi1)
        obtain ⟨d2, e2, x2⟩ := rs2.get (List.getElem?_eq_getElem hi)
        have ed : d1 = d2 := Option.some.inj (e1.symm.trans e2)
        subst ed
        have hdm := deps_mem (Nat.le_refl _) d1 (List.mem_of_getElem? e1)
        refine ⟨_, rfl, _, rfl, ixv a us i _ _ s1 (List.getElem?_eq_getElem hi1) ?_⟩
        refine ⟨_, rfl, _, rfl, ixv c ws i _ _ s2 (List.getElem?_eq_getElem hi) ?_⟩
        exact ⟨_, _, rfl, ⟨_, rfl, iteF ⟨_, rfl, rfl⟩⟩, .inr ⟨d1, x1, x2, by omega⟩⟩
      · rintro σ H' ⟨y, rfl, rfl⟩
        exact q
    · have isi2 := (r2.ty (K := K))
      have isi1 := (r1.ty (K := K))
      refine ⟨_, rfl, _, _, _, _, _, rfl, .ty _, isi2, kit_ty (kit_t d), _, rfl, ?_⟩
      rw [hd]
      refine iteF ⟨_, rfl, _, _, _, _, _, rfl, .ty _, isi2, kit_ty (kit_l d), _, rfl, iteF ?_⟩
      cases r1 with
      | tup h1 rs1 => exact absurd (show true = false from hd) (by decide)
      | non =>
        cases r2
        exact ⟨_, rfl, rfl, _, rfl, iteT ⟨_, rfl, rfl, q⟩⟩
      | bl b =>
        cases r2
        refine ⟨_, rfl, rfl, _, rfl, iteF ?_⟩
        refine ⟨_, rfl, _, _, _, _, _, rfl, .ty _, isi2, kit_ty (kit_b (.bl b)), _, rfl, iteT ?_⟩
        refine ⟨_, rfl, _, _, _, _, _, rfl, .ty _, isi1, kit_ty (kit_b (.bl b)), _, rfl, iteT ⟨_, rfl, _, rfl, rfl, ?_⟩⟩
        rw [decide_eq_true rfl]; exact q
      | int i =>
        cases r2
        refine ⟨_, rfl, rfl, _, rfl, iteF ?_⟩
        refine ⟨_, rfl, _, _, _, _, _, rfl, .ty _, isi2, kit_ty (kit_b (.int i)), _, rfl, iteF ?_⟩
        refine ⟨_, rfl, _, _, _, _, _, rfl, .ty _, isi2, kit_ty (kit_i (.int i)), _, rfl, iteT ?_⟩
        refine ⟨_, rfl, _, _, _, _, _, rfl, .ty _, isi1, kit_ty (kit_i (.int i)), _, rfl, iteT ?_⟩
        refine ⟨_, rfl, _, _, _, _, _, rfl, .ty _, isi1, kit_ty (kit_b (.int i)), _, rfl, _, rfl, iteT ⟨_, rfl, _, rfl, rfl, ?_⟩⟩
        rw [decide_eq_true rfl]; exact q
      | str x =>
        cases r2
        refine ⟨_, rfl, rfl, _, rfl, iteF ?_⟩
        refine ⟨_, rfl, _, _, _, _, _, rfl, .ty _, isi2, kit_ty (kit_b (.str x)), _, rfl, iteF ?_⟩
        refine ⟨_, rfl, _, _, _, _, _, rfl, .ty _, isi2, kit_ty (kit_i (.str x)), _, rfl, iteF ?_⟩
        refine ⟨_, rfl, _, _, _, _, _, rfl, .ty _, isi1, kit_ty (kit_s (.str x)), _, rfl, iteT ⟨_, rfl, _, rfl, rfl, ?_⟩⟩
        rw [decide_eq_true rfl]; exact q
def spSpoil (K : PySem.W.Frag) : Sp := fun vs H Q _ => ∃ (r u : Addr) (us ws : List V) (ds : List D), vs = [.ref r, .ref u] ∧ H r = some (.lst us) ∧ H u = some (.lst ws) ∧ Reps H us ds ∧ Reps H ws ds ∧ us.length ≤ 500 ∧ deps ds ≤ 3 ∧ ∀ H' zs, Chg [r] H H' → H' r = some (.lst zs) → Q (.bl true) H'
theorem ok__law_spoil (T : Txt K w mg) (O : OkD P w K mg base CX0 10 "_law_same" p__law_same (spSame K 9)) : OkD P w K mg base CX0 11 "_law_spoil" p__law_spoil (spSpoil K) := by
  refine T.g__law_spoil.ok sc__law_spoil (fun vs H Q E h => ?_) (fun f cdv A outer s H vs Q E hr h => ?_)
  · obtain ⟨r, u, us, ws, ds, rfl, _⟩ := h; rfl
  obtain ⟨r, u, us, ws, ds, rfl, hu, hw, ru, rw_, hl, hd, q⟩ := h
  refine ⟨_, (pss_cons (ps_if (pt_not (pt_val (pcall O hr (pa_cons (pv 0) (pa_cons (pv 1) pa_nil))))) (pss_one (ps_ret pe_bl)) pss_nil)
      (pss_cons (ps_expr (pe_bm PySem.F.plainAttrs_list PySem.F.slot_list_append PySem.F.type_list_append mt_append (pv 0) (pa_cons (pe_tup (pa_cons pe_str (pa_cons pe_str pa_nil))) pa_nil)))
      (pss_cons (ps_asg (pe_tup (pa_cons pe_str (pa_cons (pe_un un_neg pe_int) pa_nil))) (pg_sub (pv 0) pe_int set_list))
      (pss_one (ps_ret pe_bl))))), ?_⟩
  have two : 2 ≤ sizeLine := by decide
  have lim : (1000 : Nat) < sizeLine := by decide
  refine ⟨_, rfl, _, rfl, _, _, rfl, ⟨_, rfl, iteF ?_⟩, .inl ⟨true, r, u, us, ws, ds, rfl, rfl, hu, hw, ru, rw_, by omega, by omega⟩⟩
  refine ⟨_, rfl, .inl ⟨rfl, _, SqL.of hu⟩, two, fun p hp => ?_⟩
  have h1 : upd H p (.tup [.str (Str.ofString "text"), .str (Str.ofString "spoilt")]) r = some (.lst us) := by rw [upd_ne (ne_of_none hu hp)]; exact hu
  refine ⟨r, us, _, rfl, rfl, h1, by omega, ?_⟩
  have c1 : Chg [r] H (upd (upd H p (.tup [.str (Str.ofString "text"), .str (Str.ofString "spoilt")])) r (.lst (us ++ [.ref p]))) := (Chg.new hp).trans (.upd h1 (fun _ z => by cases z) (List.mem_singleton_self _))
  refine ⟨7, rfl, two, fun p2 hp2 => ?_⟩
  have h2 : upd (upd (upd H p (.tup [.str (Str.ofString "text"), .str (Str.ofString "spoilt")])) r (.lst (us ++ [.ref p]))) p2 (.tup [.str (Str.ofString "number"), .int (-7)]) r = some (.lst (us ++ [.ref p])) := by
    rw [upd_ne (fun z => by rw [← z, upd_same] at hp2; cases hp2), upd_same]
  have c2 := c1.trans (Chg.new (F := [r]) (o := HO.tup [.str (Str.ofString "number"), .int (-7)]) hp2)
  refine ⟨_, rfl, r, _, 0, 0, rfl, rfl, h2, ixN_nat (by rw [List.length_append]; show 0 < _ + 1; omega), ?_⟩
  exact q _ _ (c2.trans (.upd h2 (fun _ z => by cases z) (List.mem_singleton_self _))) upd_same
end
end D0
namespace D0
open PySem PySem.Spec PyProof.Rows L2 SX NumText
theorem hu_of' {k : Nat} {A : Around} (hr : Room k A) : A.units + 1 < cLine := by have := hr.units; omega
def spThing (CT : Addr) : Sp := fun vs H Q _ => ∃ (p dx : Addr) (z tv : V) (s : Addr), vs = [.ref p, z, tv, .ref s] ∧ H p = some (.ins CT dx []) ∧ Q .non (upd H p (.ins CT dx [(fKind, z), (fTag, tv), (fSlots, .ref s), (fAge, .int 0)]))
/-- a reference to the thing k -/
def RefV (H : Hp) (st k : Nat) (v : V) : Prop := ∃ a x, v = .ref a ∧ H a = some (.tup [x, .int (tb st k)])
def spKindOf (K : PySem.W.Frag) (C CT : Addr) (st : Nat) : Sp := fun vs H Q _ => ∃ (B td : Addr) (ths sls : List Addr) (nds : List Nd) (v : V) (k : Nat) (n : Nd), vs = [.ref B, v] ∧ BkA K C CT st H B td ths sls nds ∧ RefV H st k v ∧ nds[k]? = some n ∧ Q (.str (S n.kind)) H
def spTagOf (K : PySem.W.Frag) (C CT : Addr) (st : Nat) : Sp := fun vs H Q _ => ∃ (B td : Addr) (ths sls : List Addr) (nds : List Nd) (v : V) (k : Nat) (n : Nd), vs = [.ref B, v] ∧ BkA K C CT st H B td ths sls nds ∧ RefV H st k v ∧ nds[k]? = some n ∧ ∀ tv, Rep H tv n.tag → Q tv H
def spSlotsOf (K : PySem.W.Frag) (C CT : Addr) (st : Nat) : Sp := fun vs H Q _ => ∃ (B td : Addr) (ths sls : List Addr) (nds : List Nd) (v : V) (k : Nat) (n : Nd), vs = [.ref B, v] ∧ BkA K C CT st H B td ths sls nds ∧ RefV H st k v ∧ nds[k]? = some n ∧
  ∀ p ws, H p = none → Reps H ws (rowD (tb st) n.row) → Q (.ref p) (upd H p (.lst ws))
def spSlot (K : PySem.W.Frag) (C CT : Addr) (st : Nat) : Sp := fun vs H Q _ => ∃ (B td : Addr) (ths sls : List Addr) (nds : List Nd) (v : V) (k i : Nat) (n : Nd) (e : Ent), vs = [.ref B, v, .int i] ∧ BkA K C CT st H B td ths sls nds ∧ RefV H st k v ∧ nds[k]? = some n ∧ n.row[i]? = some e ∧ ∀ u, Rep H u (e.d (tb st)) → Q u H
section
variable {P : Program} {w : World} {K : PySem.W.Frag} {mg : Str → Option Value} {base : Heap} {C CT : Addr} {st : Nat}
theorem ok_Thing___init__ (TT : ThT K mg CT) {f : Addr} {fd : FuncData} (F : Fun K "__init__" "Thing.__init__" s_Thing___init__ f fd) : FnOk P w K mg base CX0 1 f fd p_Thing___init__ (spThing CT) := by
  refine F.ok sc_Thing___init__ (fun vs H Q E h => ?_) (fun cdv A outer s H vs Q E hr h => ?_)
  · obtain ⟨p, dx, z, tv, s, rfl, _⟩ := h; rfl
  obtain ⟨p, dx, z, tv, s, rfl, hp, q⟩ := h
  refine ⟨_, (pss_cons (ps_fld (pv 0) (pv 1) rfl)
      (pss_cons (ps_fld (pv 0) (pv 2) rfl)
      (pss_cons (ps_fld (pv 0) (pv 3) rfl)
      (pss_one (ps_fld (pv 0) pe_int rfl))))), ?_⟩
  have f1 : fKind ≠ fTag ∧ fKind ≠ fSlots ∧ fKind ≠ fAge ∧ fTag ≠ fSlots ∧ fTag ≠ fAge ∧ fSlots ≠ fAge := by decide +kernel
  obtain ⟨n1, n2, n3, n4, n5, n6⟩ := f1
  have e1 : putF fKind z [] = [(fKind, z)] := rfl
  have e2 : putF fTag tv [(fKind, z)] = [(fKind, z), (fTag, tv)] := by simp only [putF, if_neg n1]
  have e3 : putF fSlots (V.ref s) [(fKind, z), (fTag, tv)] = [(fKind, z), (fTag, tv), (fSlots, .ref s)] := by simp only [putF, if_neg n2, if_neg n4]
  have e4 : putF fAge (V.int 0) [(fKind, z), (fTag, tv), (fSlots, .ref s)] = [(fKind, z), (fTag, tv), (fSlots, .ref s), (fAge, .int 0)] := by simp only [putF, if_neg n3, if_neg n5, if_neg n6]
  refine ⟨_, rfl, _, rfl, p, CT, dx, [], rfl, hp, TT.cl, TT.n_kind, (by show 0 < 1000; decide), ?_⟩
  refine ⟨_, rfl, _, rfl, p, CT, dx, _, rfl, upd_same, TT.cl, TT.n_tag, (by show 1 < 1000; decide), ?_⟩
  rw [upd_upd]
  refine ⟨_, rfl, _, rfl, p, CT, dx, _, rfl, upd_same, TT.cl, TT.n_slots, (by show (putF fTag tv [(fKind, z)]).length < 1000; rw [e2]; show 2 < 1000; decide), ?_⟩
  rw [upd_upd]
  refine ⟨_, rfl, p, CT, dx, _, rfl, upd_same, TT.cl, TT.n_age, (by show (putF fSlots (V.ref s) (putF fTag tv [(fKind, z)])).length < 1000; rw [e2, e3]; show 3 < 1000; decide), ?_⟩
  rw [upd_upd]
  show Q .non (upd H p (.ins CT dx (putF fAge (V.int 0) (putF fSlots (V.ref s) (putF fTag tv (putF fKind z []))))))
  rw [e1, e2, e3, e4]; exact q
/-- the thing that a reference tells -/
theorem BkA.look (X : BkA K C CT st H B td ths sls nds) {k : Nat} {n : Nd} (h1 : 1 ≤ st) (hn : nds[k]? = some n) : ∃ dx more t s dx2 tv vs, H B = some (.ins C dx ((fThings, .ref td) :: more)) ∧ DGet H td (.int (tb st k)) (some (.ref t)) ∧ ths[k]? = some t ∧ sls[k]? = some s ∧
    H t = some (.ins CT dx2 (thF n tv s)) ∧ Rep H tv n.tag ∧ H s = some (.lst vs) ∧ Reps H vs (rowD (tb st) n.row) := by
  obtain ⟨t, s, ht, hs⟩ := X.th hn
  obtain ⟨dx, more, hB, _⟩ := X.hB
  obtain ⟨dx2, tv, g, r⟩ := X.hT k t s n ht hs hn
  obtain ⟨vs, g2, r2⟩ := X.hS k s n hs hn
  have := DGet.k (k := Sum.inl (tb st k)) X.hD
  rw [kvF_get h1 ht] at this
  exact ⟨dx, more, t, s, dx2, tv, vs, hB, this, ht, hs, g, r, g2, r2⟩
theorem ok_Store_kind_of (TT : ThT K mg CT) (TB : BkT K C) (h1 : 1 ≤ st) : OkM P w K mg base C CX0 1 "kind_of" p_Store_kind_of (spKindOf K C CT st) := by
  refine TB.g_kind_of.ok sc_Store_kind_of (fun vs H Q E h => ?_) (fun f cdv A outer s H vs Q E hr h => ?_)
  · obtain ⟨B, td, ths, sls, nds, v, k, n, rfl, _⟩ := h; rfl
  obtain ⟨B, td, ths, sls, nds, v, k, n, rfl, X, ⟨a, x, rfl, hv⟩, hn, q⟩ := h
  refine ⟨_, (pss_one (ps_ret (pe_fld (pe_dget (hu_of' hr) (pe_fld (pv 0) rfl) (pe_ix ix_tup (pv 1) pe_int (fun _ _ => rfl)) (fun _ _ => rfl)) rfl))), ?_⟩
  obtain ⟨dx, more, t, s, dx2, tv, vs, hB, hg, ht, hs, g, r, g2, r2⟩ := X.look h1 hn
  refine ⟨_, rfl, B, C, dx, _, .ref td, rfl, hB, TB.cl, TB.n_things, rfl, _, rfl, a, _, 1, _, rfl, rfl, SqT.of hv, rfl, td, _, rfl, hg, ?_⟩
  exact ⟨t, CT, dx2, _, _, rfl, g, TT.cl, TT.n_kind, rfl, q⟩
theorem ok_Store_tag_of (TT : ThT K mg CT) (TB : BkT K C) (h1 : 1 ≤ st) : OkM P w K mg base C CX0 1 "tag_of" p_Store_tag_of (spTagOf K C CT st) := by
  refine TB.g_tag_of.ok sc_Store_tag_of (fun vs H Q E h => ?_) (fun f cdv A outer s H vs Q E hr h => ?_)
  · obtain ⟨B, td, ths, sls, nds, v, k, n, rfl, _⟩ := h; rfl
  obtain ⟨B, td, ths, sls, nds, v, k, n, rfl, X, ⟨a, x, rfl, hv⟩, hn, q⟩ := h
  refine ⟨_, (pss_one (ps_ret (pe_fld (pe_dget (hu_of' hr) (pe_fld (pv 0) rfl) (pe_ix ix_tup (pv 1) pe_int (fun _ _ => rfl)) (fun _ _ => rfl)) rfl))), ?_⟩
  obtain ⟨dx, more, t, s, dx2, tv, vs, hB, hg, ht, hs, g, r, g2, r2⟩ := X.look h1 hn
  refine ⟨_, rfl, B, C, dx, _, .ref td, rfl, hB, TB.cl, TB.n_things, rfl, _, rfl, a, _, 1, _, rfl, rfl, SqT.of hv, rfl, td, _, rfl, hg, ?_⟩
  exact ⟨t, CT, dx2, _, _, rfl, g, TT.cl, TT.n_tag, rfl, q _ r⟩
theorem ok_Store_slots_of (T : Txt K w mg) (TT : ThT K mg CT) (TB : BkT K C) (h1 : 1 ≤ st) : OkM P w K mg base C CX0 1 "slots_of" p_Store_slots_of (spSlotsOf K C CT st) := by
  refine TB.g_slots_of.ok sc_Store_slots_of (fun vs H Q E h => ?_) (fun f cdv A outer s H vs Q E hr h => ?_)
  · obtain ⟨B, td, ths, sls, nds, v, k, n, rfl, _⟩ := h; rfl
  obtain ⟨B, td, ths, sls, nds, v, k, n, rfl, X, ⟨a, x, rfl, hv⟩, hn, q⟩ := h
  refine ⟨_, (pss_one (ps_ret (pe_callTy call_list_of (by rfl) T.z_list PyProof.Rows.boot_list (pa_cons (pe_fld (pe_dget (hu_of' hr) (pe_fld (pv 0) rfl) (pe_ix ix_tup (pv 1) pe_int (fun _ _ => rfl)) (fun _ _ => rfl)) rfl) pa_nil)))), ?_⟩
  obtain ⟨dx, more, t, s, dx2, tv, vs, hB, hg, ht, hs, g, r, g2, r2⟩ := X.look h1 hn
  refine ⟨_, rfl, B, C, dx, _, .ref td, rfl, hB, TB.cl, TB.n_things, rfl, _, rfl, a, _, 1, _, rfl, rfl, SqT.of hv, rfl, td, _, rfl, hg, ?_⟩
  exact ⟨t, CT, dx2, _, _, rfl, g, TT.cl, TT.n_slots, rfl, s, _, rfl, .inl (SqL.of g2), fun p hp => q p vs hp r2⟩
theorem ok_Store_slot (TT : ThT K mg CT) (TB : BkT K C) (h1 : 1 ≤ st) : OkM P w K mg base C CX0 1 "slot" p_Store_slot (spSlot K C CT st) := by
  refine TB.g_slot.ok sc_Store_slot (fun vs H Q E h => ?_) (fun f cdv A outer s H vs Q E hr h => ?_)
  · obtain ⟨B, td, ths, sls, nds, v, k, i, n, e, rfl, _⟩ := h; rfl
  obtain ⟨B, td, ths, sls, nds, v, k, i, n, e, rfl, X, ⟨a, x, rfl, hv⟩, hn, he, q⟩ := h
  refine ⟨_, (pss_one (ps_ret (pe_ix ix_list (pe_fld (pe_dget (hu_of' hr) (pe_fld (pv 0) rfl) (pe_ix ix_tup (pv 1) pe_int (fun _ _ => rfl)) (fun _ _ => rfl)) rfl) (pv 2) (fun _ _ => rfl)))), ?_⟩
  obtain ⟨dx, more, t, s, dx2, tv, vs, hB, hg, ht, hs, g, r, g2, r2⟩ := X.look h1 hn
  obtain ⟨u, hu, ru⟩ := r2.at (i := i) (d := e.d (tb st)) (by unfold rowD; rw [List.getElem?_map, he]; rfl)
  refine ⟨_, rfl, B, C, dx, _, .ref td, rfl, hB, TB.cl, TB.n_things, rfl, _, rfl, a, _, 1, _, rfl, rfl, SqT.of hv, rfl, td, _, rfl, hg, ?_⟩
  exact ⟨t, CT, dx2, _, _, rfl, g, TT.cl, TT.n_slots, rfl, _, rfl, s, _, _, u, rfl, rfl, SqL.of g2, atI_nat hu, q u ru⟩
end
end D0
namespace D0
open PySem PySem.Spec PyProof.Rows L2 SX NumText
def spSetSlot (K : PySem.W.Frag) (C CT : Addr) (st : Nat) : Sp := fun vs H Q _ => ∃ (B td : Addr) (ths sls : List Addr) (nds : List Nd) (v u : V) (k i : Nat) (n : Nd) (e : Ent), vs = [.ref B, v, .int i, u] ∧ BkA K C CT st H B td ths sls nds ∧ RefV H st k v ∧ nds[k]? = some n ∧ i < n.row.length ∧ Rep H u (e.d (tb st)) ∧
  ∀ H', BkA K C CT st H' B td ths sls (nds.set k ⟨n.kind, n.tag, n.row.set i e⟩) → Chg sls H H' → Q .non H'
def spChange (K : PySem.W.Frag) (C CT : Addr) (st : Nat) : Sp := fun vs H Q _ => ∃ (B td : Addr) (ths sls : List Addr) (nds : List Nd) (v tv : V) (g : Addr) (us : List V) (k : Nat) (n : Nd) (tag : D) (row : List Ent), vs = [.ref B, v, tv, .ref g] ∧ BkA K C CT st H B td ths sls nds ∧ RefV H st k v ∧ nds[k]? = some n ∧
  Rep H tv tag ∧ H g = some (.lst us) ∧ Reps H us (rowD (tb st) row) ∧ g ∉ ths ∧
  ∀ s' H', BkA K C CT st H' B td ths (sls.set k s') (nds.set k ⟨n.kind, tag, row⟩) → Chg ths H H' → H s' = none → Q .non H'
def spMake (K : PySem.W.Frag) (C CT : Addr) (st : Nat) : Sp := fun vs H Q _ => ∃ (B td : Addr) (ths sls : List Addr) (nds : List Nd) (z : List Nat) (tv : V) (g : Addr) (us : List V) (tag : D) (row : List Ent), vs = [.ref B, .str (S z), tv, .ref g] ∧ BkA K C CT st H B td ths sls nds ∧ nds.length ≤ 1000 ∧
  Rep H tv tag ∧ H g = some (.lst us) ∧ Reps H us (rowD (tb st) row) ∧
  ∀ t s p H', BkA K C CT st H' B td (ths ++ [t]) (sls ++ [s]) (nds ++ [⟨z, tag, row⟩]) → Chg [B, td] H H' → H t = none → H s = none → H' p = some (.tup [.str (Str.ofString "ref"), .int (tb st nds.length)]) → Q (.ref p) H'
theorem rowD_set (f : Nat → Int) (es : List Ent) (i : Nat) (e : Ent) : (rowD f es).set i (e.d f) = rowD f (es.set i e) := by unfold rowD; rw [List.map_set]
section
variable {P : Program} {w : World} {K : PySem.W.Frag} {mg : Str → Option Value} {base : Heap} {C CT : Addr}
theorem ok_Store_set_slot (TT : ThT K mg CT) (TB : StT K mg C) : OkM P w K mg base C CX0 1 "set_slot" p_Store_set_slot (spSetSlot K C CT 1) := by
  refine TB.g_set_slot.ok sc_Store_set_slot (fun vs H Q E h => ?_) (fun f cdv A outer s H vs Q E hr h => ?_)
  · obtain ⟨B, td, ths, sls, nds, v, u, k, i, n, e, rfl, _⟩ := h; rfl
  obtain ⟨B, td, ths, sls, nds, v, u, k, i, n, e, rfl, X, ⟨a, x, rfl, hv⟩, hn, hi, ru, q⟩ := h
  refine ⟨_, (pss_one (ps_asg (pv 3) (pg_sub (pe_fld (pe_dget (hu_of' hr) (pe_fld (pv 0) rfl) (pe_ix ix_tup (pv 1) pe_int (fun _ _ => rfl)) (fun _ _ => rfl)) rfl) (pv 2) set_list))), ?_⟩
  obtain ⟨dx, more, t, s, dx2, tv, vs, hB, hg, ht, hs, g, r, g2, r2⟩ := X.look (by omega) hn
  have vl : vs.length = n.row.length := by rw [r2.len]; unfold rowD; rw [List.length_map]
  refine ⟨_, rfl, _, rfl, B, C, dx, _, .ref td, rfl, hB, TB.bk.cl, TB.bk.n_things, rfl, _, rfl, a, _, 1, _, rfl, rfl, SqT.of hv, rfl, td, _, rfl, hg, ?_⟩
  refine ⟨t, CT, dx2, _, _, rfl, g, TT.cl, TT.n_slots, rfl, _, rfl, s, _, _, i, rfl, rfl, g2, ixN_nat (by omega), ?_⟩
  have := X.setRow (vs := vs.set i u) (row := n.row.set i e) hn hs (by rw [← rowD_set]; exact r2.set ru)
  exact q _ this.1 (this.2.mono fun a ha => by rw [List.mem_singleton.mp ha]; exact List.mem_of_getElem? hs)
theorem ok_is_young (T : Txt K w mg) : OkD P w K mg base CX0 1 "is_young" p_is_young (fun vs H Q _ => ∃ i : Int, vs = [.int i] ∧ i % 2 = 1 ∧ Q (.bl true) H) := by
  refine T.g_is_young.ok sc_is_young (fun vs H Q E h => ?_) (fun f cdv A outer s H vs Q E hr h => ?_)
  · obtain ⟨i, rfl, _⟩ := h; rfl
  obtain ⟨i, rfl, hi, q⟩ := h
  refine ⟨_, (pss_one (ps_ret (pe_cmpR op_eq (pe_op op_mod (pv 0) pe_int) pe_int (nomark _)))), ?_⟩
  refine ⟨_, rfl, _, _, rfl, rfl, (by show (0 : Int) < _; decide), rfl, ?_⟩
  rw [decide_eq_true (by show V.int (i % 2) = V.int 1; rw [hi])]
  exact q
theorem ok_Heap_remember (T : Txt K w mg) (TB : HeT K mg C) (Oy : OkD P w K mg base CX0 1 "is_young" p_is_young (fun vs H Q _ => ∃ i : Int, vs = [.int i] ∧ i % 2 = 1 ∧ Q (.bl true) H)) :
    OkM P w K mg base C CX0 2 "remember" p_Heap_remember (fun vs H Q _ => ∃ (B : V) (i : Int) (v : V), vs = [B, .int i, v] ∧ i % 2 = 1 ∧ Q .non H) := by
  have On : OkD P w K mg base CX0 0 "refers_to_young" p_refers_to_young (fun _ _ _ _ => False) := T.g_refers_to_young.none fun _ _ _ _ h => h
  refine TB.g_remember.ok sc_Heap_remember (fun vs H Q E h => ?_) (fun f cdv A outer s H vs Q E hr h => ?_)
  · obtain ⟨B, i, v, rfl, _⟩ := h; rfl
  obtain ⟨B, i, v, rfl, hi, q⟩ := h
  refine ⟨_, (pss_one (ps_if (PW.pt (pw_and (pt_not (pt_val (pcall Oy hr (pa_cons (pv 1) pa_nil)))) (pw_and1 (pt_val (pcall On hr (pa_cons (pv 2) pa_nil)))))) (pss_one (ps_dput (hu_of' hr) (pe_fld (pv 0) rfl) (pv 1) pe_bl rfl)) pss_nil)), ?_⟩
  exact ⟨_, rfl, i, rfl, hi, _, rfl, iteF q⟩
theorem tb2_odd (k : Nat) : tb 2 k % 2 = 1 := by unfold tb; omega
theorem ok_Heap_set_slot (TT : ThT K mg CT) (TB : HeT K mg C) (Om : OkM P w K mg base C CX0 2 "remember" p_Heap_remember (fun vs H Q _ => ∃ (B : V) (i : Int) (v : V), vs = [B, .int i, v] ∧ i % 2 = 1 ∧ Q .non H)) : OkM P w K mg base C CX0 3 "set_slot" p_Heap_set_slot (spSetSlot K C CT 2) := by
  refine TB.g_set_slot.ok sc_Heap_set_slot (fun vs H Q E h => ?_) (fun f cdv A outer s H vs Q E hr h => ?_)
  · obtain ⟨B, td, ths, sls, nds, v, u, k, i, n, e, rfl, _⟩ := h; rfl
  obtain ⟨B, td, ths, sls, nds, v, u, k, i, n, e, rfl, X, ⟨a, x, rfl, hv⟩, hn, hi, ru, q⟩ := h
  refine ⟨_, (pss_cons (ps_asg (pv 3) (pg_sub (pe_fld (pe_dget (hu_of' hr) (pe_fld (pv 0) rfl) (pe_ix ix_tup (pv 1) pe_int (fun _ _ => rfl)) (fun _ _ => rfl)) rfl) (pv 2) set_list))
      (pss_one (ps_expr (pmethE Om TB.bk.cl hr pass0 (pv 0) (pa_cons (pe_ix ix_tup (pv 1) pe_int (fun _ _ => rfl)) (pa_cons (pe_lst (pa_cons (pv 3) pa_nil)) pa_nil)))))), ?_⟩
  obtain ⟨dx, more, t, s, dx2, tv, vs, hB, hg, ht, hs, g, r, g2, r2⟩ := X.look (by omega) hn
  have vl : vs.length = n.row.length := by rw [r2.len]; unfold rowD; rw [List.length_map]
  refine ⟨_, rfl, _, rfl, B, C, dx, _, .ref td, rfl, hB, TB.bk.cl, TB.bk.n_things, rfl, _, rfl, a, _, 1, _, rfl, rfl, SqT.of hv, rfl, td, _, rfl, hg, ?_⟩
  refine ⟨t, CT, dx2, _, _, rfl, g, TT.cl, TT.n_slots, rfl, _, rfl, s, _, _, i, rfl, rfl, g2, ixN_nat (by omega), ?_⟩
  obtain ⟨X2, c2⟩ := X.setRow (vs := vs.set i u) (row := n.row.set i e) hn hs (by rw [← rowD_set]; exact r2.set ru)
  obtain ⟨dx3, more3, hB3, hM3⟩ := X2.hB
  have nr : List.lookup (Str.ofString "remember") ((fThings, V.ref td) :: more3) = none := by
    rcases hM3 with ⟨h, _⟩ | ⟨_, md, rfl⟩
    · cases h
    · rfl
  refine ⟨_, rfl, B, dx3, _, rfl, hB3, nr, _, rfl, a, _, 1, _, rfl, rfl, SqT.of (c2.tups _ _ hv), rfl, _, rfl, (by show 1 ≤ sizeLine; decide), fun l hl => ⟨_, _, _, rfl, tb2_odd k, ?_⟩⟩
  refine q _ (X2.frame (Chg.new (F := []) hl) (fun _ _ h => by cases h)) ((c2.mono fun a ha => by rw [List.mem_singleton.mp ha]; exact List.mem_of_getElem? hs).trans (.new hl))
end
end D0
namespace D0
open PySem PySem.Spec PyProof.Rows L2 SX NumText
theorem putF_tag (n : Nd) (tv tv' : V) (s : Addr) (t' : D) (r' : List Ent) : putF fTag tv' (thF n tv s) = thF ⟨n.kind, t', r'⟩ tv' s := by
  have h : fKind ≠ fTag := by decide +kernel
  unfold thF
  simp only [putF, if_neg h, if_true]
theorem putF_slots (n : Nd) (tv : V) (s s' : Addr) : putF fSlots (.ref s') (thF n tv s) = thF n tv s' := by
  have h1 : fKind ≠ fSlots := by decide +kernel
  have h2 : fTag ≠ fSlots := by decide +kernel
  unfold thF
  simp only [putF, if_neg h1, if_neg h2, if_true]
section
variable {P : Program} {w : World} {K : PySem.W.Frag} {mg : Str → Option Value} {base : Heap} {C CT : Addr}
/-- what change leaves -/
theorem change_done {st : Nat} {H : Hp} {B td : Addr} {ths sls : List Addr} {nds : List Nd} (X : BkA K C CT st H B td ths sls nds) {k : Nat} {n : Nd} {t s dx2 s' : Addr} {tv tv0 : V} {tag : D} {row : List Ent} {us : List V}
    (hn : nds[k]? = some n) (ht : ths[k]? = some t) (hg : H t = some (.ins CT dx2 (thF n tv0 s))) (rt : Rep H tv tag) (ru : Reps H us (rowD (tb st) row))
    (hs : upd H t (.ins CT dx2 (putF fTag tv (thF n tv0 s))) s' = none) :
    let H' := upd (upd (upd H t (.ins CT dx2 (putF fTag tv (thF n tv0 s)))) s' (.lst us)) t (.ins CT dx2 (putF fSlots (.ref s') (putF fTag tv (thF n tv0 s))))
    BkA K C CT st H' B td ths (sls.set k s') (nds.set k ⟨n.kind, tag, row⟩) ∧ Chg ths H H' ∧ H s' = none ∧ H' t = some (.ins CT dx2 (thF ⟨n.kind, tag, row⟩ tv s')) := by
  have nt : s' ≠ t := fun z => by rw [z, upd_same] at hs; cases hs
  have f : H s' = none := by rw [upd_ne nt] at hs; exact hs
  have c1 : Chg [t] H (upd H t (.ins CT dx2 (putF fTag tv (thF n tv0 s)))) := .upd hg (fun _ z => by cases z) (List.mem_singleton_self _)
  have c2 := c1.trans (Chg.new (F := [t]) (o := HO.lst us) hs)
  have h3 : upd (upd H t (.ins CT dx2 (putF fTag tv (thF n tv0 s)))) s' (.lst us) t = some (.ins CT dx2 (putF fTag tv (thF n tv0 s))) := by rw [upd_ne (Ne.symm nt), upd_same]
  have c3 := c2.trans (Chg.upd (o' := HO.ins CT dx2 (putF fSlots (.ref s') (putF fTag tv (thF n tv0 s)))) h3 (fun _ z => by cases z) (List.mem_singleton_self _))
  have e : putF fSlots (V.ref s') (putF fTag tv (thF n tv0 s)) = thF ⟨n.kind, tag, row⟩ tv s' := by rw [putF_tag n tv0 tv s tag row, putF_slots]
  intro H'
  have h4 : H' t = some (.ins CT dx2 (thF ⟨n.kind, tag, row⟩ tv s')) := by show upd _ t _ t = _; rw [upd_same, e]
  have h5 : H' s' = some (.lst us) := by show upd _ t _ s' = _; rw [upd_ne nt, upd_same]
  refine ⟨X.setAll hn ht f c3 h4 h5 (rt.mono c3.tups) (ru.mono c3.tups), c3.mono fun a ha => by rw [List.mem_singleton.mp ha]; exact List.mem_of_getElem? ht, f, h4⟩
theorem ok_Store_change (T : Txt K w mg) (TT : ThT K mg CT) (TB : StT K mg C) : OkM P w K mg base C CX0 1 "change" p_Store_change (spChange K C CT 1) := by
  refine TB.g_change.ok sc_Store_change (fun vs H Q E h => ?_) (fun f cdv A outer s H vs Q E hr h => ?_)
  · obtain ⟨B, td, ths, sls, nds, v, tv, g, us, k, n, tag, row, rfl, _⟩ := h; rfl
  obtain ⟨B, td, ths, sls, nds, v, tv, gl, us, k, n, tag, row, rfl, X, ⟨a, x, rfl, hv⟩, hn, rt, hgl, ru, ngl, q⟩ := h
  refine ⟨_, (pss_cons (ps_set (i := 4) sc_Store_change.nd rfl (.inl rfl) (pe_dget (hu_of' hr) (pe_fld (pv 0) rfl) (pe_ix ix_tup (pv 1) pe_int (fun _ _ => rfl)) (fun _ _ => rfl)))
      (pss_cons (ps_fld (pv 4) (pv 2) rfl)
      (pss_one (ps_fld (pv 4) (pe_callTy call_list_of (by rfl) T.z_list PyProof.Rows.boot_list (pa_cons (pv 3) pa_nil)) rfl)))), ?_⟩
  obtain ⟨dx, more, t, s, dx2, tv0, vs, hB, hg, ht, hs, g, r, g2, r2⟩ := X.look (by omega) hn
  refine ⟨_, rfl, B, C, dx, _, .ref td, rfl, hB, TB.bk.cl, TB.bk.n_things, rfl, _, rfl, a, _, 1, _, rfl, rfl, SqT.of hv, rfl, td, _, rfl, hg, ?_⟩
  refine ⟨_, rfl, _, rfl, t, CT, dx2, _, rfl, g, TT.cl, TT.n_tag, (by show 4 < 1000; decide), ?_⟩
  have ntl : gl ≠ t := fun z => ngl (by rw [z]; exact List.mem_of_getElem? ht)
  refine ⟨_, rfl, gl, us, rfl, .inl (SqL.of (by rw [upd_ne ntl]; exact hgl)), fun s' hs' => ?_⟩
  obtain ⟨X2, c2, f2, h2⟩ := change_done X hn ht g rt ru hs'
  refine ⟨_, rfl, t, CT, dx2, _, rfl, (by rw [upd_ne (fun z => by rw [← z, upd_same] at hs'; cases hs'), upd_same]), TT.cl, TT.n_slots, (by show (putF fTag tv (thF n tv0 s)).length < 1000; rw [putF_tag n tv0 tv s tag row]; show 4 < 1000; decide), ?_⟩
  exact q s' _ X2 c2 f2
theorem ok_Heap_change (T : Txt K w mg) (TT : ThT K mg CT) (TB : HeT K mg C) (Om : OkM P w K mg base C CX0 2 "remember" p_Heap_remember (fun vs H Q _ => ∃ (B : V) (i : Int) (v : V), vs = [B, .int i, v] ∧ i % 2 = 1 ∧ Q .non H)) : OkM P w K mg base C CX0 3 "change" p_Heap_change (spChange K C CT 2) := by
  refine TB.g_change.ok sc_Heap_change (fun vs H Q E h => ?_) (fun f cdv A outer s H vs Q E hr h => ?_)
  · obtain ⟨B, td, ths, sls, nds, v, tv, g, us, k, n, tag, row, rfl, _⟩ := h; rfl
  obtain ⟨B, td, ths, sls, nds, v, tv, gl, us, k, n, tag, row, rfl, X, ⟨a, x, rfl, hv⟩, hn, rt, hgl, ru, ngl, q⟩ := h
  refine ⟨_, (pss_cons (ps_set (i := 4) sc_Heap_change.nd rfl (.inl rfl) (pe_dget (hu_of' hr) (pe_fld (pv 0) rfl) (pe_ix ix_tup (pv 1) pe_int (fun _ _ => rfl)) (fun _ _ => rfl)))
      (pss_cons (ps_fld (pv 4) (pv 2) rfl)
      (pss_cons (ps_fld (pv 4) (pe_callTy call_list_of (by rfl) T.z_list PyProof.Rows.boot_list (pa_cons (pv 3) pa_nil)) rfl)
      (pss_one (ps_expr (pmethE Om TB.bk.cl hr pass0 (pv 0) (pa_cons (pe_ix ix_tup (pv 1) pe_int (fun _ _ => rfl)) (pa_cons (pe_fld (pv 4) rfl) pa_nil)))))))), ?_⟩
  obtain ⟨dx, more, t, s, dx2, tv0, vs, hB, hg, ht, hs, g, r, g2, r2⟩ := X.look (by omega) hn
  refine ⟨_, rfl, B, C, dx, _, .ref td, rfl, hB, TB.bk.cl, TB.bk.n_things, rfl, _, rfl, a, _, 1, _, rfl, rfl, SqT.of hv, rfl, td, _, rfl, hg, ?_⟩
  refine ⟨_, rfl, _, rfl, t, CT, dx2, _, rfl, g, TT.cl, TT.n_tag, (by show 4 < 1000; decide), ?_⟩
  have ntl : gl ≠ t := fun z => ngl (by rw [z]; exact List.mem_of_getElem? ht)
  refine ⟨_, rfl, gl, us, rfl, .inl (SqL.of (by rw [upd_ne ntl]; exact hgl)), fun s' hs' => ?_⟩
  obtain ⟨X2, c2, f2, h2⟩ := change_done X hn ht g rt ru hs'
  refine ⟨_, rfl, t, CT, dx2, _, rfl, (by rw [upd_ne (fun z => by rw [← z, upd_same] at hs'; cases hs'), upd_same]), TT.cl, TT.n_slots, (by show (putF fTag tv (thF n tv0 s)).length < 1000; rw [putF_tag n tv0 tv s tag row]; show 4 < 1000; decide), ?_⟩
  obtain ⟨dx3, more3, hB3, hM3⟩ := X2.hB
  have nr : List.lookup (Str.ofString "remember") ((fThings, V.ref td) :: more3) = none := by
    rcases hM3 with ⟨h, _⟩ | ⟨_, md, rfl⟩
    · cases h
    · rfl
  refine ⟨_, rfl, B, dx3, _, rfl, hB3, nr, _, rfl, a, _, 1, _, rfl, rfl, SqT.of (c2.tups _ _ hv), rfl, _, rfl, t, CT, dx2, _, .ref s', rfl, h2, TT.cl, TT.n_slots, rfl, _, _, _, rfl, tb2_odd k, ?_⟩
  exact q s' _ X2 c2 f2
/-- what make leaves -/
theorem make_done {st : Nat} {H H0 : Hp} {B td dxB l x dx : Addr} {ths sls : List Addr} {nds : List Nd} {more : List (Str × V)} (h1 : 1 ≤ st) (X : BkA K C CT st H B td ths sls nds) {n : Nd} {tv : V} {us : List V}
    (c0 : Chg [B, td] H H0) (hB : H0 B = some (.ins C dxB ((fThings, .ref td) :: more))) (hM : More st (nds.length + 1) more) (hD : H0 td = some (.dK (kvF st ths)))
    (rt : Rep H tv n.tag) (ru : Reps H us (rowD (tb st) n.row)) (hl : H0 l = none) (hx : upd H0 l (.lst us) x = none) (hdx : upd H0 l (.lst us) dx = none) (ne : dx ≠ x) :
    let H2 := upd (upd (upd (upd H0 l (.lst us)) dx (.own x)) x (.ins CT dx [])) x (.ins CT dx (thF n tv l))
    H2 td = some (.dK (kvF st ths)) ∧ H2 B = some (.ins C dxB ((fThings, .ref td) :: more)) ∧
    BkA K C CT st (upd H2 td (.dK (kvF st (ths ++ [x])))) B td (ths ++ [x]) (sls ++ [l]) (nds ++ [n]) ∧ Chg [B, td] H (upd H2 td (.dK (kvF st (ths ++ [x])))) ∧ H x = none ∧ H l = none := by
  intro H2
  have up : ∀ {a : Addr}, H0 a = none → H a = none := fun {a} h => by
    cases e : H a with
    | none => rfl
    | some o =>
      by_cases z : a ∈ [B, td]
      · rcases List.mem_cons.mp z with rfl | z
        · rw [hB] at h; cases h
        · rw [List.mem_singleton.mp z, hD] at h; cases h
      · rw [c0.keep a o z e] at h; cases h
  have nlx : x ≠ l := fun z => by rw [z, upd_same] at hx; cases hx
  have nldx : dx ≠ l := fun z => by rw [z, upd_same] at hdx; cases hdx
  rw [upd_ne nlx] at hx
  rw [upd_ne nldx] at hdx
  have kp : ∀ {a : Addr} {o : HO}, H0 a = some o → H2 a = some o := fun {a o} h => by
    have n1 : a ≠ x := ne_of_none h hx
    have n2 : a ≠ dx := ne_of_none h hdx
    have n3 : a ≠ l := ne_of_none h hl
    show upd _ x _ a = _
    rw [upd_ne n1, upd_ne n1, upd_ne n2, upd_ne n3]; exact h
  have k1 := kp hD
  have k2 := kp hB
  have s2 : Same H0 H2 := fun a o h => kp h
  have c2 : Chg [B, td] H H2 := c0.trans (.same s2)
  have c3 : Chg [B, td] H (upd H2 td (.dK (kvF st (ths ++ [x])))) := c2.trans (.upd k1 (fun _ z => by cases z) (by simp))
  have ntd : ∀ {a : Addr} {o : HO}, H0 a = none → a ≠ td := fun h => (ne_of_none hD h).symm
  have q1 : H2 x = some (.ins CT dx (thF n tv l)) := upd_same
  have q2 : H2 l = some (.lst us) := by show upd _ x _ l = _; rw [upd_ne (Ne.symm nlx), upd_ne (Ne.symm nlx), upd_ne (Ne.symm nldx), upd_same]
  have q3 : td ≠ x := ne_of_none hD hx
  have q4 : td ≠ l := ne_of_none hD hl
  refine ⟨k1, k2, X.more (vs := us) (up hl) c3 (by rw [upd_ne (ne_ob k2 k1 (fun z => by cases z))]; exact k2) hM upd_same (by rw [upd_ne (Ne.symm q3)]; exact q1) (by rw [upd_ne (Ne.symm q4)]; exact q2) (rt.mono c3.tups) (ru.mono c3.tups), c3, up hx, up hl⟩
theorem ok_Store_make (T : Txt K w mg) (TT : ThT K mg CT) (TB : StT K mg C) : OkM P w K mg base C CX0 3 "make" p_Store_make (spMake K C CT 1) := by
  obtain ⟨fI, fd, M, bI, F⟩ := TT.ini
  have GI := ok_Thing___init__ (P := P) (w := w) (base := base) TT F
  refine TB.g_make.ok sc_Store_make (fun vs H Q E h => ?_) (fun f cdv A outer s H vs Q E hr h => ?_)
  · obtain ⟨B, td, ths, sls, nds, z, tv, g, us, tag, row, rfl, _⟩ := h; rfl
  obtain ⟨B, td, ths, sls, nds, z, tv, gl, us, tag, row, rfl, X, hlen, rt, hgl, ru, q⟩ := h
  refine ⟨_, (pss_cons (ps_set (i := 4) sc_Store_make.nd rfl (.inl rfl) (pe_callB call_lenD (by rfl) T.z_len PySem.boot_len (pa_cons (pe_fld (pv 0) rfl) pa_nil)))
      (pss_cons (ps_dput (hu_of' hr) (pe_fld (pv 0) rfl) (pv 4) (pe_make M GI (hr.mono (by decide)) rfl TT.gl bI .nil pass0 (pa_cons (pv 1) (pa_cons (pv 2) (pa_cons (pe_callTy call_list_of (by rfl) T.z_list PyProof.Rows.boot_list (pa_cons (pv 3) pa_nil)) pa_nil)))) rfl)
      (pss_one (ps_ret (pe_tup (pa_cons pe_str (pa_cons (pv 4) pa_nil))))))), ?_⟩
  obtain ⟨dx, more, hB, hM⟩ := X.hB
  have lim : (2000 : Nat) < sizeLine := by decide
  have kl : (kvF 1 ths).length = nds.length := by unfold kvF; rw [kvG_len, X.lt]
  have et : ((kvF 1 ths).length : Int) = tb 1 ths.length := by rw [kl]; have := X.lt; unfold tb; omega
  refine ⟨_, rfl, B, C, dx, _, .ref td, rfl, hB, TB.bk.cl, TB.bk.n_things, rfl, td, _, rfl, X.hD, ?_⟩
  refine ⟨_, rfl, _, rfl, _, rfl, gl, us, rfl, .inl (SqL.of hgl), fun l hl => fun x dxx hx hdx ne => ?_⟩
  obtain ⟨k1, k2, X2, c2, fx, fl⟩ := make_done (CT := CT) (n := ⟨z, tag, row⟩) (by omega) X .refl hB (by rcases hM with ⟨a, b⟩ | ⟨a, _⟩; exact .inl ⟨a, b⟩; cases a) X.hD rt ru hl hx hdx ne
  refine ⟨x, dxx, _, _, l, rfl, upd_same, rfl, ?_⟩
  refine ⟨_, rfl, B, C, dx, _, .ref td, rfl, k2, TB.bk.cl, TB.bk.n_things, rfl, _, rfl, td, _, rfl, .inl ⟨kvF 1 ths, .inl (tb 1 ths.length), k1, congrArg V.int et, by rw [kl]; omega, rfl⟩, ?_⟩
  rw [kvF_put (by omega)]
  refine ⟨_, rfl, (by show 2 ≤ sizeLine; omega), fun p hp => ?_⟩
  exact q x l p _ (X2.frame (Chg.new (F := []) hp) (fun _ _ h => by cases h)) (c2.trans (.new hp)) fx fl (by rw [upd_same, et, X.lt])
end
end D0
namespace D0
open PySem PySem.Spec PyProof.Rows L2 SX NumText
/-- what Store has further -/
structure StX (K : PySem.W.Frag) (mg : Str → Option Value) (C : Addr) : Prop where
  ln : Gvm K C "__len__" "Store.__len__" s_Store___len__ p_Store___len__
  cr : ∃ mc, ClX.CRead K C mc ∧ (∃ fI fd, PySem.W.findCls K (.ref C) mc "__init__" = some (.val (.ref fI)) ∧ PySem.W.keepIn K (.ref fI) = true ∧ Binds K fd p_Store___init__ [] ∧ Fun K "__init__" "Store.__init__" s_Store___init__ fI fd) ∧
    ∃ a, ClX.CVal K C mc "KINDS" (.ref a) (.ref a) ∧ (∀ H, SqT K H a (KS.map V.str)) ∧ ∀ H, TyX K H (.ref a) (.type "tuple")
def HeX (K : PySem.W.Frag) (C : Addr) : Prop := Gvm K C "__len__" "Heap.__len__" s_Heap___len__ p_Heap___len__
def spLen (K : PySem.W.Frag) (C CT : Addr) (st : Nat) : Sp := fun vs H Q _ => ∃ (B td : Addr) (ths sls : List Addr) (nds : List Nd), vs = [.ref B] ∧ BkA K C CT st H B td ths sls nds ∧ Q (.int (nds.length : Nat)) H
def spStoreInit (K : PySem.W.Frag) : Sp := fun vs H Q _ => ∃ (B C dx : Addr), vs = [.ref B] ∧ H B = some (.ins C dx []) ∧ Cls K C ∧ NoAttr K C "things" ∧ ∀ td, H td = none → Q .non (upd (upd H td (.dK [])) B (.ins C dx [(fThings, .ref td)]))
def spHeapInit (K : PySem.W.Frag) (C CT : Addr) : Sp := fun vs H Q _ => ∃ (B dx : Addr), vs = [.ref B] ∧ H B = some (.ins C dx []) ∧ ∀ td H', BkA K C CT 2 H' B td [] [] [] → (∀ a o, a ≠ B → H a = some o → H' a = some o) → H td = none → Q .non H'
section
variable {P : Program} {w : World} {K : PySem.W.Frag} {mg : Str → Option Value} {base : Heap} {C CT : Addr}
theorem ok_Heap_make (T : Txt K w mg) (TT : ThT K mg CT) (TB : HeT K mg C) : OkM P w K mg base C CX0 3 "make" p_Heap_make (spMake K C CT 2) := by
  obtain ⟨fI, fd, M, bI, F⟩ := TT.ini
  have GI := ok_Thing___init__ (P := P) (w := w) (base := base) TT F
  refine TB.g_make.ok sc_Heap_make (fun vs H Q E h => ?_) (fun f cdv A outer s H vs Q E hr h => ?_)
  · obtain ⟨B, td, ths, sls, nds, z, tv, g, us, tag, row, rfl, _⟩ := h; rfl
  obtain ⟨B, td, ths, sls, nds, z, tv, gl, us, tag, row, rfl, X, hlen, rt, hgl, ru, q⟩ := h
  refine ⟨_, (pss_cons (ps_set (i := 4) sc_Heap_make.nd rfl (.inl rfl) (pe_op op_add (pe_op op_mul pe_int (pe_fld (pv 0) rfl)) pe_int))
      (pss_cons (ps_fldaug (pv 0) pe_int ip_add)
      (pss_cons (ps_dput (hu_of' hr) (pe_fld (pv 0) rfl) (pv 4) (pe_make M GI (hr.mono (by decide)) rfl TT.gl bI .nil pass0 (pa_cons (pv 1) (pa_cons (pv 2) (pa_cons (pe_callTy call_list_of (by rfl) T.z_list PyProof.Rows.boot_list (pa_cons (pv 3) pa_nil)) pa_nil)))) rfl)
      (pss_one (ps_ret (pe_tup (pa_cons pe_str (pa_cons (pv 4) pa_nil)))))))), ?_⟩
  obtain ⟨dx, more, hB, hM⟩ := X.hB
  obtain ⟨md, rfl⟩ : ∃ md, more = [(fYM, V.int (nds.length : Nat)), (fOM, V.int 0), (fMk, V.ref md)] := by
    rcases hM with ⟨h, _⟩ | ⟨_, h⟩
    · cases h
    · exact h
  have lim : (2000 : Nat) < sizeLine := by decide
  have kl : (kvF 2 ths).length = nds.length := by unfold kvF; rw [kvG_len, X.lt]
  have et : (2 * (nds.length : Int) + 1 : Int) = tb 2 ths.length := by have := X.lt; unfold tb; omega
  have n1 : fThings ≠ fYM := by decide +kernel
  have ep : putF fYM (V.int ((nds.length : Int) + 1)) ((fThings, V.ref td) :: [(fYM, V.int (nds.length : Nat)), (fOM, V.int 0), (fMk, V.ref md)]) = (fThings, V.ref td) :: [(fYM, V.int ((nds.length + 1 : Nat) : Int)), (fOM, V.int 0), (fMk, V.ref md)] := by
    simp only [putF, if_neg n1, if_true]; rfl
  refine ⟨_, rfl, B, C, dx, _, .int (nds.length : Nat), rfl, hB, TB.bk.cl, TB.n_young_many, rfl, _, _, rfl, rfl, .inl ⟨by decide, by decide⟩, _, _, rfl, rfl, ?_⟩
  refine ⟨_, rfl, B, C, dx, _, .int (nds.length : Nat), rfl, hB, TB.bk.cl, TB.n_young_many, rfl, _, _, rfl, rfl, dx, _, hB, (by show 4 < 1000; decide), ?_⟩
  have nBg : gl ≠ B := ne_ob hgl hB (fun z => by cases z)
  have ntB : td ≠ B := ne_ob X.hD hB (fun z => by cases z)
  have c0 : Chg [B, td] H (upd H B (.ins C dx (putF fYM (V.int ((nds.length : Int) + 1)) ((fThings, V.ref td) :: [(fYM, V.int (nds.length : Nat)), (fOM, V.int 0), (fMk, V.ref md)])))) := .upd hB (fun _ z => by cases z) (by simp)
  have hB0 : upd H B (.ins C dx (putF fYM (V.int ((nds.length : Int) + 1)) ((fThings, V.ref td) :: [(fYM, V.int (nds.length : Nat)), (fOM, V.int 0), (fMk, V.ref md)]))) B = some (.ins C dx ((fThings, V.ref td) :: [(fYM, V.int ((nds.length + 1 : Nat) : Int)), (fOM, V.int 0), (fMk, V.ref md)])) := by rw [upd_same, ep]
  have hD0 : upd H B (.ins C dx (putF fYM (V.int ((nds.length : Int) + 1)) ((fThings, V.ref td) :: [(fYM, V.int (nds.length : Nat)), (fOM, V.int 0), (fMk, V.ref md)]))) td = some (.dK (kvF 2 ths)) := by rw [upd_ne ntB]; exact X.hD
  refine ⟨_, rfl, _, rfl, _, rfl, gl, us, rfl, .inl (SqL.of (by rw [upd_ne nBg]; exact hgl)), fun l hl => fun x dxx hx hdx ne => ?_⟩
  obtain ⟨k1, k2, X2, c2, fx, fl⟩ := make_done (CT := CT) (n := ⟨z, tag, row⟩) (by omega) X c0 hB0 (.inr ⟨rfl, md, rfl⟩) hD0 rt ru hl hx hdx ne
  refine ⟨x, dxx, _, _, l, rfl, upd_same, rfl, ?_⟩
  refine ⟨_, rfl, B, C, dx, _, .ref td, rfl, k2, TB.bk.cl, TB.bk.n_things, rfl, _, rfl, td, _, rfl, .inl ⟨kvF 2 ths, .inl (tb 2 ths.length), k1, congrArg V.int et, by rw [kl]; omega, rfl⟩, ?_⟩
  rw [kvF_put (by omega)]
  refine ⟨_, rfl, (by show 2 ≤ sizeLine; omega), fun p hp => ?_⟩
  exact q x l p _ (X2.frame (Chg.new (F := []) hp) (fun _ _ h => by cases h)) (c2.trans (.new hp)) fx fl (by rw [upd_same, ← X.lt, ← et, X.lt])
theorem ok_Store___len__ (T : Txt K w mg) (TB : BkT K C) (TX : StX K mg C) : OkM P w K mg base C CX0 1 "__len__" p_Store___len__ (spLen K C CT 1) := by
  refine TX.ln.ok sc_Store___len__ (fun vs H Q E h => ?_) (fun f cdv A outer s H vs Q E hr h => ?_)
  · obtain ⟨B, td, ths, sls, nds, rfl, _⟩ := h; rfl
  obtain ⟨B, td, ths, sls, nds, rfl, X, q⟩ := h
  refine ⟨_, (pss_one (ps_ret (pe_callB call_lenD (by rfl) T.z_len PySem.boot_len (pa_cons (pe_fld (pv 0) rfl) pa_nil)))), ?_⟩
  obtain ⟨dx, more, hB, _⟩ := X.hB
  refine ⟨_, rfl, B, C, dx, _, .ref td, rfl, hB, TB.cl, TB.n_things, rfl, td, _, rfl, X.hD, ?_⟩
  have e : (kvF 1 ths).length = nds.length := by unfold kvF; rw [kvG_len, X.lt]
  rw [e]; exact q
theorem ok_Heap___len__ (T : Txt K w mg) (TB : BkT K C) (TX : HeX K C) : OkM P w K mg base C CX0 1 "__len__" p_Heap___len__ (spLen K C CT 2) := by
  refine Gvm.ok TX sc_Heap___len__ (fun vs H Q E h => ?_) (fun f cdv A outer s H vs Q E hr h => ?_)
  · obtain ⟨B, td, ths, sls, nds, rfl, _⟩ := h; rfl
  obtain ⟨B, td, ths, sls, nds, rfl, X, q⟩ := h
  refine ⟨_, (pss_one (ps_ret (pe_callB call_lenD (by rfl) T.z_len PySem.boot_len (pa_cons (pe_fld (pv 0) rfl) pa_nil)))), ?_⟩
  obtain ⟨dx, more, hB, _⟩ := X.hB
  refine ⟨_, rfl, B, C, dx, _, .ref td, rfl, hB, TB.cl, TB.n_things, rfl, td, _, rfl, X.hD, ?_⟩
  have e : (kvF 2 ths).length = nds.length := by unfold kvF; rw [kvG_len, X.lt]
  rw [e]; exact q
theorem ok_Store___init__ {f : Addr} {fd : FuncData} (F : Fun K "__init__" "Store.__init__" s_Store___init__ f fd) : FnOk P w K mg base CX0 1 f fd p_Store___init__ (spStoreInit K) := by
  refine F.ok sc_Store___init__ (fun vs H Q E h => ?_) (fun cdv A outer s H vs Q E hr h => ?_)
  · obtain ⟨B, C, dx, rfl, _⟩ := h; rfl
  obtain ⟨B, C, dx, rfl, hB, cl, na, q⟩ := h
  refine ⟨_, (pss_one (ps_fld (pv 0) pe_dnewK rfl)), ?_⟩
  intro td htd
  exact ⟨_, rfl, B, C, dx, [], rfl, (by rw [upd_ne (ne_of_none hB htd)]; exact hB), cl, na, (by show 0 < 1000; decide), q td htd⟩
theorem bk_empty {st : Nat} {H : Hp} {B td dx : Addr} {more : List (Str × V)} (hB : H B = some (.ins C dx ((fThings, .ref td) :: more))) (hM : More st 0 more) (hD : H td = some (.dK [])) : BkA K C CT st H B td [] [] [] :=
  ⟨rfl, rfl, ⟨dx, more, hB, hM⟩, hD, fun k t s n h => by simp at h, fun k s n h => by simp at h, List.Pairwise.nil⟩
theorem ok_Heap___init__ {CS : Addr} (TS : StT K mg CS) (TX : StX K mg CS) (TB : HeT K mg C) {f : Addr} {fd : FuncData} (F : Fun K "__init__" "Heap.__init__" s_Heap___init__ f fd) : FnOk P w K mg base CX0 2 f fd p_Heap___init__ (spHeapInit K C CT) := by
  obtain ⟨mc, cr, ⟨fI, fdI, hf, kp, hb, FI⟩, _⟩ := TX.cr
  have GI := ok_Store___init__ (P := P) (w := w) (mg := mg) (base := base) FI
  refine F.ok sc_Heap___init__ (fun vs H Q E h => ?_) (fun cdv A outer s H vs Q E hr h => ?_)
  · obtain ⟨B, dx, rfl, _⟩ := h; rfl
  obtain ⟨B, dx, rfl, hB, q⟩ := h
  refine ⟨_, (pss_cons (ps_expr (pe_ccall (pe_glob (v := .ref CS) rfl TS.gl rfl) cr hf kp GI hr hb pass0 (pa_cons (pv 0) pa_nil)))
      (pss_cons (ps_fld (pv 0) pe_int rfl)
      (pss_cons (ps_fld (pv 0) pe_int rfl)
      (pss_one (ps_fld (pv 0) pe_dnewK rfl))))), ?_⟩
  refine ⟨rfl, _, rfl, B, C, dx, rfl, hB, TB.bk.cl, TB.bk.n_things, fun td htd => ?_⟩
  have n1 : fThings ≠ fYM ∧ fThings ≠ fOM ∧ fThings ≠ fMk ∧ fYM ≠ fOM ∧ fYM ≠ fMk ∧ fOM ≠ fMk := by decide +kernel
  obtain ⟨n1, n2, n3, n4, n5, n6⟩ := n1
  have nb : B ≠ td := ne_of_none hB htd
  have e1 : putF fYM (V.int 0) [(fThings, V.ref td)] = [(fThings, V.ref td), (fYM, .int 0)] := by simp only [putF, if_neg n1]
  have e2 : putF fOM (V.int 0) [(fThings, V.ref td), (fYM, .int 0)] = [(fThings, V.ref td), (fYM, .int 0), (fOM, .int 0)] := by simp only [putF, if_neg n2, if_neg n4]
  have e3 : ∀ md, putF fMk (V.ref md) [(fThings, V.ref td), (fYM, .int 0), (fOM, .int 0)] = [(fThings, V.ref td), (fYM, .int 0), (fOM, .int 0), (fMk, .ref md)] := fun md => by simp only [putF, if_neg n3, if_neg n5, if_neg n6]
  refine ⟨_, rfl, B, C, dx, _, rfl, upd_same, TB.bk.cl, TB.n_young_many, (by show 1 < 1000; decide), ?_⟩
  rw [upd_upd]
  refine ⟨_, rfl, B, C, dx, _, rfl, upd_same, TB.bk.cl, TB.n_old_many, (by show (putF fYM (V.int 0) [(fThings, V.ref td)]).length < 1000; rw [e1]; show 2 < 1000; decide), ?_⟩
  rw [upd_upd]
  intro md hmd
  have hmd' : upd (upd H td (.dK [])) B (.ins C dx (putF fOM (V.int 0) (putF fYM (V.int 0) [(fThings, V.ref td)]))) md = none := hmd
  have nm : md ≠ B := fun z => by rw [z, upd_same] at hmd'; cases hmd'
  refine ⟨_, rfl, B, C, dx, _, rfl, (by rw [upd_ne (Ne.symm nm), upd_same]), TB.bk.cl, TB.n_marked, (by show (putF fOM (V.int 0) (putF fYM (V.int 0) [(fThings, V.ref td)])).length < 1000; rw [e1, e2]; show 3 < 1000; decide), ?_⟩
  have nmt : md ≠ td := fun z => by rw [z, upd_ne (Ne.symm nb), upd_same] at hmd'; cases hmd'
  refine q td _ (bk_empty (dx := dx) (more := [(fYM, .int 0), (fOM, .int 0), (fMk, .ref md)]) ?_ (.inr ⟨rfl, md, rfl⟩) ?_) (fun a o na ha => ?_) htd
  · rw [upd_same]
    show some (HO.ins C dx (putF fMk (V.ref md) (putF fOM (V.int 0) (putF fYM (V.int 0) [(fThings, V.ref td)])))) = _
    rw [e1, e2, e3]
  · rw [upd_ne (Ne.symm nb), upd_ne (Ne.symm nmt), upd_ne (Ne.symm nb), upd_same]
  · have n7 : a ≠ td := ne_of_none ha htd
    have n8 : a ≠ md := fun z => by
      rw [z] at ha na
      rw [upd_ne na, upd_ne nmt, ha] at hmd'; cases hmd'
    rw [upd_ne na, upd_ne n8, upd_ne na, upd_ne n7]; exact ha
end
end D0
namespace D0
open PySem PySem.Spec PyProof.Rows L2 SX NumText
/-- what a bank's class keeps -/
structure BkM (P : Program) (w : World) (K : PySem.W.Frag) (mg : Str → Option Value) (base : Heap) (C CT : Addr) (st : Nat) : Prop where
  cl : Cls K C
  h1 : 1 ≤ st
  h2 : st ≤ 2
  kind_of : OkM P w K mg base C CX0 1 "kind_of" p_Store_kind_of (spKindOf K C CT st)
  tag_of : OkM P w K mg base C CX0 1 "tag_of" p_Store_tag_of (spTagOf K C CT st)
  slots_of : OkM P w K mg base C CX0 1 "slots_of" p_Store_slots_of (spSlotsOf K C CT st)
  slot : OkM P w K mg base C CX0 1 "slot" p_Store_slot (spSlot K C CT st)
  make : OkM P w K mg base C CX0 3 "make" p_Store_make (spMake K C CT st)
  set_slot : OkM P w K mg base C CX0 3 "set_slot" p_Store_set_slot (spSetSlot K C CT st)
  change : OkM P w K mg base C CX0 3 "change" p_Store_change (spChange K C CT st)
  len : ∃ g fd ps, PySem.W.findIn K (.ref C) "__len__" = some (some (.ref g)) ∧ PySem.W.isFn K (.ref g) = true ∧ FnOk P w K mg base CX0 1 g fd ps (spLen K C CT st) ∧ Binds K fd ps []
/-- a bank beside its book -/
structure Pr (K : PySem.W.Frag) (C CT : Addr) (st : Nat) (H : Hp) (B nb td : Addr) (ths sls as rs : List Addr) (nds : List Nd) : Prop where
  bk : BkA K C CT st H B td ths sls nds
  bo : BoA H nb as rs nds
  dj : ∀ a ∈ FN nb as rs, a ∉ FB B td ths sls
  ok : ∀ n ∈ nds, n.ok nds.length
  ln : nds.length ≤ 100
def FP (B nb td : Addr) (ths sls as rs : List Addr) : List Addr := FB B td ths sls ++ FN nb as rs
section
variable {K : PySem.W.Frag} {C CT : Addr} {st : Nat} {H H' : Hp} {B nb td : Addr} {ths sls as rs : List Addr} {nds : List Nd}
theorem BoA.frame (X : BoA H nb as rs nds) {F : List Addr} (c : Chg F H H') (d : ∀ a ∈ FN nb as rs, a ∉ F) : BoA H' nb as rs nds := by
  refine ⟨X.la, X.lr, c.keep _ _ (d _ (by simp [FN])) X.h0, fun k a r n h1 h2 h3 => ?_, fun k r n h1 h2 => ?_, X.nd⟩
  · obtain ⟨tv, h, q⟩ := X.hN k a r n h1 h2 h3
    exact ⟨tv, c.keep _ _ (d _ (by have := List.mem_of_getElem? h1; simp [FN, this])) h, q.mono c.tups⟩
  · obtain ⟨vs, h, q⟩ := X.hR k r n h1 h2
    exact ⟨vs, c.keep _ _ (d _ (by have := List.mem_of_getElem? h1; simp [FN, this])) h, q.mono c.tups⟩
theorem Pr.frame (X : Pr K C CT st H B nb td ths sls as rs nds) {F : List Addr} (c : Chg F H H') (d : ∀ a ∈ FP B nb td ths sls as rs, a ∉ F) : Pr K C CT st H' B nb td ths sls as rs nds :=
  ⟨X.bk.frame c fun a h => d a (List.mem_append_left _ h), X.bo.frame c fun a h => d a (List.mem_append_right _ h), X.dj, X.ok, X.ln⟩
theorem Pr.same (X : Pr K C CT st H B nb td ths sls as rs nds) (s : Same H H') : Pr K C CT st H' B nb td ths sls as rs nds := X.frame (F := []) (.same s) (fun _ _ h => by cases h)
/-- all of a pair stands -/
theorem Pr.here (X : Pr K C CT st H B nb td ths sls as rs nds) : ∀ a ∈ FP B nb td ths sls as rs, H a ≠ none := by
  intro a ha
  have l1 := X.bk.lt; have l2 := X.bk.ls; have l3 := X.bo.la; have l4 := X.bo.lr
  rcases List.mem_append.mp ha with h | h
  · rcases List.mem_cons.mp h with rfl | h
    · obtain ⟨dx, more, h, _⟩ := X.bk.hB; rw [h]; exact fun z => nomatch z
    rcases List.mem_cons.mp h with rfl | h
    · rw [X.bk.hD]; exact fun z => nomatch z
    rcases List.mem_append.mp h with h | h
    · obtain ⟨j, hj⟩ := List.getElem?_of_mem h
      obtain ⟨hj', _⟩ := List.getElem?_eq_some_iff.mp hj
      obtain ⟨dx, tv, g, _⟩ := X.bk.hT j a _ _ hj (List.getElem?_eq_getElem (by omega)) (List.getElem?_eq_getElem (by omega))
      rw [g]; exact fun z => nomatch z
    · obtain ⟨j, hj⟩ := List.getElem?_of_mem h
      obtain ⟨hj', _⟩ := List.getElem?_eq_some_iff.mp hj
      obtain ⟨vs, g, _⟩ := X.bk.hS j a _ hj (List.getElem?_eq_getElem (by omega))
      rw [g]; exact fun z => nomatch z
  · rcases List.mem_cons.mp h with rfl | h
    · rw [X.bo.h0]; exact fun z => nomatch z
    rcases List.mem_append.mp h with h | h
    · obtain ⟨j, hj⟩ := List.getElem?_of_mem h
      obtain ⟨hj', _⟩ := List.getElem?_eq_some_iff.mp hj
      obtain ⟨tv, g, _⟩ := X.bo.hN j a _ _ hj (List.getElem?_eq_getElem (by omega)) (List.getElem?_eq_getElem (by omega))
      rw [g]; exact fun z => nomatch z
    · obtain ⟨j, hj⟩ := List.getElem?_of_mem h
      obtain ⟨hj', _⟩ := List.getElem?_eq_some_iff.mp hj
      obtain ⟨vs, g, _⟩ := X.bo.hR j a _ hj (List.getElem?_eq_getElem (by omega))
      rw [g]; exact fun z => nomatch z
theorem Pr.newF (X : Pr K C CT st H B nb td ths sls as rs nds) {a : Addr} (h : H a = none) : ∀ b ∈ FP B nb td ths sls as rs, b ∉ [a] := fun b hb z => by
  rw [List.mem_singleton.mp z] at hb
  exact X.here a hb h
/-- the bank as an instance -/
theorem BkA.ins (X : BkA K C CT st H B td ths sls nds) : ∃ dx fs, H B = some (.ins C dx fs) ∧ List.lookup (Str.ofString "kind_of") fs = none ∧ List.lookup (Str.ofString "tag_of") fs = none ∧ List.lookup (Str.ofString "slots_of") fs = none ∧ List.lookup (Str.ofString "slot") fs = none ∧ List.lookup (Str.ofString "make") fs = none ∧ List.lookup (Str.ofString "set_slot") fs = none ∧ List.lookup (Str.ofString "change") fs = none := by
  obtain ⟨dx, more, hB, hM⟩ := X.hB
  refine ⟨dx, _, hB, ?_⟩
  rcases hM with ⟨_, rfl⟩ | ⟨_, md, rfl⟩ <;> exact ⟨rfl, rfl, rfl, rfl, rfl, rfl, rfl⟩
/-- the k-th node -/
theorem BoA.look (X : BoA H nb as rs nds) {k : Nat} {n : Nd} (hn : nds[k]? = some n) : ∃ a r tv vs, as[k]? = some a ∧ rs[k]? = some r ∧ H a = some (.lst [.str (S n.kind), tv, .ref r]) ∧ Rep H tv n.tag ∧ H r = some (.lst vs) ∧ Reps H vs (rowD ixD n.row) ∧ vs.length = n.row.length := by
  obtain ⟨hk, _⟩ := List.getElem?_eq_some_iff.mp hn
  have h1 := X.la; have h2 := X.lr
  have ea : as[k]? = some (as[k]'(by omega)) := List.getElem?_eq_getElem (by omega)
  have er : rs[k]? = some (rs[k]'(by omega)) := List.getElem?_eq_getElem (by omega)
  obtain ⟨tv, g, q⟩ := X.hN k _ _ n ea er hn
  obtain ⟨vs, g2, q2⟩ := X.hR k _ n er hn
  exact ⟨_, _, tv, vs, ea, er, g, q, g2, q2, by rw [q2.len]; unfold rowD; rw [List.length_map]⟩
end
def spTold (K : PySem.W.Frag) (C CT : Addr) (st : Nat) : Sp := fun vs H Q _ => ∃ (B nb td : Addr) (ths sls as rs : List Addr) (nds : List Nd), vs = [.ref B, .ref nb, .int (st : Nat)] ∧ Pr K C CT st H B nb td ths sls as rs nds ∧ ∀ H', Same H H' → Q (.bl true) H'
/-- what is changed is new -/
theorem same_chg {H H1 H2 : Hp} {p : Addr} (s : Same H H1) (h : H p = none) (c : Chg [p] H1 H2) : Same H H2 := fun a o e => c.keep a o (fun z => by rw [List.mem_singleton.mp z, h] at e; cases e) (s a o e)
section
variable {P : Program} {w : World} {K : PySem.W.Frag} {mg : Str → Option Value} {base : Heap} {C CT : Addr} {st : Nat}
theorem ok__law_told (T : Txt K w mg) (BK : BkM P w K mg base C CT st) (Ot : OkD P w K mg base CX0 1 "_law_table" p__law_table spTable) (Os : ∀ m, OkD P w K mg base CX0 3 "_law_sent" p__law_sent (spSent st m))
    (Oe : OkD P w K mg base CX0 10 "_law_same" p__law_same (spSame K 9)) (Op : OkD P w K mg base CX0 11 "_law_spoil" p__law_spoil (spSpoil K)) : OkD P w K mg base CX0 12 "_law_told" p__law_told (spTold K C CT st) := by
  obtain ⟨gl, fdl, psl, ls, lf, LF, lb⟩ := BK.len
  refine T.g__law_told.ok sc__law_told (fun vs H Q E h => ?_) (fun f cdv A outer s H vs Q E hr h => ?_)
  · obtain ⟨B, nb, td, ths, sls, as, rs, nds, rfl, _⟩ := h; rfl
  obtain ⟨B, nb, td, ths, sls, as, rs, nds, rfl, X, q⟩ := h
  have Os := Os nds.length
  refine ⟨_, (pss_cons (ps_if (pt_cmpR op_ne (pe_callB (call_lenOwn ls lf LF lb (hr.mono (by decide)) pass0) (by rfl) T.z_len PySem.boot_len (pa_cons (pv 0) pa_nil)) (pe_callB call_len_seq (by rfl) T.z_len PySem.boot_len (pa_cons (pv 1) pa_nil)) (nomark _)) (pss_one (ps_ret pe_bl)) pss_nil)
      (pss_cons (ps_set (i := 3) sc__law_told.nd rfl (.inl rfl) (pcall Ot hr (pa_cons (pe_callB call_len_seq (by rfl) T.z_len PySem.boot_len (pa_cons (pv 1) pa_nil)) (pa_cons (pv 2) pa_nil))))
      (pss_cons (ps_for PassesOwn.never rfl (pi_range1 rfl T.z_range (pa_cons (pe_callB call_len_seq (by rfl) T.z_len PySem.boot_len (pa_cons (pv 1) pa_nil)) pa_nil)) (pg_name (i := 4) sc__law_told.nd rfl (Or.inl rfl)) (pss_cons (ps_set (i := 5) sc__law_told.nd rfl (.inl rfl) (pe_ix ix_list (pv 1) (pv 4) (fun _ _ => rfl)))
      (pss_cons (ps_set (i := 6) sc__law_told.nd rfl (.inl rfl) (pe_tup (pa_cons pe_str (pa_cons (pe_ix ix_list (pv 3) (pv 4) (fun _ _ => rfl)) pa_nil))))
      (pss_cons (ps_set (i := 7) sc__law_told.nd rfl (.inl rfl) (pcall Os hr (pa_cons (pe_ix ix_list (pv 5) pe_int (fun _ _ => rfl)) (pa_cons (pv 3) pa_nil))))
      (pss_cons (ps_if (PW.pt (pw_or (pt_not (pt_val (pcall Oe hr (pa_cons (pmethE BK.kind_of BK.cl hr pass0 (pv 0) (pa_cons (pv 6) pa_nil)) (pa_cons (pe_ix ix_list (pv 5) pe_int (fun _ _ => rfl)) pa_nil))))) (pw_or1 (pt_not (pt_val (pcall Oe hr (pa_cons (pmethE BK.tag_of BK.cl hr pass0 (pv 0) (pa_cons (pv 6) pa_nil)) (pa_cons (pe_ix ix_list (pv 5) pe_int (fun _ _ => rfl)) pa_nil)))))))) (pss_one (ps_ret pe_bl)) pss_nil)
      (pss_cons (ps_set (i := 8) sc__law_told.nd rfl (.inl rfl) (pmethE BK.slots_of BK.cl hr pass0 (pv 0) (pa_cons (pv 6) pa_nil)))
      (pss_cons (ps_set (i := 9) sc__law_told.nd rfl (.inl rfl) (pmethE BK.slots_of BK.cl hr pass0 (pv 0) (pa_cons (pv 6) pa_nil)))
      (pss_cons (ps_if (PW.pt (pw_or (pt_not (pt_val (pcall Op hr (pa_cons (pv 8) (pa_cons (pv 7) pa_nil))))) (pw_or1 (pt_not (pt_val (pcall Oe hr (pa_cons (pv 9) (pa_cons (pv 7) pa_nil)))))))) (pss_one (ps_ret pe_bl)) pss_nil)
      (pss_cons (ps_if (pt_not (pt_val (pcall Oe hr (pa_cons (pmethE BK.slots_of BK.cl hr pass0 (pv 0) (pa_cons (pv 6) pa_nil)) (pa_cons (pv 7) pa_nil))))) (pss_one (ps_ret pe_bl)) pss_nil)
      (pss_one (ps_for PassesOwn.never rfl (pi_range1 rfl T.z_range (pa_cons (pe_callB call_len_seq (by rfl) T.z_len PySem.boot_len (pa_cons (pv 7) pa_nil)) pa_nil)) (pg_name (i := 10) sc__law_told.nd rfl (Or.inl rfl)) (pss_one (ps_if (pt_not (pt_val (pcall Oe hr (pa_cons (pmethE BK.slot BK.cl hr pass0 (pv 0) (pa_cons (pv 6) (pa_cons (pv 10) pa_nil))) (pa_cons (pe_ix ix_list (pv 7) (pv 10) (fun _ _ => rfl)) pa_nil))))) (pss_one (ps_ret pe_bl)) pss_nil)))))))))))))
      (pss_one (ps_ret pe_bl))))), ?_⟩
  have two : 2 ≤ sizeLine := by decide
  have la : (as.map V.ref).length = nds.length := by rw [List.length_map, X.bo.la]
  have l100 := X.ln
  obtain ⟨dxB, fsB, hB, _⟩ := X.bk.ins
  refine ⟨_, rfl, B, dxB, fsB, rfl, hB, ⟨B, td, ths, sls, nds, rfl, X.bk, _, rfl, by omega, by omega, ?_⟩⟩
  refine ⟨_, rfl, nb, _, rfl, .inl (SqL.of X.bo.h0), rfl, _, rfl, ?_⟩
  rw [la]
  refine ite2 (fun c => absurd c (by simp)) (fun _ => ?_)
  refine ⟨_, rfl, nb, _, rfl, .inl (SqL.of X.bo.h0), _, rfl, nds.length, st, by rw [la]; rfl, BK.h1, BK.h2, by omega, fun t H1 s1 ft ht => ?_⟩
  refine ⟨_, rfl, nb, _, rfl, .inl (SqL.of (s1 _ _ X.bo.h0)), (nds.length : Int), by rw [la], by omega, by omega, ?_⟩
  refine for_range (lo := 0) (n := nds.length) (fun i σ H' => ∃ o4 o5 o6 o7 o8 o9 o10, σ = [some (.ref B), some (.ref nb), some (.int (st : Nat)), some (.ref t), o4, o5, o6, o7, o8, o9, o10] ∧ Same H1 H') ⟨none, none, none, none, none, none, none, rfl, .refl _⟩ ?_ ?_
  · rintro i σ H2 hi ⟨o4, o5, o6, o7, o8, o9, o10, rfl, s2⟩
    have X2 := X.same (s1.trans s2)
    have ht2 := s2 _ _ ht
    have hn : nds[i]? = some nds[i] := List.getElem?_eq_getElem hi
    generalize nds[i] = n at hn
    have hno := X.ok n (List.mem_of_getElem? hn)
    obtain ⟨a, r, tv, vs, ea, er, g, rt, g2, rr, vl⟩ := X2.bo.look hn
    refine ⟨_, rfl, _, rfl, nb, _, _, .ref a, rfl, rfl, SqL.of X2.bo.h0, by rw [Int.zero_add]; exact atI_nat (by rw [List.getElem?_map, ea]; rfl), ?_⟩
    refine ⟨_, rfl, _, rfl, t, _, _, _, rfl, rfl, SqL.of ht2, by rw [Int.zero_add]; exact atI_nat (tbL_at hi), two, fun pv hpv => ?_⟩
    have hv : upd H2 pv (.tup [.str (Str.ofString "ref"), .int (tb st i)]) pv = some (.tup [.str (Str.ofString "ref"), .int (tb st i)]) := upd_same
    have s3 := s2.trans (same_new hpv (.tup [.str (Str.ofString "ref"), .int (tb st i)]))
    generalize upd H2 pv (.tup [.str (Str.ofString "ref"), .int (tb st i)]) = H3 at s3 hv
    have X3 := X.same (s1.trans s3)
    obtain ⟨a', r', tv', vs', ea', er', g', rt', g2', rr', vl'⟩ := X3.bo.look hn
    have e1 : a' = a := Option.some.inj (ea'.symm.trans ea)
    subst e1
    refine ⟨_, rfl, a', _, 2, _, rfl, rfl, SqL.of g', rfl, _, rfl, r', t, vs', n.row, rfl, g2', rr', hno.row, hno.len, s3 _ _ ht, fun du us H4 s4 fdu hdu ru => ?_⟩
    have S4 := s3.trans s4
    have X4 := X.same (s1.trans S4)
    have ul : us.length = n.row.length := by rw [ru.len]; unfold rowD; rw [List.length_map]
    have hv4 := s4 _ _ hv
    have g4 := s4 _ _ g'
    have rt4 := rt'.mono (.same s4)
    have dd : deps (rowD (tb st) n.row) ≤ 2 := rowD_dep hno.row
    have nr100 := hno.len
    -- kind and tag
    obtain ⟨dx4, fs4, hB4, k1, k2, k3, k4, k5, k6, k7⟩ := X4.bk.ins
    refine ⟨_, rfl, B, dx4, fs4, rfl, hB4, k1, _, rfl, B, td, ths, sls, nds, .ref pv, i, n, rfl, X4.bk, ⟨pv, _, rfl, hv4⟩, hn, ?_⟩
    refine ⟨_, rfl, a', _, 0, _, rfl, rfl, SqL.of g4, rfl, _, _, rfl, ⟨_, rfl, iteF ?_⟩, .inr ⟨.str n.kind, .str _, .str _, by unfold dep; omega⟩⟩
    refine ⟨_, rfl, B, dx4, fs4, rfl, hB4, k2, _, rfl, B, td, ths, sls, nds, .ref pv, i, n, rfl, X4.bk, ⟨pv, _, rfl, hv4⟩, hn, fun tu rtu => ?_⟩
    refine ⟨_, rfl, a', _, 1, _, rfl, rfl, SqL.of g4, rfl, _, _, rfl, ⟨_, rfl, iteF ?_⟩, .inr ⟨n.tag, rtu, rt4, by have := hno.tag; omega⟩⟩
    -- the rows
    refine ⟨_, rfl, B, dx4, fs4, rfl, hB4, k3, _, rfl, B, td, ths, sls, nds, .ref pv, i, n, rfl, X4.bk, ⟨pv, _, rfl, hv4⟩, hn, fun p8 w8 h8 r8 => ?_⟩
    have s5 := same_new h8 (.lst w8)
    have X5 := X.same (s1.trans (S4.trans s5))
    obtain ⟨dx5, fs5, hB5, _, _, j3, _⟩ := X5.bk.ins
    refine ⟨_, rfl, B, dx5, fs5, rfl, hB5, j3, _, rfl, B, td, ths, sls, nds, .ref pv, i, n, rfl, X5.bk, ⟨pv, _, rfl, s5 _ _ hv4⟩, hn, fun p9 w9 h9 r9 => ?_⟩
    have s6 := same_new h9 (.lst w9)
    have n89 : p8 ≠ p9 := fun z => by rw [← z, upd_same] at h9; cases h9
    have l8 : w8.length = n.row.length := by rw [r8.len]; unfold rowD; rw [List.length_map]
    have l9 : w9.length = n.row.length := by rw [r9.len]; unfold rowD; rw [List.length_map]
    have hdu6 := (s5.trans s6) _ _ hdu
    have q8 : upd (upd H4 p8 (.lst w8)) p9 (.lst w9) p8 = some (.lst w8) := by rw [upd_ne n89, upd_same]
    refine ⟨_, rfl, _, rfl, p8, du, w8, us, rowD (tb st) n.row, rfl, q8, hdu6, r8.mono (.same (s5.trans s6)), ru.mono (.same (s5.trans s6)), by omega, by omega, fun H7 zs c7 h7 => ⟨_, rfl, iteF ?_⟩⟩
    have S7 : Same H4 H7 := same_chg (s5.trans s6) h8 c7
    have q9 : H7 p9 = some (.lst w9) := c7.keep _ _ (by simp; exact Ne.symm n89) upd_same
    refine ⟨_, rfl, _, rfl, _, _, rfl, ⟨_, rfl, iteF ?_⟩, .inl ⟨true, p9, du, w9, us, rowD (tb st) n.row, rfl, rfl, q9, S7 _ _ hdu, r9.mono ((Tups.same s6).trans c7.tups), ru.mono (.same S7), by omega, by omega⟩⟩
    have X7 := X.same (s1.trans (S4.trans S7))
    obtain ⟨dx7, fs7, hB7, _, _, i3, _⟩ := X7.bk.ins
    refine ⟨_, rfl, B, dx7, fs7, rfl, hB7, i3, _, rfl, B, td, ths, sls, nds, .ref pv, i, n, rfl, X7.bk, ⟨pv, _, rfl, S7 _ _ hv4⟩, hn, fun pa wa ha ra => ?_⟩
    have s8 := same_new ha (.lst wa)
    have lA : wa.length = n.row.length := by rw [ra.len]; unfold rowD; rw [List.length_map]
    have S8 := S7.trans s8
    refine ⟨_, rfl, _, _, rfl, ⟨_, rfl, iteF ?_⟩, .inl ⟨true, pa, du, wa, us, rowD (tb st) n.row, rfl, rfl, upd_same, S8 _ _ hdu, ra.mono (.same s8), ru.mono (.same S8), by omega, by omega⟩⟩
    have hdu8 := S8 _ _ hdu
    have ru8 := ru.mono (.same S8)
    have X8 := X.same (s1.trans (S4.trans S8))
    have hv8 := S8 _ _ hv4
    have S20 := S4.trans S8
    generalize upd H7 pa (.lst wa) = H8 at hdu8 ru8 X8 hv8 S20
    refine ⟨_, rfl, du, _, rfl, .inl (SqL.of hdu8), (us.length : Int), rfl, by omega, by omega, ?_⟩
    refine for_range (lo := 0) (n := us.length) (fun j σ H' => ∃ o, σ = [some (.ref B), some (.ref nb), some (.int (st : Nat)), some (.ref t), some (.int (0 + (i : Int))), some (.ref a'), some (.ref pv), some (.ref du), some (.ref p8), some (.ref p9), o] ∧ H' = H8) ⟨o10, rfl, rfl⟩ ?_ ?_
    · rintro j σ H9 hj ⟨o, rfl, rfl⟩
      obtain ⟨dx9, fs9, hB9, _, _, _, m4, _⟩ := X8.bk.ins
      have hj' : j < n.row.length := by omega
      obtain ⟨u, hu, ruu⟩ := ru8.at (i := j) (d := (n.row[j]).d (tb st)) (by unfold rowD; rw [List.getElem?_map, List.getElem?_eq_getElem hj']; rfl)
      refine ⟨_, rfl, B, dx9, fs9, rfl, hB9, m4, _, rfl, _, rfl, B, td, ths, sls, nds, .ref pv, i, j, n, n.row[j], ?_, X8.bk, ⟨pv, _, rfl, hv8⟩, hn, List.getElem?_eq_getElem hj', fun v rv => ?_⟩
      · rw [show (0 + (j : Int)) = (j : Int) by omega]; rfl
      refine ⟨_, rfl, _, rfl, du, _, _, u, rfl, rfl, SqL.of hdu8, by rw [Int.zero_add]; exact atI_nat hu, _, _, rfl, ⟨_, rfl, iteF ⟨_, rfl, rfl⟩⟩, .inr ⟨_, rv, ruu, by have := Ent.dep (f := tb st) (hno.row _ (List.getElem_mem hj')); omega⟩⟩
    · rintro σ H9 ⟨o, rfl, rfl⟩
      exact ⟨_, _, _, _, _, _, _, rfl, S20⟩
  · rintro σ H2 ⟨o4, o5, o6, o7, o8, o9, o10, rfl, s2⟩
    exact q _ (s1.trans s2)
end
end D0
namespace D0
open PySem PySem.Spec PyProof.Rows L2 SX NumText
section
variable {K : PySem.W.Frag} {C CT : Addr} {st : Nat} {H H' : Hp} {B nb td : Addr} {ths sls as rs : List Addr} {nds : List Nd}
theorem BkA.here (X : BkA K C CT st H B td ths sls nds) : ∀ a ∈ FB B td ths sls, H a ≠ none := by
  intro a h
  have l1 := X.lt; have l2 := X.ls
  rcases List.mem_cons.mp h with rfl | h
  · obtain ⟨dx, more, h, _⟩ := X.hB; rw [h]; exact fun z => nomatch z
  rcases List.mem_cons.mp h with rfl | h
  · rw [X.hD]; exact fun z => nomatch z
  rcases List.mem_append.mp h with h | h
  · obtain ⟨j, hj⟩ := List.getElem?_of_mem h
    obtain ⟨hj', _⟩ := List.getElem?_eq_some_iff.mp hj
    obtain ⟨dx, tv, g, _⟩ := X.hT j a _ _ hj (List.getElem?_eq_getElem (by omega)) (List.getElem?_eq_getElem (by omega))
    rw [g]; exact fun z => nomatch z
  · obtain ⟨j, hj⟩ := List.getElem?_of_mem h
    obtain ⟨hj', _⟩ := List.getElem?_eq_some_iff.mp hj
    obtain ⟨vs, g, _⟩ := X.hS j a _ hj (List.getElem?_eq_getElem (by omega))
    rw [g]; exact fun z => nomatch z
theorem BoA.here (X : BoA H nb as rs nds) : ∀ a ∈ FN nb as rs, H a ≠ none := by
  intro a h
  have l3 := X.la; have l4 := X.lr
  rcases List.mem_cons.mp h with rfl | h
  · rw [X.h0]; exact fun z => nomatch z
  rcases List.mem_append.mp h with h | h
  · obtain ⟨j, hj⟩ := List.getElem?_of_mem h
    obtain ⟨hj', _⟩ := List.getElem?_eq_some_iff.mp hj
    obtain ⟨tv, g, _⟩ := X.hN j a _ _ hj (List.getElem?_eq_getElem (by omega)) (List.getElem?_eq_getElem (by omega))
    rw [g]; exact fun z => nomatch z
  · obtain ⟨j, hj⟩ := List.getElem?_of_mem h
    obtain ⟨hj', _⟩ := List.getElem?_eq_some_iff.mp hj
    obtain ⟨vs, g, _⟩ := X.hR j a _ hj (List.getElem?_eq_getElem (by omega))
    rw [g]; exact fun z => nomatch z
theorem BoA.fresh (X : BoA H nb as rs nds) {a : Addr} (h : H a = none) : a ∉ as ∧ a ∉ rs ∧ a ≠ nb := by
  have l3 := X.la; have l4 := X.lr
  refine ⟨fun m => ?_, fun m => ?_, fun z => ?_⟩
  · obtain ⟨j, hj⟩ := List.getElem?_of_mem m
    obtain ⟨hj', _⟩ := List.getElem?_eq_some_iff.mp hj
    obtain ⟨tv, g, _⟩ := X.hN j a _ _ hj (List.getElem?_eq_getElem (by omega)) (List.getElem?_eq_getElem (by omega))
    rw [h] at g; cases g
  · obtain ⟨j, hj⟩ := List.getElem?_of_mem m
    obtain ⟨hj', _⟩ := List.getElem?_eq_some_iff.mp hj
    obtain ⟨vs, g, _⟩ := X.hR j a _ hj (List.getElem?_eq_getElem (by omega))
    rw [h] at g; cases g
  · rw [z, X.h0] at h; cases h
theorem BoA.nas (X : BoA H nb as rs nds) {j : Nat} {a : Addr} (h : as[j]? = some a) : a ≠ nb ∧ a ∉ rs := ⟨fun z => X.nd.n1 (by rw [← z]; exact List.mem_of_getElem? h), X.nd.dj a (List.mem_of_getElem? h)⟩
theorem BoA.nrs (X : BoA H nb as rs nds) {j : Nat} {r : Addr} (h : rs[j]? = some r) : r ≠ nb ∧ r ∉ as := ⟨fun z => X.nd.n2 (by rw [← z]; exact List.mem_of_getElem? h), fun m => X.nd.dj r m (List.mem_of_getElem? h)⟩
/-- one more node -/
theorem BoA.more (X : BoA H nb as rs nds) {a r : Addr} {n : Nd} {tv : V} {vs : List V} (fa : H a = none) (fr : H r = none) (ne : a ≠ r) (c : Chg [nb] H H') (h0 : H' nb = some (.lst ((as.map V.ref) ++ [.ref a])))
    (h1 : H' a = some (.lst [.str (S n.kind), tv, .ref r])) (h2 : H' r = some (.lst vs)) (r1 : Rep H' tv n.tag) (r2 : Reps H' vs (rowD ixD n.row)) : BoA H' nb (as ++ [a]) (rs ++ [r]) (nds ++ [n]) := by
  have la := X.la; have lr := X.lr
  obtain ⟨a1, a2, a3⟩ := X.fresh fa
  obtain ⟨r1', r2', r3'⟩ := X.fresh fr
  refine ⟨by simp [X.la], by simp [X.lr], by rw [List.map_append]; exact h0, fun j x y m e1 e2 e3 => ?_, fun j y m e2 e3 => ?_, X.nd.more a1 a2 a3 r1' r2' r3' ne⟩
  · rcases Nat.lt_or_ge j nds.length with l | l
    · rw [List.getElem?_append_left (by omega)] at e1 e2 e3
      obtain ⟨tv1, g, q⟩ := X.hN j x y m e1 e2 e3
      exact ⟨tv1, c.keep _ _ (by simp; exact (X.nas e1).1) g, q.mono c.tups⟩
    · rw [List.getElem?_append_right (by omega)] at e1 e2 e3
      have e5 : j - nds.length = 0 := by
        cases q : j - nds.length with
        | zero => rfl
        | succ x => rw [q] at e3; simp at e3
      rw [show j - as.length = 0 by omega] at e1
      rw [show j - rs.length = 0 by omega] at e2
      rw [e5] at e3
      cases e1; cases e2; cases e3
      exact ⟨tv, h1, r1⟩
  · rcases Nat.lt_or_ge j nds.length with l | l
    · rw [List.getElem?_append_left (by omega)] at e2 e3
      obtain ⟨vs1, g, q⟩ := X.hR j y m e2 e3
      exact ⟨vs1, c.keep _ _ (by simp; exact (X.nrs e2).1) g, q.mono c.tups⟩
    · rw [List.getElem?_append_right (by omega)] at e2 e3
      have e5 : j - nds.length = 0 := by
        cases q : j - nds.length with
        | zero => rfl
        | succ x => rw [q] at e3; simp at e3
      rw [show j - rs.length = 0 by omega] at e2
      rw [e5] at e3
      cases e2; cases e3
      exact ⟨vs, h2, r2⟩
/-- the node k is another -/
theorem BoA.setNode (X : BoA H nb as rs nds) {k : Nat} {a r : Addr} {n : Nd} {tv : V} {vs : List V} (hk : k < nds.length) (fa : H a = none) (fr : H r = none) (ne : a ≠ r) (c : Chg [nb] H H') (h0 : H' nb = some (.lst ((as.map V.ref).set k (.ref a))))
    (h1 : H' a = some (.lst [.str (S n.kind), tv, .ref r])) (h2 : H' r = some (.lst vs)) (r1 : Rep H' tv n.tag) (r2 : Reps H' vs (rowD ixD n.row)) : BoA H' nb (as.set k a) (rs.set k r) (nds.set k n) := by
  have la := X.la; have lr := X.lr
  obtain ⟨a1, a2, a3⟩ := X.fresh fa
  obtain ⟨r1', r2', r3'⟩ := X.fresh fr
  refine ⟨by simp [X.la], by simp [X.lr], by rw [List.map_set]; exact h0, fun j x y m e1 e2 e3 => ?_, fun j y m e2 e3 => ?_, X.nd.put a1 a2 a3 r1' r2' r3' ne⟩
  · rw [List.getElem?_set] at e1 e2 e3
    by_cases e : k = j
    · subst e
      rw [if_pos rfl, if_pos (by omega)] at e1 e2 e3
      cases e1; cases e2; cases e3
      exact ⟨tv, h1, r1⟩
    · rw [if_neg e] at e1 e2 e3
      obtain ⟨tv1, g, q⟩ := X.hN j x y m e1 e2 e3
      exact ⟨tv1, c.keep _ _ (by simp; exact (X.nas e1).1) g, q.mono c.tups⟩
  · rw [List.getElem?_set] at e2 e3
    by_cases e : k = j
    · subst e
      rw [if_pos rfl, if_pos (by omega)] at e2 e3
      cases e2; cases e3
      exact ⟨vs, h2, r2⟩
    · rw [if_neg e] at e2 e3
      obtain ⟨vs1, g, q⟩ := X.hR j y m e2 e3
      exact ⟨vs1, c.keep _ _ (by simp; exact (X.nrs e2).1) g, q.mono c.tups⟩
/-- the row of the node k is another -/
theorem BoA.setRow (X : BoA H nb as rs nds) {k : Nat} {n : Nd} {r : Addr} {vs : List V} {row : List Ent} (hn : nds[k]? = some n) (hr : rs[k]? = some r) (r2 : Reps H vs (rowD ixD row)) :
    BoA (upd H r (.lst vs)) nb as rs (nds.set k ⟨n.kind, n.tag, row⟩) ∧ Chg [r] H (upd H r (.lst vs)) := by
  obtain ⟨vs0, g0, _⟩ := X.hR k r n hr hn
  have c : Chg [r] H (upd H r (.lst vs)) := .upd g0 (fun _ z => by cases z) (List.mem_singleton_self _)
  obtain ⟨nr1, nr2⟩ := X.nrs hr
  refine ⟨⟨by simp [X.la], by simp [X.lr], by rw [upd_ne (Ne.symm nr1)]; exact X.h0, fun j x y m e1 e2 e3 => ?_, fun j y m e2 e3 => ?_, X.nd⟩, c⟩
  · have nx : x ≠ r := fun z => nr2 (by rw [← z]; exact List.mem_of_getElem? e1)
    rw [List.getElem?_set] at e3
    by_cases e : k = j
    · subst e
      rw [if_pos rfl] at e3
      split at e3
      · cases e3
        obtain ⟨tv1, g, q⟩ := X.hN k x y n e1 e2 hn
        exact ⟨tv1, by rw [upd_ne nx]; exact g, q.mono c.tups⟩
      · cases e3
    · rw [if_neg e] at e3
      obtain ⟨tv1, g, q⟩ := X.hN j x y m e1 e2 e3
      exact ⟨tv1, by rw [upd_ne nx]; exact g, q.mono c.tups⟩
  · rw [List.getElem?_set] at e3
    by_cases e : k = j
    · subst e
      rw [if_pos rfl] at e3
      have : y = r := Option.some.inj (e2.symm.trans hr)
      subst this
      split at e3
      · cases e3; exact ⟨vs, upd_same, r2.mono c.tups⟩
      · cases e3
    · rw [if_neg e] at e3
      have ny : y ≠ r := fun z => e (inj_nodup X.nd.nr (by rw [← z] at hr; exact hr) e2)
      obtain ⟨vs1, g, q⟩ := X.hR j y m e2 e3
      exact ⟨vs1, by rw [upd_ne ny]; exact g, q.mono c.tups⟩
end
end D0
namespace D0
open PySem PySem.Spec PyProof.Rows L2 SX NumText
/-- what a deed leaves -/
def Done (K : PySem.W.Frag) (C CT : Addr) (st : Nat) (b B nb td : Addr) (ths sls as rs : List Addr) (nds : List Nd) (H : Hp) (Q : VK) : Prop :=
  ∀ H' ths' sls' as' rs' nds', Pr K C CT st H' B nb td ths' sls' as' rs' nds' → Chg (b :: FP B nb td ths sls as rs) H H' → (∀ a ∈ FP B nb td ths' sls' as' rs', a ∈ FP B nb td ths sls as rs ∨ H a = none) → Bag H' b → nds'.length ≤ nds.length + 2 → Q (.bl true) H'
def spMakeL (K : PySem.W.Frag) (C CT : Addr) (st : Nat) : Sp := fun vs H Q _ => ∃ (b B nb td : Addr) (ths sls as rs : List Addr) (nds : List Nd), vs = [.ref b, .ref B, .ref nb, .int (st : Nat)] ∧ Bag H b ∧ b ∉ FP B nb td ths sls as rs ∧ Pr K C CT st H B nb td ths sls as rs nds ∧ nds.length ≤ 90 ∧
  Done K C CT st b B nb td ths sls as rs nds H Q
theorem same_live {H H' : Hp} (s : Same H H') {a : Addr} (h : H' a = none) : H a = none := live_same s a h
theorem Pool.of {H : Hp} {b p : Addr} {m : Nat} {ks : List Nat} (n : p ≠ b) (h : H p = some (.lst (nats ks))) (l : ∀ k ∈ ks, k < m) (c : ks.length ≤ 1000) : Pool H b p m := ⟨n, ks, h, l, c⟩
theorem rep_tb {H : Hp} {a : Addr} {i : Int} (h : H a = some (.tup [.str (Str.ofString "ref"), .int i])) : Rep H (.ref a) (.tup [.str (cs (Str.ofString "ref")), .int i]) := Rep.two h (Rep.sv _) (.int i)
theorem tb_eq {st n : Nat} (h : 1 ≤ st) : (st : Int) * (n : Nat) + st - 1 = tb st n := by
  unfold tb
  rw [← Int.natCast_mul]; omega
section
variable {P : Program} {w : World} {K : PySem.W.Frag} {mg : Str → Option Value} {base : Heap} {C CT : Addr} {st : Nat}
theorem Pr.stp {H H' : Hp} {b B nb td : Addr} {ths sls as rs : List Addr} {nds : List Nd} (X : Pr K C CT st H B nb td ths sls as rs nds) (n : b ∉ FP B nb td ths sls as rs) (x : Stp b H H') : Pr K C CT st H' B nb td ths sls as rs nds :=
  X.frame x.chg fun a ha z => n (by rw [← List.mem_singleton.mp z]; exact ha)
theorem ok__law_make (T : Txt K w mg) (BK : BkM P w K mg base C CT st) (O : OkD P w K mg base CX0 1 "_law_take" p__law_take spTake) (Ok : OkD P w K mg base CX0 2 "_law_kind" p__law_kind spKind)
    (Of : OkD P w K mg base CX0 7 "_law_form" p__law_form spForm) (Oer : OkD P w K mg base CX0 1 "_law_errors" p__law_errors spErrors) (Ot : OkD P w K mg base CX0 1 "_law_table" p__law_table spTable) (Os : ∀ m, OkD P w K mg base CX0 3 "_law_sent" p__law_sent (spSent st m))
    (Oe : OkD P w K mg base CX0 10 "_law_same" p__law_same (spSame K 9)) (Op : OkD P w K mg base CX0 11 "_law_spoil" p__law_spoil (spSpoil K)) : OkD P w K mg base CX0 12 "_law_make" p__law_make (spMakeL K C CT st) := by
  refine T.g__law_make.ok sc__law_make (fun vs H Q E h => ?_) (fun f cdv A outer s H vs Q E hr h => ?_)
  · obtain ⟨b, B, nb, td, ths, sls, as, rs, nds, rfl, _⟩ := h; rfl
  obtain ⟨b, B, nb, td, ths, sls, as, rs, nds, rfl, hb, hbF, X, hln, q⟩ := h
  have Os := Os nds.length
  have lim : (1000 : Nat) < sizeLine := by decide
  have two : 2 ≤ sizeLine := by omega
  have h1 := BK.h1
  have h2 := BK.h2
  refine ⟨_, (pss_cons (ps_setLc (i := 4) (own := [("k", 11)]) (g := gName 11) (tt := tYes) rfl sc__law_make.nd rfl rfl rfl (pi_range1 rfl T.z_range (pa_cons (pe_callB call_len_seq (by rfl) T.z_len PySem.boot_len (pa_cons (pv 2) pa_nil)) pa_nil)) (blkOk_by (own := [("k", 11)]) (N := n__law_make) (sc := defScope s__law_make) (by decide +kernel)) (fun _ _ _ _ _ => (pg_name (i := 11) sc__law_make.nd rfl (Or.inl rfl))) (fun _ _ _ _ _ => pts_nil) (fun _ _ _ _ _ => (pv 11)))
      (pss_cons (ps_set (i := 5) sc__law_make.nd rfl (.inl rfl) (pcall Ok hr (pa_cons (pv 0) pa_nil)))
      (pss_cons (ps_set (i := 6) sc__law_make.nd rfl (.inl rfl) (pcall Of hr (pa_cons (pv 0) (pa_cons (pv 5) (pa_cons (pv 4) (pa_cons (pcall Oer hr (pa_cons (pv 2) pa_nil)) pa_nil))))))
      (pss_cons (ps_set (i := 7) sc__law_make.nd rfl (.inl rfl) (pcall Os hr (pa_cons (pe_ix ix_tup (pv 6) pe_int (fun _ _ => rfl)) (pa_cons (pcall Ot hr (pa_cons (pe_callB call_len_seq (by rfl) T.z_len PySem.boot_len (pa_cons (pv 2) pa_nil)) (pa_cons (pv 3) pa_nil))) pa_nil))))
      (pss_cons (ps_set (i := 8) sc__law_make.nd rfl (.inl rfl) (pe_callTy call_list_of (by rfl) T.z_list PyProof.Rows.boot_list (pa_cons (pv 7) pa_nil)))
      (pss_cons (ps_for PassesOwn.never rfl (pi_range1 rfl T.z_range (pa_cons (pe_op op_add pe_int (pe_callTy call_int1 (by rfl) T.z_int PyProof.Rows.boot_int (pa_cons (pe_cmpR op_eq (pcall O hr (pa_cons (pv 0) (pa_cons pe_int pa_nil))) pe_int (nomark _)) pa_nil))) pa_nil)) (pg_name (i := 9) sc__law_make.nd rfl (Or.inl rfl)) (pss_cons (ps_set (i := 10) sc__law_make.nd rfl (.inl rfl) (pmethE BK.make BK.cl hr pass0 (pv 1) (pa_cons (pv 5) (pa_cons (pe_ix ix_tup (pv 6) pe_int (fun _ _ => rfl)) (pa_cons (pv 7) pa_nil)))))
      (pss_cons (ps_if (pt_not (pt_val (pcall Oe hr (pa_cons (pv 10) (pa_cons (pe_tup (pa_cons pe_str (pa_cons (pe_op op_sub (pe_op op_add (pe_op op_mul (pv 3) (pe_callB call_len_seq (by rfl) T.z_len PySem.boot_len (pa_cons (pv 2) pa_nil))) (pv 3)) pe_int) pa_nil))) pa_nil))))) (pss_one (ps_ret pe_bl)) pss_nil)
      (pss_one (ps_expr (pe_bm PySem.F.plainAttrs_list PySem.F.slot_list_append PySem.F.type_list_append mt_append (pv 2) (pa_cons (pe_lst (pa_cons (pv 5) (pa_cons (pe_ix ix_tup (pv 6) pe_int (fun _ _ => rfl)) (pa_cons (pe_callTy call_list_of (by rfl) T.z_list PyProof.Rows.boot_list (pa_cons (pe_ix ix_tup (pv 6) pe_int (fun _ _ => rfl)) pa_nil)) pa_nil)))) pa_nil)))))))
      (pss_one (ps_ret (pcall Op hr (pa_cons (pv 7) (pa_cons (pv 8) pa_nil))))))))))), ?_⟩
  have la : (as.map V.ref).length = nds.length := by rw [List.length_map, X.bo.la]
  refine ⟨_, rfl, nb, _, rfl, .inl (SqL.of X.bo.h0), (nds.length : Int), by rw [la], by omega, by omega, fun D1 hD1 => ?_⟩
  have nD : D1 ≠ b := hb.ne hD1
  refine lc_it walk_range (fun i H' => Same H H' ∧ H' D1 = some (.lst (nats (List.range i)))) ⟨same_new hD1 _, upd_same⟩ (fun _ _ _ _ => trivial) ?_ ?_
  · rintro i x H3 H4 hi ⟨s3, h3⟩ ⟨rfl, rfl⟩
    refine ⟨rfl, iteT (B := True) (iteT ?_)⟩
    have hi' : i < nds.length := by simpa using hi
    refine ⟨_, rfl, _, h3, by unfold nats; rw [List.length_map, List.length_range]; omega, same_grow s3 hD1, ?_⟩
    rw [upd_same, List.range_succ, nats_app]
    show some (HO.lst (nats (List.range i) ++ [V.int (0 + (i : Int))])) = some (HO.lst (nats (List.range i) ++ [V.int (i : Int)]))
    rw [Int.zero_add]
  rintro H1 ⟨s1, hp1⟩
  have hp1 : H1 D1 = some (.lst (nats (List.range nds.length))) := by simpa using hp1
  have x1 : Stp b H H1 := .same hb s1
  have P1 : Pool H1 b D1 nds.length := .of nD hp1 (fun k hk => List.mem_range.mp hk) (by rw [List.length_range]; omega)
  refine ⟨_, rfl, b, rfl, x1.b1, fun z0 H2 x2 hz0 => ?_⟩
  obtain ⟨l, rfl⟩ : ∃ l, z0 = S l := ⟨_, S_cs _⟩
  have X2 := X.stp hbF (x1.trans x2)
  refine ⟨_, rfl, _, rfl, _, rfl, _, rfl, nb, as, rfl, X2.bo.h0, fun a ha => ?_, by rw [X2.bo.la]; omega, fun er ks H3 s3 fer her lk ck => ?_⟩
  · obtain ⟨j, hj⟩ := List.getElem?_of_mem ha
    obtain ⟨hj', _⟩ := List.getElem?_eq_some_iff.mp hj
    have e1 := X2.bo.la; have e2 := X2.bo.lr
    obtain ⟨tv, g, _⟩ := X2.bo.hN j a _ _ hj (List.getElem?_eq_getElem (by omega)) (List.getElem?_eq_getElem (by omega))
    exact ⟨_, _, g⟩
  have x3 : Stp b H2 H3 := .same x2.b1 s3
  have P3 : Pool H3 b er nds.length := .of (x2.b1.ne fer) her (fun k hk => by have := lk k hk; rw [X2.bo.la] at this; exact this) ck
  refine ⟨b, D1, er, S l, nds.length, rfl, x3.b1, (P1.stp x2).stp x3, P3, fun p6 tv r6 tag es ws H4 x4 h6 rt hd fr6 hr6 rr oe le => ?_⟩
  have x14 := (x1.trans x2).trans (x3.trans x4)
  have X4 := X.stp hbF x14
  have fr6' : H r6 = none := ((x1.trans x2).trans x3).chg.live _ fr6
  -- given
  refine ⟨_, rfl, p6, _, 1, _, rfl, rfl, SqT.of h6, rfl, _, rfl, nb, _, rfl, .inl (SqL.of X4.bo.h0), _, rfl, nds.length, st, by rw [la]; rfl, h1, h2, by omega, fun t H5 s5 ft ht => ?_⟩
  refine ⟨r6, t, ws, es, rfl, s5 _ _ hr6, rr.mono (.same s5), oe, le, ht, fun g us H6 s6 fg hg ru => ?_⟩
  have s46 := s5.trans s6
  have ul : us.length = es.length := by rw [ru.len]; unfold rowD; rw [List.length_map]
  refine ⟨_, rfl, g, us, rfl, .inl (SqL.of hg), fun d8 hd8 => ?_⟩
  have s7 := same_new hd8 (.lst us)
  have h8 : upd H6 d8 (.lst us) d8 = some (.lst us) := upd_same
  have ngd : g ≠ d8 := ne_of_none hg hd8
  have S47 := s46.trans s7
  have fg' : H g = none := x14.chg.live _ (live_same s5 _ fg)
  have fd8 : H d8 = none := x14.chg.live _ (live_same s46 _ hd8)
  have hg7 := s7 _ _ hg
  have ru7 := ru.mono (.same s7)
  generalize upd H6 d8 (.lst us) = H7 at s7 h8 S47 hg7 ru7
  have x17 : Stp b H H7 := x14.trans (.same x4.b1 S47)
  -- the loop
  refine ⟨_, rfl, b, 3, rfl, x17.b1, by decide, by decide, fun r H8 _ _ x8 => ⟨rfl, .inr ⟨_, rfl, _, _, rfl, rfl, ?_⟩⟩⟩
  have hc : ∀ c : Bool, ∃ m : Nat, m ≤ 2 ∧ 1 + (if c = true then (1 : Int) else 0) = (m : Nat) := fun c => match c with | false => ⟨1, by omega, rfl⟩ | true => ⟨2, by omega, rfl⟩
  obtain ⟨m, hm, em⟩ := hc (decide (V.int r = V.int 0))
  refine ⟨(m : Int), by rw [← em], by omega, by omega, ?_⟩
  have x18 := x17.trans x8
  have X8 := X.stp hbF x18
  have kb : ∀ {a : Addr} {o : HO}, H a = none → H7 a = some o → H8 a = some o := fun fa h => x8.keep _ _ (hb.ne fa) h
  have hg8 := kb fg' hg7
  have hd8' := kb fd8 h8
  have ru8 := ru7.mono x8.tups
  have t48 : Tups H4 H8 := (Tups.same S47).trans x8.tups
  have h68 := t48 _ _ h6
  have rt8 := rt.mono t48
  have hr8 := kb fr6' (S47 _ _ hr6)
  have rr8 := rr.mono t48
  refine for_range (lo := 0) (n := m) (fun i σ H' => ∃ o9 o10 ths' sls' as' rs', σ = [some (.ref b), some (.ref B), some (.ref nb), some (.int (st : Nat)), some (.ref D1), some (.str (S l)), some (.ref p6), some (.ref g), some (.ref d8), o9, o10, none] ∧
    Pr K C CT st H' B nb td ths' sls' as' rs' (nds ++ List.replicate i ⟨l, tag, es⟩) ∧ Chg (FP B nb td ths sls as rs) H8 H' ∧ (∀ a ∈ FP B nb td ths' sls' as' rs', a ∈ FP B nb td ths sls as rs ∨ H8 a = none)) ⟨none, none, ths, sls, as, rs, rfl, by simpa using X8, .refl, fun a h => .inl h⟩ ?_ ?_
  · rintro i σ H9 hi ⟨o9, o10, ths', sls', as', rs', rfl, X9, c9, f9⟩
    obtain ⟨NL, eN⟩ : ∃ NL, NL = nds ++ List.replicate i (⟨l, tag, es⟩ : Nd) := ⟨_, rfl⟩
    have eN2 : nds ++ List.replicate (i + 1) (⟨l, tag, es⟩ : Nd) = NL ++ [⟨l, tag, es⟩] := by rw [eN, List.append_assoc, List.replicate_succ']
    rw [eN2]
    rw [← eN] at X9
    have nl : NL.length = nds.length + i := by rw [eN, List.length_append, List.length_replicate]
    have kp : ∀ {a : Addr} {o : HO}, H a = none → H8 a = some o → H9 a = some o := fun fa h => c9.keep _ _ (fun z => X.here _ z fa) h
    have h69 := c9.tups _ _ h68
    obtain ⟨dx, fs, hB, _, _, _, _, k5, _, _⟩ := X9.bk.ins
    refine ⟨_, rfl, B, dx, fs, rfl, hB, k5, _, rfl, _, rfl, p6, _, 0, _, rfl, rfl, SqT.of h69, rfl, _, rfl, B, td, ths', sls', NL, l, tv, g, us, tag, es, rfl, X9.bk, by omega, rt8.mono c9.tups, kp fg' hg8, ru8.mono c9.tups, fun t1 s1 p H10 Y10 c10 ft1 fs1 hp => ?_⟩
    have N10 := X9.bo.frame c10 fun a ha z => X9.dj a ha (by simp at z; rcases z with rfl | rfl <;> simp [FB])
    have la' : (as'.map V.ref).length = NL.length := by rw [List.length_map, X9.bo.la]
    refine ⟨_, rfl, _, rfl, _, rfl, nb, _, rfl, .inl (SqL.of N10.h0), _, _, rfl, rfl, .inl ⟨by omega, by omega⟩, _, rfl, _, _, rfl, rfl, _, _, rfl, rfl, two, fun p2 hp2 => ?_⟩
    have ev : ((st : Int) * ((as'.map V.ref).length : Int) + (st : Int) - 1) = tb st NL.length := by rw [la']; exact tb_eq h1
    have s11 := same_new hp2 (.tup [.str (Str.ofString "ref"), .int ((st : Int) * ((as'.map V.ref).length : Int) + (st : Int) - 1)])
    have hp11 := s11 _ _ hp
    have hp12 : upd H10 p2 (.tup [.str (Str.ofString "ref"), .int ((st : Int) * ((as'.map V.ref).length : Int) + (st : Int) - 1)]) p2 = some (.tup [.str (Str.ofString "ref"), .int (tb st NL.length)]) := by rw [upd_same, ev]
    refine ⟨_, _, rfl, ⟨_, rfl, iteF ?_⟩, .inr ⟨_, rep_tb hp11, rep_tb hp12, by rw [dep_tup]; simp [deps, dep]⟩⟩
    generalize upd H10 p2 (.tup [.str (Str.ofString "ref"), .int ((st : Int) * ((as'.map V.ref).length : Int) + (st : Int) - 1)]) = H11 at s11 hp11 hp12
    have kp2 : ∀ {a : Addr} {o : HO}, H a = none → H8 a = some o → H11 a = some o := fun fa h => s11 _ _ (c10.keep _ _ (fun z => X.here _ (by simp at z; rcases z with rfl | rfl <;> simp [FP, FB]) fa) (kp fa h))
    have t811 : Tups H8 H11 := c9.tups.trans (c10.tups.trans (.same s11))
    have h611 := t811 _ _ h68
    refine ⟨_, rfl, .inl ⟨rfl, _, SqL.of (s11 _ _ N10.h0)⟩, _, rfl, _, rfl, p6, _, 0, _, rfl, rfl, SqT.of h611, rfl, _, rfl, p6, _, 1, _, rfl, rfl, SqT.of h611, rfl, r6, ws, rfl, .inl (SqL.of (kp2 fr6' hr8)), fun l1 hl1 => ⟨by show 3 ≤ sizeLine; omega, fun a1 ha1 => ?_⟩⟩
    have s12 := same_new hl1 (.lst ws)
    have s13 := same_new ha1 (.lst [.str (S l), tv, .ref l1])
    have S1013 : Same H10 _ := s11.trans (s12.trans s13)
    have fl1 : H10 l1 = none := live_same s11 _ hl1
    have fa1 : H10 a1 = none := live_same (s11.trans s12) _ ha1
    have nal : a1 ≠ l1 := fun z => by rw [z, upd_same] at ha1; cases ha1
    have hnb := S1013 _ _ N10.h0
    refine ⟨nb, as'.map V.ref, _, rfl, rfl, hnb, by rw [la']; omega, ?_⟩
    have c14 : Chg [nb] H10 (upd (upd (upd H11 l1 (.lst ws)) a1 (.lst [.str (S l), tv, .ref l1])) nb (.lst (as'.map V.ref ++ [.ref a1]))) := (Chg.same S1013).trans (.upd hnb (fun _ z => by cases z) (List.mem_singleton_self _))
    obtain ⟨n1, n2, n3⟩ := N10.fresh fa1
    obtain ⟨n4, n5, n6⟩ := N10.fresh fl1
    have t814 : Tups H8 _ := c9.tups.trans (c10.tups.trans c14.tups)
    have N14 := N10.more (n := ⟨l, tag, es⟩) (tv := tv) (vs := ws) fa1 fl1 nal c14 upd_same (by rw [upd_ne n3, upd_same]) (by rw [upd_ne n6, upd_ne (Ne.symm nal), upd_same]) (rt8.mono t814) (rr8.mono t814)
    have fnb : nb ∉ FB B td ths' sls' := X9.dj nb (by simp [FN])
    have hnb9 : H9 nb ≠ none := by rw [X9.bo.h0]; exact fun z => nomatch z
    have Y14 := Y10.frame c14 fun a ha z => by
      rw [List.mem_singleton.mp z] at ha
      simp only [FB, List.mem_cons, List.mem_append, List.not_mem_nil, or_false] at ha fnb
      rcases ha with h | h | (h | h) | (h | h)
      · exact fnb (.inl h)
      · exact fnb (.inr (.inl h))
      · exact fnb (.inr (.inr (.inl h)))
      · exact hnb9 (by rw [h]; exact ft1)
      · exact fnb (.inr (.inr (.inr h)))
      · exact hnb9 (by rw [h]; exact fs1)
    generalize (upd (upd (upd H11 l1 (.lst ws)) a1 (.lst [.str (S l), tv, .ref l1])) nb (.lst (as'.map V.ref ++ [.ref a1]))) = H14 at c14 N14 Y14
    refine ⟨_, _, ths' ++ [t1], sls' ++ [s1], as' ++ [a1], rs' ++ [l1], rfl, ⟨Y14, N14, fun a ha z => ?_, fun n hn => ?_, by rw [List.length_append]; show NL.length + 1 ≤ 100; omega⟩, (c9.trans (c10.mono fun a h => by simp at h; rcases h with rfl | rfl <;> simp [FP, FB])).trans (c14.mono fun a h => by simp at h; rw [h]; simp [FP, FN]), fun a ha => ?_⟩
    · simp only [FB, FN, List.mem_cons, List.mem_append, List.not_mem_nil, or_false] at ha z
      have old : ∀ a, a ∈ FN nb as' rs' → a ∉ FB B td (ths' ++ [t1]) (sls' ++ [s1]) := fun a ha z => by
        have d := X9.dj a ha
        have pr := X9.bo.here a ha
        simp only [FB, List.mem_cons, List.mem_append, List.not_mem_nil, or_false] at z d
        rcases z with h | h | (h | h) | (h | h)
        · exact d (.inl h)
        · exact d (.inr (.inl h))
        · exact d (.inr (.inr (.inl h)))
        · exact pr (by rw [h]; exact ft1)
        · exact d (.inr (.inr (.inr h)))
        · exact pr (by rw [h]; exact fs1)
      have z' : a ∈ FB B td (ths' ++ [t1]) (sls' ++ [s1]) := by simp only [FB, List.mem_cons, List.mem_append, List.not_mem_nil, or_false]; exact z
      rcases ha with h | (h | h) | (h | h)
      · exact old a (by simp [FN, h]) z'
      · exact old a (by simp [FN, h]) z'
      · exact Y10.here a z' (by rw [h]; exact fa1)
      · exact old a (by simp [FN, h]) z'
      · exact Y10.here a z' (by rw [h]; exact fl1)
    · rw [List.length_append]
      rcases List.mem_append.mp hn with h | h
      · exact (X9.ok n h).mono (by omega)
      · rw [List.mem_singleton.mp h]; exact ⟨hd, fun e he => (oe e he).mono (by omega), le⟩
    · have fr : ∀ {x : Addr}, H9 x = none → H8 x = none := fun h => c9.live _ h
      simp only [FP, FB, FN, List.mem_cons, List.mem_append, List.not_mem_nil, or_false] at ha
      have old : a ∈ FP B nb td ths' sls' as' rs' → a ∈ FP B nb td ths sls as rs ∨ H8 a = none := f9 a
      rcases ha with (h | h | (h | h) | (h | h)) | (h | (h | h) | (h | h))
      · exact old (by simp [FP, FB, h])
      · exact old (by simp [FP, FB, h])
      · exact old (by simp [FP, FB, h])
      · rw [h]; exact .inr (fr ft1)
      · exact old (by simp [FP, FB, h])
      · rw [h]; exact .inr (fr fs1)
      · exact old (by simp [FP, FN, h])
      · exact old (by simp [FP, FN, h])
      · rw [h]; exact .inr (fr (c10.live _ fa1))
      · exact old (by simp [FP, FN, h])
      · rw [h]; exact .inr (fr (c10.live _ fl1))
  · rintro σ H9 ⟨o9, o10, ths', sls', as', rs', rfl, X9, c9, f9⟩
    have kp : ∀ {a : Addr} {o : HO}, H a = none → H8 a = some o → H9 a = some o := fun fa h => c9.keep _ _ (fun z => X.here _ z fa) h
    have hb9 : Bag H9 b := by
      obtain ⟨b1, b2, b3, b4, b5, e⟩ := x18.b1
      exact ⟨b1, b2, b3, b4, b5, c9.keep _ _ hbF e⟩
    refine ⟨_, rfl, _, rfl, g, d8, us, us, rowD (tb st) es, rfl, kp fg' hg8, kp fd8 hd8', ru8.mono c9.tups, ru8.mono c9.tups, by omega, by have := rowD_dep (f := tb st) oe; omega, fun H' zs cc hz => ?_⟩
    have ngF : g ∉ FP B nb td ths' sls' as' rs' := fun z => by
      rcases f9 g z with z | z
      · exact X.here g z fg'
      · rw [hg8] at z; cases z
    refine q H' ths' sls' as' rs' _ (X9.frame cc fun a ha z => ngF (by rw [← List.mem_singleton.mp z]; exact ha)) ?_ (fun a ha => ?_) ?_ (by rw [List.length_append, List.length_replicate]; omega)
    · have c19 : Chg (b :: FP B nb td ths sls as rs) H H9 := (x18.chg.mono fun a h => by rw [List.mem_singleton.mp h]; exact List.mem_cons_self ..).trans (c9.mono fun a h => List.mem_cons_of_mem _ h)
      exact c19.trans2 cc fun a h => .inr (by rw [List.mem_singleton.mp h]; exact fg')
    · rcases f9 a ha with h | h
      · exact .inl h
      · exact .inr (x18.chg.live _ h)
    · obtain ⟨b1, b2, b3, b4, b5, e⟩ := hb9
      exact ⟨b1, b2, b3, b4, b5, cc.keep _ _ (by simp; exact (hb.ne fg').symm) e⟩
end
end D0
namespace D0
open PySem PySem.Spec PyProof.Rows L2 SX NumText
def spSetL (K : PySem.W.Frag) (C CT : Addr) (st : Nat) : Sp := fun vs H Q _ => ∃ (b B nb td hl : Addr) (ths sls as rs : List Addr) (nds : List Nd) (hs : List Nat), vs = [.ref b, .ref B, .ref nb, .int (st : Nat), .ref hl] ∧ Bag H b ∧ b ∉ FP B nb td ths sls as rs ∧ Pr K C CT st H B nb td ths sls as rs nds ∧ nds.length ≤ 90 ∧
  H hl = some (.lst (nats hs)) ∧ hl ≠ b ∧ hs ≠ [] ∧ hs.length ≤ 1000 ∧ (∀ k ∈ hs, ∃ n, nds[k]? = some n ∧ frees (S n.kind) n.row.length ≠ []) ∧ Done K C CT st b B nb td ths sls as rs nds H Q
theorem nats_at {ks : List Nat} {j : Nat} (h : j < ks.length) : atI (nats ks) (j : Int) = some (.int (ks[j] : Nat)) := atI_nat (by unfold nats; rw [List.getElem?_map, List.getElem?_eq_getElem h]; rfl)
theorem nats_len (ks : List Nat) : (nats ks).length = ks.length := by unfold nats; rw [List.length_map]
section
variable {P : Program} {w : World} {K : PySem.W.Frag} {mg : Str → Option Value} {base : Heap} {C CT : Addr} {st : Nat}
theorem ok__law_set (T : Txt K w mg) (BK : BkM P w K mg base C CT st) (O : OkD P w K mg base CX0 1 "_law_take" p__law_take spTake) (Ofr : OkD P w K mg base CX0 1 "_law_free" p__law_free spFree)
    (Oen : OkD P w K mg base CX0 6 "_law_entry" p__law_entry spMarked) (Om : OkD P w K mg base CX0 1 "_law_marks" p__law_marks spMarks) (Oer : OkD P w K mg base CX0 1 "_law_errors" p__law_errors spErrors) (Ot : OkD P w K mg base CX0 1 "_law_table" p__law_table spTable)
    (Omv : ∀ m, OkD P w K mg base CX0 2 "_law_moved" p__law_moved (spMoved st m)) : OkD P w K mg base CX0 12 "_law_set" p__law_set (spSetL K C CT st) := by
  refine T.g__law_set.ok sc__law_set (fun vs H Q E h => ?_) (fun f cdv A outer s H vs Q E hr h => ?_)
  · obtain ⟨b, B, nb, td, hl, ths, sls, as, rs, nds, hs, rfl, _⟩ := h; rfl
  obtain ⟨b, B, nb, td, hl, ths, sls, as, rs, nds, hs, rfl, hb, hbF, X, hln, hhl, nhl, hne, hsl, hok, q⟩ := h
  have Omv := Omv nds.length
  have lim : (1000 : Nat) < sizeLine := by decide
  have two : 2 ≤ sizeLine := by omega
  have h1 := BK.h1
  have h2 := BK.h2
  refine ⟨_, (pss_cons (ps_setLc (i := 5) (own := [("k", 12)]) (g := gName 12) (tt := tYes) rfl sc__law_set.nd rfl rfl rfl (pi_range1 rfl T.z_range (pa_cons (pe_callB call_len_seq (by rfl) T.z_len PySem.boot_len (pa_cons (pv 2) pa_nil)) pa_nil)) (blkOk_by (own := [("k", 12)]) (N := n__law_set) (sc := defScope s__law_set) (by decide +kernel)) (fun _ _ _ _ _ => (pg_name (i := 12) sc__law_set.nd rfl (Or.inl rfl))) (fun _ _ _ _ _ => pts_nil) (fun _ _ _ _ _ => (pv 12)))
      (pss_cons (ps_set (i := 6) sc__law_set.nd rfl (.inl rfl) (pe_ix ix_list (pv 4) (pcall O hr (pa_cons (pv 0) (pa_cons (pe_callB call_len_seq (by rfl) T.z_len PySem.boot_len (pa_cons (pv 4) pa_nil)) pa_nil))) (fun _ _ => rfl)))
      (pss_cons (ps_set (i := 7) sc__law_set.nd rfl (.inl rfl) (pcall Ofr hr (pa_cons (pe_ix ix_list (pv 2) (pv 6) (fun _ _ => rfl)) pa_nil)))
      (pss_cons (ps_set (i := 8) sc__law_set.nd rfl (.inl rfl) (pe_ix ix_list (pv 7) (pcall O hr (pa_cons (pv 0) (pa_cons (pe_callB call_len_seq (by rfl) T.z_len PySem.boot_len (pa_cons (pv 7) pa_nil)) pa_nil))) (fun _ _ => rfl)))
      (pss_cons (ps_set (i := 9) sc__law_set.nd rfl (.inl rfl) (pcall Oen hr (pa_cons (pv 0) (pa_cons (pv 5) (pa_cons (pcall Oer hr (pa_cons (pv 2) pa_nil)) (pa_cons (pcall Om hr (pa_cons (pe_ix ix_list (pe_ix ix_list (pv 2) (pv 6) (fun _ _ => rfl)) pe_int (fun _ _ => rfl)) pa_nil)) pa_nil))))))
      (pss_cons (ps_set (i := 10) sc__law_set.nd rfl (.inl rfl) (pe_ix ix_list (pe_ix ix_list (pv 2) (pv 6) (fun _ _ => rfl)) pe_int (fun _ _ => rfl)))
      (pss_cons (ps_asg (pv 9) (pg_sub (pv 10) (pv 8) set_list))
      (pss_cons (ps_set (i := 11) sc__law_set.nd rfl (.inl rfl) (pcall Ot hr (pa_cons (pe_callB call_len_seq (by rfl) T.z_len PySem.boot_len (pa_cons (pv 2) pa_nil)) (pa_cons (pv 3) pa_nil))))
      (pss_one (ps_ret (pe_cmpR op_isN (pmethE BK.set_slot BK.cl hr pass0 (pv 1) (pa_cons (pe_tup (pa_cons pe_str (pa_cons (pe_ix ix_list (pv 11) (pv 6) (fun _ _ => rfl)) pa_nil))) (pa_cons (pv 8) (pa_cons (pcall Omv hr (pa_cons (pv 9) (pa_cons (pv 11) pa_nil))) pa_nil)))) pe_non (nomark _)))))))))))), ?_⟩
  have la : (as.map V.ref).length = nds.length := by rw [List.length_map, X.bo.la]
  refine ⟨_, rfl, nb, _, rfl, .inl (SqL.of X.bo.h0), (nds.length : Int), by rw [la], by omega, by omega, fun D1 hD1 => ?_⟩
  have nD : D1 ≠ b := hb.ne hD1
  refine lc_it walk_range (fun i H' => Same H H' ∧ H' D1 = some (.lst (nats (List.range i)))) ⟨same_new hD1 _, upd_same⟩ (fun _ _ _ _ => trivial) ?_ ?_
  · rintro i x H3 H4 hi ⟨s3, h3⟩ ⟨rfl, rfl⟩
    refine ⟨rfl, iteT (B := True) (iteT ?_)⟩
    have hi' : i < nds.length := by simpa using hi
    refine ⟨_, rfl, _, h3, by rw [nats_len, List.length_range]; omega, same_grow s3 hD1, ?_⟩
    rw [upd_same, List.range_succ, nats_app]
    show some (HO.lst (nats (List.range i) ++ [V.int (0 + (i : Int))])) = some (HO.lst (nats (List.range i) ++ [V.int (i : Int)]))
    rw [Int.zero_add]
  rintro H1 ⟨s1, hp1⟩
  have hp1 : H1 D1 = some (.lst (nats (List.range nds.length))) := by simpa using hp1
  have x1 : Stp b H H1 := .same hb s1
  have P1 : Pool H1 b D1 nds.length := .of nD hp1 (fun k hk => List.mem_range.mp hk) (by rw [List.length_range]; omega)
  have hs0 : 0 < hs.length := by cases hs with | nil => exact absurd rfl hne | cons => simp
  refine ⟨_, rfl, _, rfl, _, rfl, hl, _, rfl, .inl (SqL.of (s1 _ _ hhl)), b, _, rfl, x1.b1, (by rw [nats_len]; omega), (by rw [nats_len]; omega), fun r H2 r20 r21 x2 => ?_⟩
  rw [nats_len] at r21
  obtain ⟨j, rfl⟩ : ∃ j : Nat, r = (j : Int) := ⟨r.toNat, by omega⟩
  have hj : j < hs.length := by omega
  refine ⟨hl, _, _, _, rfl, rfl, SqL.of (x2.keep _ _ nhl (s1 _ _ hhl)), nats_at hj, ?_⟩
  obtain ⟨n, hn, hfr⟩ := hok hs[j] (List.getElem_mem hj)
  generalize hs[j] = k at hn
  obtain ⟨hk, _⟩ := List.getElem?_eq_some_iff.mp hn
  have x02 := x1.trans x2
  have X2 := X.stp hbF x02
  obtain ⟨a, r, tv, vs, ea, er, g, rt, g2, rr, vl⟩ := X2.bo.look hn
  have no := X.ok n (List.mem_of_getElem? hn)
  have atn : ∀ (H' : Hp), Pr K C CT st H' B nb td ths sls as rs nds → atI (as.map V.ref) (k : Int) = some (.ref a) := fun H' _ => atI_nat (by rw [List.getElem?_map, ea]; rfl)
  refine ⟨_, rfl, _, rfl, nb, _, _, .ref a, rfl, rfl, SqL.of X2.bo.h0, atn _ X2, ?_⟩
  have vl200 : vs.length ≤ 200 := by have := no.len; omega
  refine ⟨a, S n.kind, tv, r, vs, rfl, g, g2, vl200, fun pp H3 s3 fpp hpp => ?_⟩
  rw [vl] at hpp
  have fl := frees_len (S n.kind) n.row.length
  have fl0 : 0 < (frees (S n.kind) n.row.length).length := by cases e : frees (S n.kind) n.row.length with | nil => exact absurd e hfr | cons => simp
  have x3 : Stp b H2 H3 := .same x2.b1 s3
  have nl := no.len
  refine ⟨_, rfl, _, rfl, _, rfl, pp, _, rfl, .inl (SqL.of hpp), b, _, rfl, x3.b1, (by rw [nats_len]; omega), (by rw [nats_len]; omega), fun r4 H4 r40 r41 x4 => ?_⟩
  rw [nats_len] at r41
  obtain ⟨j2, rfl⟩ : ∃ j : Nat, r4 = (j : Int) := ⟨r4.toNat, by omega⟩
  have hj2 : j2 < (frees (S n.kind) n.row.length).length := by omega
  have npp : pp ≠ b := x2.b1.ne fpp
  refine ⟨pp, _, _, _, rfl, rfl, SqL.of (x4.keep _ _ npp hpp), nats_at hj2, ?_⟩
  have hi : (frees (S n.kind) n.row.length)[j2] < n.row.length := frees_lt (List.getElem_mem hj2)
  generalize (frees (S n.kind) n.row.length)[j2] = i at hi
  have x24 := x3.trans x4
  have X4 := X2.stp hbF x24
  refine ⟨_, rfl, _, rfl, _, rfl, nb, as, rfl, X4.bo.h0, fun a' ha' => ?_, by rw [X4.bo.la]; omega, fun er' ks H5 s5 fer her lk ck => ?_⟩
  · obtain ⟨j, hj⟩ := List.getElem?_of_mem ha'
    obtain ⟨hj', _⟩ := List.getElem?_eq_some_iff.mp hj
    have e1 := X4.bo.la; have e2 := X4.bo.lr
    obtain ⟨tv, g, _⟩ := X4.bo.hN j a' _ _ hj (List.getElem?_eq_getElem (by omega)) (List.getElem?_eq_getElem (by omega))
    exact ⟨_, _, g⟩
  have x5 : Stp b H4 H5 := .same x4.b1 s5
  have X5 := X4.stp hbF x5
  have P5 : Pool H5 b er' nds.length := .of (x4.b1.ne fer) her (fun k hk => by have := lk k hk; rw [X4.bo.la] at this; exact this) ck
  obtain ⟨a5, r5, tv5, vs5, ea5, er5, g5, rt5, g25, rr5, vl5⟩ := X5.bo.look hn
  have ee : a5 = a := Option.some.inj (ea5.symm.trans ea)
  subst ee
  refine ⟨_, rfl, _, rfl, nb, _, _, .ref a5, rfl, rfl, SqL.of X5.bo.h0, atn _ X5, a5, _, 0, _, rfl, rfl, SqL.of g5, rfl, S n.kind, rfl, fun mk => ?_⟩
  refine ⟨b, D1, er', nds.length, mk, rfl, x5.b1, ((P1.stp x2).stp x24).stp x5, P5, fun v e H6 x6 oe re => ?_⟩
  have X6 := X5.stp hbF x6
  have x06 := x02.trans (x24.trans (x5.trans x6))
  obtain ⟨a6, r6, tv6, vs6, ea6, er6, g6, rt6, g26, rr6, vl6⟩ := X6.bo.look hn
  have ee : a6 = a5 := Option.some.inj (ea6.symm.trans ea)
  subst ee
  refine ⟨_, rfl, _, rfl, nb, _, _, .ref a6, rfl, rfl, SqL.of X6.bo.h0, atn _ X6, a6, _, 2, _, rfl, rfl, SqL.of g6, rfl, ?_⟩
  refine ⟨_, rfl, _, rfl, _, rfl, r6, _, _, i, rfl, rfl, g26, ixN_nat (by omega), ?_⟩
  obtain ⟨N7, c7⟩ := X6.bo.setRow (vs := vs6.set i v) (row := n.row.set i e) hn er6 (by rw [← rowD_set]; exact rr6.set re)
  have nrF : r6 ∉ FB B td ths sls := X6.dj r6 (by have := List.mem_of_getElem? er6; simp [FN, this])
  have Y7 := X6.bk.frame c7 fun x hx z => nrF (by rw [← List.mem_singleton.mp z]; exact hx)
  have re7 := re.mono c7.tups
  generalize upd H6 r6 (.lst (vs6.set i v)) = H7 at N7 c7 Y7 re7
  -- the table
  refine ⟨_, rfl, nb, _, rfl, .inl (SqL.of N7.h0), _, rfl, nds.length, st, by rw [la]; rfl, h1, h2, by omega, fun t H8 s8 ft ht => ?_⟩
  obtain ⟨dx, fs, hB, _, _, _, _, _, k6, _⟩ := (Y7.frame (Chg.same (F := []) s8) (fun _ _ h => by cases h)).ins
  refine ⟨_, rfl, B, dx, fs, rfl, hB, k6, _, rfl, _, rfl, t, _, _, _, rfl, rfl, SqL.of ht, atI_nat (tbL_at hk), two, fun p hp => ?_⟩
  have s9 := same_new hp (.tup [.str (Str.ofString "ref"), .int (tb st k)])
  refine ⟨_, rfl, _, rfl, _, rfl, v, t, e, rfl, re7.mono (.same (s8.trans s9)), oe, s9 _ _ ht, fun u H10 s10 ru => ?_⟩
  have S10 := s8.trans (s9.trans s10)
  have Y10 := Y7.frame (Chg.same (F := []) S10) (fun _ _ h => by cases h)
  refine ⟨B, td, ths, sls, nds, .ref p, u, k, i, n, e, rfl, Y10, ⟨p, _, rfl, s10 _ _ upd_same⟩, hn, hi, ru, fun H11 Y11 c11 => ⟨rfl, ?_⟩⟩
  rw [decide_eq_true rfl]
  have N11 := (N7.frame (Chg.same (F := []) S10) (fun _ _ h => by cases h)).frame c11 fun x hx z => X.dj x hx (by simp [FB, z])
  have c06 : Chg (b :: FP B nb td ths sls as rs) H H6 := x06.chg.mono fun a h => by rw [List.mem_singleton.mp h]; exact List.mem_cons_self ..
  refine q H11 ths sls as rs _ ⟨Y11, N11, X.dj, fun m hm => ?_, by rw [List.length_set]; exact X.ln⟩ ?_ (fun a h => .inl h) ?_ (by rw [List.length_set]; omega)
  · rw [List.length_set]
    rcases List.mem_or_eq_of_mem_set hm with h | h
    · exact X.ok m h
    · rw [h]
      refine ⟨no.tag, fun e' he' => ?_, by show (n.row.set i e).length ≤ 100; rw [List.length_set]; exact no.len⟩
      rcases List.mem_or_eq_of_mem_set he' with h | h
      · exact no.row e' h
      · rw [h]; exact oe
  · exact ((c06.trans (c7.mono fun a h => by rw [List.mem_singleton.mp h]; have := List.mem_of_getElem? er6; simp [FP, FN, this])).trans (.same S10)).trans (c11.mono fun a h => by simp [FP, FB, h])
  · obtain ⟨b1, b2, b3, b4, b5, eb⟩ := x06.b1
    refine ⟨b1, b2, b3, b4, b5, c11.keep _ _ (fun z => hbF (by simp [FP, FB, z])) (S10 _ _ (c7.keep _ _ (fun z => ?_) eb))⟩
    have z := List.mem_singleton.mp z
    subst z
    have := List.mem_of_getElem? er6
    exact hbF (by simp [FP, FN, this])
end
end D0
namespace D0
open PySem PySem.Spec PyProof.Rows L2 SX NumText
section
variable {K : PySem.W.Frag} {C CT : Addr} {st : Nat}
theorem Pr.change {H1 H3 H5 : Hp} {B nb td s' l1 a1 : Addr} {ths sls as rs : List Addr} {nds : List Nd} {k : Nat} {n1 : Nd} {tag : D} {es : List Ent} {tv : V} {ws : List V} (X : Pr K C CT st H1 B nb td ths sls as rs nds) (hn : nds[k]? = some n1)
    (Y3 : BkA K C CT st H3 B td ths (sls.set k s') (nds.set k ⟨n1.kind, tag, es⟩)) (c3 : Chg ths H1 H3) (fs : H1 s' = none) (s5 : Same H3 H5) (fl : H3 l1 = none) (fa : H3 a1 = none) (ne : a1 ≠ l1)
    (h1 : H5 a1 = some (.lst [.str (S n1.kind), tv, .ref l1])) (h2 : H5 l1 = some (.lst ws)) (rt : Rep H5 tv tag) (rr : Reps H5 ws (rowD ixD es)) (hd : dep tag ≤ 3) (oe : ∀ e ∈ es, e.ok nds.length) (le : es.length ≤ 100) :
    H5 nb = some (.lst (as.map V.ref)) ∧ Pr K C CT st (upd H5 nb (.lst ((as.map V.ref).set k (.ref a1)))) B nb td ths (sls.set k s') (as.set k a1) (rs.set k l1) (nds.set k ⟨n1.kind, tag, es⟩) ∧
    Chg (FP B nb td ths sls as rs) H1 (upd H5 nb (.lst ((as.map V.ref).set k (.ref a1)))) ∧ ∀ a ∈ FP B nb td ths (sls.set k s') (as.set k a1) (rs.set k l1), a ∈ FP B nb td ths sls as rs ∨ H1 a = none := by
  obtain ⟨hk, _⟩ := List.getElem?_eq_some_iff.mp hn
  have N3 := X.bo.frame c3 fun x hx z => X.dj x hx (by simp [FB, z])
  have hnb := s5 _ _ N3.h0
  have c6 : Chg [nb] H3 (upd H5 nb (.lst ((as.map V.ref).set k (.ref a1)))) := (Chg.same s5).trans (.upd hnb (fun _ z => by cases z) (List.mem_singleton_self _))
  obtain ⟨n1', n2', n3'⟩ := N3.fresh fa
  obtain ⟨n4', n5', n6'⟩ := N3.fresh fl
  have t6 : Tups H5 (upd H5 nb (.lst ((as.map V.ref).set k (.ref a1)))) := .lst hnb
  have N6 := N3.setNode (n := ⟨n1.kind, tag, es⟩) (tv := tv) (vs := ws) hk fa fl ne c6 upd_same (by rw [upd_ne n3']; exact h1) (by rw [upd_ne n6']; exact h2) (rt.mono t6) (rr.mono t6)
  have fnb : nb ∉ FB B td ths sls := X.dj nb (by simp [FN])
  have hnb1 : H1 nb ≠ none := by rw [X.bo.h0]; exact fun z => nomatch z
  have Y6 := Y3.frame c6 fun a ha z => by
    rw [List.mem_singleton.mp z] at ha
    simp only [FB, List.mem_cons, List.mem_append] at ha fnb
    rcases ha with h | h | h | h
    · exact fnb (.inl h)
    · exact fnb (.inr (.inl h))
    · exact fnb (.inr (.inr (.inl h)))
    · rcases List.mem_or_eq_of_mem_set h with h | h
      · exact fnb (.inr (.inr (.inr h)))
      · exact hnb1 (by rw [h]; exact fs)
  refine ⟨hnb, ⟨Y6, N6, fun a ha z => ?_, fun m hm => ?_, by rw [List.length_set]; exact X.ln⟩, (c3.mono fun a h => by simp [FP, FB, h]).trans (c6.mono fun a h => by simp at h; rw [h]; simp [FP, FN]), fun a ha => ?_⟩
  · have old : ∀ a, a ∈ FN nb as rs → a ∉ FB B td ths (sls.set k s') := fun a ha z => by
      have d := X.dj a ha
      have pr := X.bo.here a ha
      simp only [FB, List.mem_cons, List.mem_append] at z d
      rcases z with h | h | h | h
      · exact d (.inl h)
      · exact d (.inr (.inl h))
      · exact d (.inr (.inr (.inl h)))
      · rcases List.mem_or_eq_of_mem_set h with h | h
        · exact d (.inr (.inr (.inr h)))
        · exact pr (by rw [h]; exact fs)
    simp only [FN, List.mem_cons, List.mem_append] at ha
    rcases ha with h | h | h
    · exact old a (by simp [FN, h]) z
    · rcases List.mem_or_eq_of_mem_set h with h | h
      · exact old a (by simp [FN, h]) z
      · exact Y3.here a z (by rw [h]; exact fa)
    · rcases List.mem_or_eq_of_mem_set h with h | h
      · exact old a (by simp [FN, h]) z
      · exact Y3.here a z (by rw [h]; exact fl)
  · rw [List.length_set]
    rcases List.mem_or_eq_of_mem_set hm with h | h
    · exact X.ok m h
    · rw [h]; exact ⟨hd, oe, le⟩
  · simp only [FP, FB, FN, List.mem_cons, List.mem_append] at ha
    rcases ha with (h | h | h | h) | h | h | h
    · exact .inl (by simp [FP, FB, h])
    · exact .inl (by simp [FP, FB, h])
    · exact .inl (by simp [FP, FB, h])
    · rcases List.mem_or_eq_of_mem_set h with h | h
      · exact .inl (by simp [FP, FB, h])
      · exact .inr (by rw [h]; exact fs)
    · exact .inl (by simp [FP, FN, h])
    · rcases List.mem_or_eq_of_mem_set h with h | h
      · exact .inl (by simp [FP, FN, h])
      · exact .inr (by rw [h]; exact c3.live _ fa)
    · rcases List.mem_or_eq_of_mem_set h with h | h
      · exact .inl (by simp [FP, FN, h])
      · exact .inr (by rw [h]; exact c3.live _ fl)
end
def spChangeL (K : PySem.W.Frag) (C CT : Addr) (st : Nat) : Sp := fun vs H Q _ => ∃ (b B nb td : Addr) (ths sls as rs : List Addr) (nds : List Nd), vs = [.ref b, .ref B, .ref nb, .int (st : Nat)] ∧ Bag H b ∧ b ∉ FP B nb td ths sls as rs ∧ Pr K C CT st H B nb td ths sls as rs nds ∧ nds.length ≤ 90 ∧ nds ≠ [] ∧
  Done K C CT st b B nb td ths sls as rs nds H Q
/-- the state behind a change: seen from the first heap -/
structure Mid (K : PySem.W.Frag) (C CT : Addr) (st : Nat) (b B nb td : Addr) (ths sls as rs : List Addr) (nds : List Nd) (H H1 : Hp) (ths' sls' as' rs' : List Addr) (nds' : List Nd) : Prop where
  pr : Pr K C CT st H1 B nb td ths' sls' as' rs' nds'
  ch : Chg (b :: FP B nb td ths sls as rs) H H1
  fp : ∀ a ∈ FP B nb td ths' sls' as' rs', a ∈ FP B nb td ths sls as rs ∨ H a = none
  bg : Bag H1 b
  bn : b ∉ FP B nb td ths' sls' as' rs'
  ln : nds'.length = nds.length
/-- form and given -/
structure Form (st m : Nat) (H1 : Hp) (p r g : Addr) (tv : V) (tag : D) (es : List Ent) (ws us : List V) : Prop where
  hp : H1 p = some (.tup [tv, .ref r])
  rt : Rep H1 tv tag
  hd : dep tag ≤ 3
  hr : H1 r = some (.lst ws)
  rr : Reps H1 ws (rowD ixD es)
  oe : ∀ e ∈ es, e.ok m
  le : es.length ≤ 100
  hg : H1 g = some (.lst us)
  ru : Reps H1 us (rowD (tb st) es)
theorem Form.chg {st m : Nat} {H1 H2 : Hp} {p r g : Addr} {tv : V} {tag : D} {es : List Ent} {ws us : List V} (F : Form st m H1 p r g tv tag es ws us) {L : List Addr} (c : Chg L H1 H2) (nr : r ∉ L) (ng : g ∉ L) : Form st m H2 p r g tv tag es ws us :=
  ⟨c.tups _ _ F.hp, F.rt.mono c.tups, F.hd, c.keep _ _ nr F.hr, F.rr.mono c.tups, F.oe, F.le, c.keep _ _ ng F.hg, F.ru.mono c.tups⟩
theorem Mid.step {K : PySem.W.Frag} {C CT : Addr} {st : Nat} {b B nb td : Addr} {ths sls as rs : List Addr} {nds : List Nd} {H H1 H2 H6 : Hp} {ths' sls' as' rs' : List Addr} {nds' : List Nd} {ths6 sls6 as6 rs6 : List Addr} {nds6 : List Nd}
    (M : Mid K C CT st b B nb td ths sls as rs nds H H1 ths' sls' as' rs' nds') (s2 : Same H1 H2) (X6 : Pr K C CT st H6 B nb td ths6 sls6 as6 rs6 nds6) (c6 : Chg (FP B nb td ths' sls' as' rs') H2 H6)
    (f6 : ∀ a ∈ FP B nb td ths6 sls6 as6 rs6, a ∈ FP B nb td ths' sls' as' rs' ∨ H2 a = none) (ln : nds6.length = nds'.length) :
    Mid K C CT st b B nb td ths sls as rs nds H H6 ths6 sls6 as6 rs6 nds6 ∧ ∀ x, H1 x ≠ none → x ∉ FP B nb td ths' sls' as' rs' → x ∉ FP B nb td ths6 sls6 as6 rs6 := by
  have out : ∀ x, H1 x ≠ none → x ∉ FP B nb td ths' sls' as' rs' → x ∉ FP B nb td ths6 sls6 as6 rs6 := fun x hx nx z => by
    rcases f6 x z with h | h
    · exact nx h
    · exact hx (live_same s2 _ h)
  obtain ⟨b1, b2, b3, b4, b5, e⟩ := id M.bg
  refine ⟨⟨X6, (M.ch.trans (.same s2)).trans2 c6 fun a h => ?_, fun a h => ?_, ⟨b1, b2, b3, b4, b5, c6.keep _ _ M.bn (s2 _ _ e)⟩, out b (by rw [e]; exact fun z => nomatch z) M.bn, by rw [ln]; exact M.ln⟩, out⟩
  · rcases M.fp a h with h | h
    · exact .inl (List.mem_cons_of_mem _ h)
    · exact .inr h
  · rcases f6 a h with h | h
    · exact M.fp a h
    · exact .inr (M.ch.live _ (live_same s2 _ h))
section
variable {P : Program} {w : World} {K : PySem.W.Frag} {mg : Str → Option Value} {base : Heap} {C CT : Addr} {st : Nat}
theorem ok__law_change (T : Txt K w mg) (BK : BkM P w K mg base C CT st) (O : OkD P w K mg base CX0 1 "_law_take" p__law_take spTake)
    (Of : OkD P w K mg base CX0 7 "_law_form" p__law_form spForm) (Oer : OkD P w K mg base CX0 1 "_law_errors" p__law_errors spErrors) (Ot : OkD P w K mg base CX0 1 "_law_table" p__law_table spTable) (Os : ∀ m, OkD P w K mg base CX0 3 "_law_sent" p__law_sent (spSent st m))
    (Op : OkD P w K mg base CX0 11 "_law_spoil" p__law_spoil (spSpoil K)) : OkD P w K mg base CX0 12 "_law_change" p__law_change (spChangeL K C CT st) := by
  refine T.g__law_change.ok sc__law_change (fun vs H Q E h => ?_) (fun f cdv A outer s H vs Q E hr h => ?_)
  · obtain ⟨b, B, nb, td, ths, sls, as, rs, nds, rfl, _⟩ := h; rfl
  obtain ⟨b, B, nb, td, ths, sls, as, rs, nds, rfl, hb, hbF, X, hln, hne, q⟩ := h
  have Os := Os nds.length
  have lim : (1000 : Nat) < sizeLine := by decide
  have two : 2 ≤ sizeLine := by omega
  have h1 := BK.h1
  have h2 := BK.h2
  refine split_at 9 (fun t => ∀ (H1 : Hp) ths' sls' as' rs' nds' p r g tv tag es ws us tt o4 o5 o6 o7 o8 o10 o13, Mid K C CT st b B nb td ths sls as rs nds H H1 ths' sls' as' rs' nds' → Form st nds.length H1 p r g tv tag es ws us → r ∉ FP B nb td ths' sls' as' rs' → g ∉ FP B nb td ths' sls' as' rs' → H g = none → tt ∉ FP B nb td ths' sls' as' rs' → H1 tt = some (.lst (tbL st nds.length)) →
    t { nx := fun _ H' => Q .non H', rt := Q } [some (.ref b), some (.ref B), some (.ref nb), some (.int (st : Nat)), o4, o5, o6, o7, o8, some (.ref tt), o10, some (.ref p), some (.ref g), o13] H1) ?_ (fun t9 ht9 hg9 => ?_)
  · refine ⟨_, (pss_one (ps_ret (pcall Op hr (pa_cons (pv 12) (pa_cons (pcall Os hr (pa_cons (pe_ix ix_tup (pv 11) pe_int (fun _ _ => rfl)) (pa_cons (pv 9) pa_nil))) pa_nil))))), ?_⟩
    intro H1 ths' sls' as' rs' nds' p r g tv tag es ws us tt o4 o5 o6 o7 o8 o10 o13 M F nr ng fg nt ht
    have ul : us.length = es.length := by rw [F.ru.len]; unfold rowD; rw [List.length_map]
    refine ⟨_, rfl, _, rfl, p, _, 1, _, rfl, rfl, SqT.of F.hp, rfl, _, rfl, r, tt, ws, es, rfl, F.hr, F.rr, F.oe, F.le, ht, fun pd ud H2 s2 fd hd2 rd => ?_⟩
    refine ⟨g, pd, us, ud, rowD (tb st) es, rfl, s2 _ _ F.hg, hd2, F.ru.mono (.same s2), rd, by have := F.le; omega, by have := rowD_dep (f := tb st) F.oe; omega, fun H' zs cc hz => ?_⟩
    have X2 := M.pr.same s2
    refine q H' ths' sls' as' rs' nds' (X2.frame cc fun a ha z => ng (by rw [← List.mem_singleton.mp z]; exact ha)) ((M.ch.trans (.same s2)).trans2 cc fun a h => .inr (by rw [List.mem_singleton.mp h]; exact fg)) M.fp ?_ (by have := M.ln; omega)
    obtain ⟨b1, b2, b3, b4, b5, e⟩ := M.bg
    exact ⟨b1, b2, b3, b4, b5, cc.keep _ _ (by simp; exact (hb.ne fg).symm) (s2 _ _ e)⟩
  · refine split_at 8 (fun t => ∀ (H1 : Hp) ths' sls' as' rs' nds' p r g tv tag es ws us tt (l : List Nat) (ko : Nat) (no : Nd) (way : Int) o4 o5 o7 o13, Mid K C CT st b B nb td ths sls as rs nds H H1 ths' sls' as' rs' nds' → Form st nds.length H1 p r g tv tag es ws us → r ∉ FP B nb td ths' sls' as' rs' → g ∉ FP B nb td ths' sls' as' rs' → H g = none → tt ∉ FP B nb td ths' sls' as' rs' → H1 tt = some (.lst (tbL st nds.length)) → nds'[ko]? = some no → no.kind = l →
      t { nx := fun _ H' => Q .non H', rt := Q } [some (.ref b), some (.ref B), some (.ref nb), some (.int (st : Nat)), o4, o5, some (.str (S l)), o7, some (.int (ko : Nat)), some (.ref tt), some (.int way), some (.ref p), some (.ref g), o13] H1) ?_ (fun t8 ht8 hg8 => ?_)
    · refine ⟨_, pss_cons (ps_if (pt_cmpR op_lt (pv 10) pe_int (nomark _)) (pss_cons (ps_if (pt_cmpR op_notN (pmethE BK.change BK.cl hr pass0 (pv 1) (pa_cons (pe_tup (pa_cons pe_str (pa_cons (pe_ix ix_list (pv 9) (pv 8) (fun _ _ => rfl)) pa_nil))) (pa_cons (pe_ix ix_tup (pv 11) pe_int (fun _ _ => rfl)) (pa_cons (pv 12) pa_nil)))) pe_non (nomark _)) (pss_one (ps_ret pe_bl)) pss_nil)
      (pss_one (ps_asg (pe_lst (pa_cons (pv 6) (pa_cons (pe_ix ix_tup (pv 11) pe_int (fun _ _ => rfl)) (pa_cons (pe_callTy call_list_of (by rfl) T.z_list PyProof.Rows.boot_list (pa_cons (pe_ix ix_tup (pv 11) pe_int (fun _ _ => rfl)) pa_nil)) pa_nil)))) (pg_sub (pv 2) (pv 8) set_list)))) pss_nil) ht9, ?_⟩
      intro H1 ths' sls' as' rs' nds' p r g tv tag es ws us tt l ko no way o4 o5 o7 o13 M F nr ng fg nt ht hno hl
      subst hl
      refine ⟨_, rfl, _, _, rfl, rfl, _, rfl, ite2 (fun _ => ?_) (fun _ => hg9 H1 ths' sls' as' rs' nds' p r g tv tag es ws us tt _ _ _ _ _ _ _ M F nr ng fg nt ht)⟩
      have hk : ko < nds.length := by obtain ⟨h, _⟩ := List.getElem?_eq_some_iff.mp hno; have := M.ln; omega
      obtain ⟨dx, fs, hB, _, _, _, _, _, _, k7⟩ := M.pr.bk.ins
      refine ⟨_, rfl, B, dx, fs, rfl, hB, k7, _, rfl, _, rfl, tt, _, _, _, rfl, rfl, SqL.of ht, atI_nat (tbL_at hk), two, fun p1 hp1 => ?_⟩
      have s2 := same_new hp1 (.tup [.str (Str.ofString "ref"), .int (tb st ko)])
      have X2 := M.pr.same s2
      have F2 := F.chg (Chg.same (F := []) s2) (by simp) (by simp)
      refine ⟨_, rfl, p, _, 0, _, rfl, rfl, SqT.of F2.hp, rfl, _, rfl, B, td, ths', sls', nds', .ref p1, tv, g, us, ko, no, tag, es, rfl, X2.bk, ⟨p1, _, rfl, upd_same⟩, hno, F2.rt, F2.hg, F2.ru, (fun z => ng (by simp [FP, FB, z])), fun s' H3 Y3 c3 fs' => ⟨rfl, _, rfl, iteF ?_⟩⟩
      have F3 := F2.chg c3 (fun z => nr (by simp [FP, FB, z])) (fun z => ng (by simp [FP, FB, z]))
      refine ⟨_, rfl, _, rfl, p, _, 0, _, rfl, rfl, SqT.of F3.hp, rfl, _, rfl, p, _, 1, _, rfl, rfl, SqT.of F3.hp, rfl, r, ws, rfl, .inl (SqL.of F3.hr), fun l1 hl1 => ⟨by show 3 ≤ sizeLine; omega, fun a1 ha1 => ?_⟩⟩
      have s4 := same_new hl1 (.lst ws)
      have s5 := same_new ha1 (.lst [.str (S no.kind), tv, .ref l1])
      have nal : a1 ≠ l1 := fun z => by rw [z, upd_same] at ha1; cases ha1
      obtain ⟨hnb, X6, c6, f6⟩ := X2.change hno Y3 c3 fs' (s4.trans s5) hl1 (live_same s4 _ ha1) nal upd_same (by rw [upd_ne (Ne.symm nal), upd_same]) (F3.rt.mono (.same (s4.trans s5))) (F3.rr.mono (.same (s4.trans s5))) F.hd (fun e he => by rw [M.ln]; exact F.oe e he) F.le
      refine ⟨_, rfl, _, rfl, nb, _, _, ko, rfl, rfl, hnb, ixN_nat (by rw [List.length_map, M.pr.bo.la, M.ln]; exact hk), ?_⟩
      obtain ⟨M6, out⟩ := M.step s2 X6 c6 f6 (by rw [List.length_set])
      have nr6 := out r (by rw [F.hr]; exact fun z => nomatch z) nr
      have ng6 := out g (by rw [F.hg]; exact fun z => nomatch z) ng
      have nt6 := out tt (by rw [ht]; exact fun z => nomatch z) nt
      have F6 := F2.chg c6 nr ng
      have ht6 := c6.keep _ _ nt (s2 _ _ ht)
      exact hg9 _ _ _ _ _ _ p r g tv tag es ws us tt _ _ _ _ _ _ _ M6 F6 nr6 ng6 fg nt6 ht6
    · refine split_at 7 (fun t => ∀ (H1 : Hp) (D1 tt : Addr) (kn ko : Nat) (n0 no : Nd) (way : Int) o7, Stp b H H1 → Pool H1 b D1 nds.length → nds[kn]? = some n0 → nds[ko]? = some no → no.kind = n0.kind → H tt = none → H1 tt = some (.lst (tbL st nds.length)) →
        t { nx := fun _ H' => Q .non H', rt := Q } [some (.ref b), some (.ref B), some (.ref nb), some (.int (st : Nat)), some (.ref D1), some (.int (kn : Nat)), some (.str (S n0.kind)), o7, some (.int (ko : Nat)), some (.ref tt), some (.int way), none, none, none] H1) ?_ (fun t7 ht7 hg7 => ?_)
      · refine ⟨_, pss_cons (ps_if (pt_cmpR op_eq (pv 10) pe_int (nomark _)) (pss_cons (ps_set (i := 11) sc__law_change.nd rfl (.inl rfl) (pe_tup (pa_cons (pe_ix ix_list (pe_ix ix_list (pv 2) (pv 5) (fun _ _ => rfl)) pe_int (fun _ _ => rfl)) (pa_cons (pe_callTy call_list_of (by rfl) T.z_list PyProof.Rows.boot_list (pa_cons (pe_ix ix_list (pe_ix ix_list (pv 2) (pv 5) (fun _ _ => rfl)) pe_int (fun _ _ => rfl)) pa_nil)) pa_nil))))
      (pss_one (ps_set (i := 12) sc__law_change.nd rfl (.inl rfl) (pmethE BK.slots_of BK.cl hr pass0 (pv 1) (pa_cons (pe_tup (pa_cons pe_str (pa_cons (pe_ix ix_list (pv 9) (pv 5) (fun _ _ => rfl)) pa_nil))) pa_nil))))) (pss_cons (ps_set (i := 11) sc__law_change.nd rfl (.inl rfl) (pcall Of hr (pa_cons (pv 0) (pa_cons (pv 6) (pa_cons (pv 4) (pa_cons (pcall Oer hr (pa_cons (pv 2) pa_nil)) pa_nil))))))
      (pss_cons (ps_set (i := 12) sc__law_change.nd rfl (.inl rfl) (pcall Os hr (pa_cons (pe_ix ix_tup (pv 11) pe_int (fun _ _ => rfl)) (pa_cons (pv 9) pa_nil))))
      (pss_cons (ps_if (pt_cmpR op_notN (pmethE BK.change BK.cl hr pass0 (pv 1) (pa_cons (pe_tup (pa_cons pe_str (pa_cons (pe_ix ix_list (pv 9) (pv 5) (fun _ _ => rfl)) pa_nil))) (pa_cons (pe_ix ix_tup (pv 11) pe_int (fun _ _ => rfl)) (pa_cons (pv 12) pa_nil)))) pe_non (nomark _)) (pss_one (ps_ret pe_bl)) pss_nil)
      (pss_one (ps_asg (pe_lst (pa_cons (pv 6) (pa_cons (pe_ix ix_tup (pv 11) pe_int (fun _ _ => rfl)) (pa_cons (pe_callTy call_list_of (by rfl) T.z_list PyProof.Rows.boot_list (pa_cons (pe_ix ix_tup (pv 11) pe_int (fun _ _ => rfl)) pa_nil)) pa_nil)))) (pg_sub (pv 2) (pv 5) set_list))))))) ht8, ?_⟩
        intro H1 D1 tt kn ko n0 no way o7 x1 P1 hn0 hno hkind ftt ht
        have X1 := X.stp hbF x1
        have ntF : tt ∉ FP B nb td ths sls as rs := fun z => X.here tt z ftt
        have M1 : Mid K C CT st b B nb td ths sls as rs nds H H1 ths sls as rs nds := ⟨X1, x1.chg.mono fun a h => by rw [List.mem_singleton.mp h]; exact List.mem_cons_self .., fun a h => .inl h, x1.b1, hbF, rfl⟩
        obtain ⟨hkn, _⟩ := List.getElem?_eq_some_iff.mp hn0
        have nok := X.ok n0 (List.mem_of_getElem? hn0)
        refine ⟨_, rfl, rfl, _, rfl, ite2 (fun _ => ?_) (fun _ => ?_)⟩
        · obtain ⟨a, r, tv, vs, ea, er, g, rt, g2, rr, vl⟩ := X1.bo.look hn0
          have atn : atI (as.map V.ref) (kn : Int) = some (.ref a) := atI_nat (by rw [List.getElem?_map, ea]; rfl)
          refine ⟨_, rfl, _, rfl, nb, _, _, .ref a, rfl, rfl, SqL.of X1.bo.h0, atn, a, _, 1, _, rfl, rfl, SqL.of g, rfl, _, rfl, _, rfl, nb, _, _, .ref a, rfl, rfl, SqL.of X1.bo.h0, atn, a, _, 2, _, rfl, rfl, SqL.of g, rfl, r, vs, rfl, .inl (SqL.of g2), fun r' hr' => ⟨two, fun p hp => ?_⟩⟩
          have s2 := same_new hr' (.lst vs)
          have s3 := same_new hp (.tup [tv, .ref r'])
          have S3 := s2.trans s3
          obtain ⟨dx, fs, hB, _, _, k3, _⟩ := (X1.same S3).bk.ins
          refine ⟨_, rfl, B, dx, fs, rfl, hB, k3, _, rfl, _, rfl, tt, _, _, _, rfl, rfl, SqL.of (S3 _ _ ht), atI_nat (tbL_at hkn), two, fun p1 hp1 => ?_⟩
          have s4 := same_new hp1 (.tup [.str (Str.ofString "ref"), .int (tb st kn)])
          refine ⟨B, td, ths, sls, nds, .ref p1, kn, n0, rfl, (X1.same (S3.trans s4)).bk, ⟨p1, _, rfl, upd_same⟩, hn0, fun g us hg rg => ?_⟩
          have s5 := same_new hg (.lst us)
          have S5 := S3.trans (s4.trans s5)
          have fg : H g = none := x1.chg.live _ (live_same (S3.trans s4) _ hg)
          have fr : H r' = none := x1.chg.live _ hr'
          refine hg8 _ ths sls as rs nds p r' g tv n0.tag n0.row vs us tt _ ko no way _ _ _ _ ⟨X1.same S5, M1.ch.trans (.same S5), M1.fp, M1.bg.same S5, hbF, rfl⟩ ⟨(s4.trans s5) _ _ upd_same, rt.mono (.same S5), nok.tag, (s3.trans (s4.trans s5)) _ _ upd_same, rr.mono (.same S5), nok.row, nok.len, upd_same, rg.mono (.same s5)⟩ (fun z => X.here _ z fr) (fun z => X.here _ z fg) fg ntF (S5 _ _ ht) hno hkind
        · refine ⟨_, rfl, _, rfl, _, rfl, _, rfl, nb, as, rfl, X1.bo.h0, fun a ha => ?_, by rw [X1.bo.la]; omega, fun er ks H3 s3 fer her lk ck => ?_⟩
          · obtain ⟨j, hj⟩ := List.getElem?_of_mem ha
            obtain ⟨hj', _⟩ := List.getElem?_eq_some_iff.mp hj
            have e1 := X1.bo.la; have e2 := X1.bo.lr
            obtain ⟨tv, g, _⟩ := X1.bo.hN j a _ _ hj (List.getElem?_eq_getElem (by omega)) (List.getElem?_eq_getElem (by omega))
            exact ⟨_, _, g⟩
          have x3 : Stp b H1 H3 := .same x1.b1 s3
          have P3 : Pool H3 b er nds.length := .of (x1.b1.ne fer) her (fun k hk => by have := lk k hk; rw [X1.bo.la] at this; exact this) ck
          refine ⟨b, D1, er, S n0.kind, nds.length, rfl, x3.b1, P1.stp x3, P3, fun p tv r tag es ws H4 x4 h6 rt hd fr6 hr6 rr oe le => ?_⟩
          have x14 := x1.trans (x3.trans x4)
          have fr : H r = none := (x1.trans x3).chg.live _ fr6
          have ht4 := (x3.trans x4).keep _ _ (hb.ne ftt) ht
          refine ⟨_, rfl, p, _, 1, _, rfl, rfl, SqT.of h6, rfl, _, rfl, r, tt, ws, es, rfl, hr6, rr, oe, le, ht4, fun g us H5 s5 fg5 hg ru => ?_⟩
          have fg : H g = none := x14.chg.live _ fg5
          have x15 : Stp b H H5 := x14.trans (.same x14.b1 s5)
          have X5 := X.stp hbF x15
          have nr : r ∉ FP B nb td ths sls as rs := fun z => X.here _ z fr
          have ng : g ∉ FP B nb td ths sls as rs := fun z => X.here _ z fg
          have nt := ntF
          have M : Mid K C CT st b B nb td ths sls as rs nds H H5 ths sls as rs nds := ⟨X5, x15.chg.mono fun a h => by rw [List.mem_singleton.mp h]; exact List.mem_cons_self .., fun a h => .inl h, x15.b1, hbF, rfl⟩
          have F : Form st nds.length H5 p r g tv tag es ws us := ⟨s5 _ _ h6, rt.mono (.same s5), hd, s5 _ _ hr6, rr.mono (.same s5), oe, le, hg, ru⟩
          have ht := s5 _ _ ht4
          have hk : kn < nds.length := by obtain ⟨h, _⟩ := List.getElem?_eq_some_iff.mp hn0; have := M.ln; omega
          obtain ⟨dx, fs, hB, _, _, _, _, _, _, k7⟩ := M.pr.bk.ins
          refine ⟨_, rfl, B, dx, fs, rfl, hB, k7, _, rfl, _, rfl, tt, _, _, _, rfl, rfl, SqL.of ht, atI_nat (tbL_at hk), two, fun p1 hp1 => ?_⟩
          have s2 := same_new hp1 (.tup [.str (Str.ofString "ref"), .int (tb st kn)])
          have X2 := M.pr.same s2
          have F2 := F.chg (Chg.same (F := []) s2) (by simp) (by simp)
          refine ⟨_, rfl, p, _, 0, _, rfl, rfl, SqT.of F2.hp, rfl, _, rfl, B, td, ths, sls, nds, .ref p1, tv, g, us, kn, n0, tag, es, rfl, X2.bk, ⟨p1, _, rfl, upd_same⟩, hn0, F2.rt, F2.hg, F2.ru, (fun z => ng (by simp [FP, FB, z])), fun s' H3 Y3 c3 fs' => ⟨rfl, _, rfl, iteF ?_⟩⟩
          have F3 := F2.chg c3 (fun z => nr (by simp [FP, FB, z])) (fun z => ng (by simp [FP, FB, z]))
          refine ⟨_, rfl, _, rfl, p, _, 0, _, rfl, rfl, SqT.of F3.hp, rfl, _, rfl, p, _, 1, _, rfl, rfl, SqT.of F3.hp, rfl, r, ws, rfl, .inl (SqL.of F3.hr), fun l1 hl1 => ⟨by show 3 ≤ sizeLine; omega, fun a1 ha1 => ?_⟩⟩
          have s4 := same_new hl1 (.lst ws)
          have s5 := same_new ha1 (.lst [.str (S n0.kind), tv, .ref l1])
          have nal : a1 ≠ l1 := fun z => by rw [z, upd_same] at ha1; cases ha1
          obtain ⟨hnb, X6, c6, f6⟩ := X2.change hn0 Y3 c3 fs' (s4.trans s5) hl1 (live_same s4 _ ha1) nal upd_same (by rw [upd_ne (Ne.symm nal), upd_same]) (F3.rt.mono (.same (s4.trans s5))) (F3.rr.mono (.same (s4.trans s5))) F.hd (fun e he => by rw [M.ln]; exact F.oe e he) F.le
          refine ⟨_, rfl, _, rfl, nb, _, _, kn, rfl, rfl, hnb, ixN_nat (by rw [List.length_map, M.pr.bo.la, M.ln]; exact hk), ?_⟩
          obtain ⟨M6, out⟩ := M.step s2 X6 c6 f6 (by rw [List.length_set])
          have nr6 := out r (by rw [F.hr]; exact fun z => nomatch z) nr
          have ng6 := out g (by rw [F.hg]; exact fun z => nomatch z) ng
          have nt6 := out tt (by rw [ht]; exact fun z => nomatch z) nt
          have F6 := F2.chg c6 nr ng
          have ht6 := c6.keep _ _ nt (s2 _ _ ht)
          obtain ⟨no', hno', hk'⟩ : ∃ no', (nds.set kn ⟨n0.kind, tag, es⟩)[ko]? = some no' ∧ no'.kind = n0.kind := by
            rw [List.getElem?_set]
            by_cases e : kn = ko
            · rw [if_pos e, if_pos (by omega)]; exact ⟨_, rfl, rfl⟩
            · rw [if_neg e]; exact ⟨no, hno, hkind⟩
          exact hg8 _ _ _ _ _ _ p r g tv tag es ws us tt _ ko no' way _ _ _ _ M6 F6 nr6 ng6 fg nt6 ht6 hno' hk'
      · refine ⟨_, pss_cons (ps_setLc (i := 4) (own := [("k", 13)]) (g := gName 13) (tt := tYes) rfl sc__law_change.nd rfl rfl rfl (pi_range1 rfl T.z_range (pa_cons (pe_callB call_len_seq (by rfl) T.z_len PySem.boot_len (pa_cons (pv 2) pa_nil)) pa_nil)) (blkOk_by (own := [("k", 13)]) (N := n__law_change) (sc := defScope s__law_change) (by decide +kernel)) (fun _ _ _ _ _ => (pg_name (i := 13) sc__law_change.nd rfl (Or.inl rfl))) (fun _ _ _ _ _ => pts_nil) (fun _ _ _ _ _ => (pv 13)))
          (pss_cons (ps_set (i := 5) sc__law_change.nd rfl (.inl rfl) (pcall O hr (pa_cons (pv 0) (pa_cons (pe_callB call_len_seq (by rfl) T.z_len PySem.boot_len (pa_cons (pv 2) pa_nil)) pa_nil))))
          (pss_cons (ps_set (i := 6) sc__law_change.nd rfl (.inr rfl) (pe_ix ix_list (pe_ix ix_list (pv 2) (pv 5) (fun _ _ => rfl)) pe_int (fun _ _ => rfl)))
          (pss_cons (ps_setLc (i := 7) (own := [("k", 13)]) (g := gName 13) rfl sc__law_change.nd rfl rfl rfl (pi_list (pv 4)) (blkOk_by (own := [("k", 13)]) (N := n__law_change) (sc := defScope s__law_change) (by decide +kernel)) (fun _ _ _ _ _ => (pg_name (i := 13) sc__law_change.nd rfl (Or.inl rfl))) (fun _ _ _ _ _ => (pts_one (pt_cmpR op_eq (pe_ix (show IxR _ (rIxL K) from ix_list) (pe_ix (show IxR _ (rIxL K) from ix_list) (pv 2) (pv 13) (fun _ _ => rfl)) pe_int (fun _ _ => rfl)) (pv 6) (nomark _)))) (fun _ _ _ _ _ => (pv 13)))
          (pss_cons (ps_set (i := 8) sc__law_change.nd rfl (.inl rfl) (pe_ix ix_list (pv 7) (pcall O hr (pa_cons (pv 0) (pa_cons (pe_callB call_len_seq (by rfl) T.z_len PySem.boot_len (pa_cons (pv 7) pa_nil)) pa_nil))) (fun _ _ => rfl)))
          (pss_cons (ps_set (i := 9) sc__law_change.nd rfl (.inl rfl) (pcall Ot hr (pa_cons (pe_callB call_len_seq (by rfl) T.z_len PySem.boot_len (pa_cons (pv 2) pa_nil)) (pa_cons (pv 3) pa_nil))))
          (pss_cons (ps_set (i := 10) sc__law_change.nd rfl (.inl rfl) (pcall O hr (pa_cons (pv 0) (pa_cons pe_int pa_nil)))) ht7)))))), ?_⟩
        have la : (as.map V.ref).length = nds.length := by rw [List.length_map, X.bo.la]
        have n0len : 0 < nds.length := by cases nds with | nil => exact absurd rfl hne | cons => simp
        refine ⟨_, rfl, nb, _, rfl, .inl (SqL.of X.bo.h0), (nds.length : Int), by rw [la], by omega, by omega, fun D1 hD1 => ?_⟩
        have nD : D1 ≠ b := hb.ne hD1
        refine lc_it walk_range (fun i H' => Same H H' ∧ H' D1 = some (.lst (nats (List.range i)))) ⟨same_new hD1 _, upd_same⟩ (fun _ _ _ _ => trivial) ?_ ?_
        · rintro i x H3 H4 hi ⟨s3, h3⟩ ⟨rfl, rfl⟩
          refine ⟨rfl, iteT (B := True) (iteT ?_)⟩
          have hi' : i < nds.length := by simpa using hi
          refine ⟨_, rfl, _, h3, by rw [nats_len, List.length_range]; omega, same_grow s3 hD1, ?_⟩
          rw [upd_same, List.range_succ, nats_app]
          show some (HO.lst (nats (List.range i) ++ [V.int (0 + (i : Int))])) = some (HO.lst (nats (List.range i) ++ [V.int (i : Int)]))
          rw [Int.zero_add]
        rintro H1 ⟨s1, hp1⟩
        have hp1 : H1 D1 = some (.lst (nats (List.range nds.length))) := by simpa using hp1
        have x1 : Stp b H H1 := .same hb s1
        have P1 : Pool H1 b D1 nds.length := .of nD hp1 (fun k hk => List.mem_range.mp hk) (by rw [List.length_range]; omega)
        have X1 := X.stp hbF x1
        refine ⟨_, rfl, _, rfl, nb, _, rfl, .inl (SqL.of X1.bo.h0), b, _, rfl, x1.b1, (by rw [la]; omega), (by rw [la]; omega), fun r H2 r20 r21 x2 => ?_⟩
        rw [la] at r21
        obtain ⟨kn, rfl⟩ : ∃ j : Nat, r = (j : Int) := ⟨r.toNat, by omega⟩
        have hkn : kn < nds.length := by omega
        have hn0 : nds[kn]? = some nds[kn] := List.getElem?_eq_getElem hkn
        generalize nds[kn] = n0 at hn0
        have X2 := X1.stp hbF x2
        have x02 := x1.trans x2
        have look : ∀ {H' : Hp} {k : Nat} {n : Nd}, Pr K C CT st H' B nb td ths sls as rs nds → nds[k]? = some n → ∃ a t, atI (as.map V.ref) (k : Int) = some (.ref a) ∧ H' a = some (.lst (.str (S n.kind) :: t)) := fun X' hn' => by
          obtain ⟨a, r, tv, vs, ea, er, g, rt, g2, rr, vl⟩ := X'.bo.look hn'
          exact ⟨a, _, atI_nat (by rw [List.getElem?_map, ea]; rfl), g⟩
        obtain ⟨a, t, ea, g⟩ := look X2 hn0
        refine ⟨_, rfl, _, rfl, nb, _, _, .ref a, rfl, rfl, SqL.of X2.bo.h0, ea, a, _, 0, .str (S n0.kind), rfl, rfl, SqL.of g, (show atI (V.str (S n0.kind) :: t) ((0 : Nat) : Int) = _ from atI_nat rfl), ?_⟩
        have hp2 := x2.keep _ _ nD hp1
        refine ⟨_, rfl, D1, rfl, ⟨_, SqL.of hp2⟩, fun D2 hD2 => ?_⟩
        have nD2 : D2 ≠ b := x2.b1.ne hD2
        refine lc_it (walk_list (xs := nats (List.range nds.length))) (fun i H' => Same H2 H' ∧ ∃ ks, H' D2 = some (.lst (nats ks)) ∧ ks.length ≤ i ∧ (∀ k ∈ ks, ∃ no, nds[k]? = some no ∧ no.kind = n0.kind) ∧ (kn < i → ks ≠ [])) ⟨same_new hD2 _, [], upd_same, Nat.le_refl _, (fun k h => by cases h), fun h => absurd h (Nat.not_lt_zero _)⟩ (fun i H' _ h => SqL.of (h.1 _ _ hp2)) ?_ ?_
        · rintro i x H3 H4 hi ⟨s3, ks, h3, l3, o3, e3⟩ ⟨rfl, hx⟩
          rw [nats_len, List.length_range] at hi
          have hx' : x = V.int (i : Nat) := by
            unfold nats at hx
            rw [List.getElem?_map, List.getElem?_range hi] at hx
            exact (Option.some.inj hx).symm
          subst hx'
          have hni : nds[i]? = some nds[i] := List.getElem?_eq_getElem hi
          generalize nds[i] = ni at hni
          obtain ⟨a3, t3, ea3, g3⟩ := look (X2.same s3) hni
          refine ⟨rfl, ?_⟩
          refine ⟨_, rfl, _, rfl, nb, _, _, .ref a3, rfl, rfl, SqL.of (s3 _ _ X2.bo.h0), ea3, a3, _, 0, .str (S ni.kind), rfl, rfl, SqL.of g3, (show atI (V.str (S ni.kind) :: t3) ((0 : Nat) : Int) = _ from atI_nat rfl), _, rfl, rfl, _, rfl, ?_⟩
          rw [str_dec]
          refine ite2 (fun c => ?_) (fun c => ?_)
          · have c := of_decide_eq_true c
            refine ⟨_, rfl, _, h3, by rw [nats_len]; omega, same_grow s3 hD2, ks ++ [i], ?_, by simp; omega, ?_, fun _ z => by simp at z⟩
            · rw [upd_same, nats_app]; rfl
            · intro k hk
              rcases List.mem_append.mp hk with h | h
              · exact o3 k h
              · rw [List.mem_singleton.mp h]; exact ⟨ni, hni, c⟩
          · refine ⟨s3, ks, h3, by omega, o3, fun h => ?_⟩
            have : kn ≠ i := fun z => by
              subst z
              rw [hn0] at hni
              cases hni
              exact c (decide_eq_true rfl)
            exact e3 (by omega)
        rintro H3 ⟨s3, ks, h3, l3, o3, e3⟩
        rw [nats_len, List.length_range] at l3 e3
        have ks0 : 0 < ks.length := by cases ks with | nil => exact absurd rfl (e3 hkn) | cons => simp
        have x3 : Stp b H2 H3 := .same x2.b1 s3
        refine ⟨_, rfl, _, rfl, _, rfl, D2, _, rfl, .inl (SqL.of h3), b, _, rfl, x3.b1, (by rw [nats_len]; omega), (by rw [nats_len]; omega), fun r4 H4 r40 r41 x4 => ?_⟩
        rw [nats_len] at r41
        obtain ⟨j, rfl⟩ : ∃ j : Nat, r4 = (j : Int) := ⟨r4.toNat, by omega⟩
        have hj : j < ks.length := by omega
        refine ⟨D2, _, _, _, rfl, rfl, SqL.of (x4.keep _ _ nD2 h3), nats_at hj, ?_⟩
        obtain ⟨no, hno, hkd⟩ := o3 ks[j] (List.getElem_mem hj)
        generalize ks[j] = ko at hno
        have x24 := x3.trans x4
        have X4 := X2.stp hbF x24
        refine ⟨_, rfl, nb, _, rfl, .inl (SqL.of X4.bo.h0), _, rfl, nds.length, st, by rw [la]; rfl, h1, h2, by omega, fun tt H5 s5 ft ht => ?_⟩
        have x04 := x02.trans x24
        have ftt : H tt = none := x04.chg.live _ ft
        have x05 : Stp b H H5 := x04.trans (.same x04.b1 s5)
        refine ⟨_, rfl, b, 4, rfl, x05.b1, by decide, by decide, fun way H6 _ _ x6 => ?_⟩
        exact hg7 H6 D1 tt kn ko n0 no way _ (x05.trans x6) (((P1.stp x2).stp x24).stp ((Stp.same x04.b1 s5).trans x6)) hn0 hno hkd ftt (x6.keep _ _ (hb.ne ftt) ht)
end
end D0
namespace D0
open PySem PySem.Spec PyProof.Rows L2 SX NumText
def tTru (K : PySem.W.Frag) (te : TE) : TT := fun σ H Q => te σ H fun x H' => ∃ k, TruV K x H' k ∧ Q k H'
section
variable {P : Program} {w : World} {K : PySem.W.Frag} {mg : Str → Option Value} {base : Heap} {C CT : Addr} {st : Nat}
theorem ok__law_deed (T : Txt K w mg) (O : OkD P w K mg base CX0 1 "_law_take" p__law_take spTake) (Ofr : OkD P w K mg base CX0 1 "_law_free" p__law_free spFree)
    (Oc : OkD P w K mg base CX0 12 "_law_change" p__law_change (spChangeL K C CT st)) (Os : OkD P w K mg base CX0 12 "_law_set" p__law_set (spSetL K C CT st)) (Om : OkD P w K mg base CX0 12 "_law_make" p__law_make (spMakeL K C CT st)) :
    OkD P w K mg base CX0 13 "_law_deed" p__law_deed (spMakeL K C CT st) := by
  refine T.g__law_deed.ok sc__law_deed (fun vs H Q E h => ?_) (fun f cdv A outer s H vs Q E hr h => ?_)
  · obtain ⟨b, B, nb, td, ths, sls, as, rs, nds, rfl, _⟩ := h; rfl
  obtain ⟨b, B, nb, td, ths, sls, as, rs, nds, rfl, hb, hbF, X, hln, q⟩ := h
  have lim : (1000 : Nat) < sizeLine := by decide
  refine ⟨_, (pss_cons (ps_setLc (i := 4) (own := [("k", 6)]) (g := gName 6) rfl sc__law_deed.nd rfl rfl rfl (pi_range1 rfl T.z_range (pa_cons (pe_callB call_len_seq (by rfl) T.z_len PySem.boot_len (pa_cons (pv 2) pa_nil)) pa_nil)) (blkOk_by (own := [("k", 6)]) (N := n__law_deed) (sc := defScope s__law_deed) (by decide +kernel)) (fun _ _ _ _ _ => (pg_name (i := 6) sc__law_deed.nd rfl (Or.inl rfl))) (fun _ _ _ _ _ => (pts_one (show PT _ _ (tTru K (tCall spFree [] E0 (tCons (tOp (rIxL K) (tVar 2) (tVar 6)) tNil))) from pt_truth (pcall Ofr hr (pa_cons (pe_ix (show IxR _ (rIxL K) from ix_list) (pv 2) (pv 6) (fun _ _ => rfl)) pa_nil)) (fun _ => rfl)))) (fun _ _ _ _ _ => (pv 6)))
      (pss_cons (ps_set (i := 5) sc__law_deed.nd rfl (.inl rfl) (pcall O hr (pa_cons (pv 0) (pa_cons pe_int pa_nil))))
      (pss_cons (ps_if (PW.pt (pw_and (pt_cmpR op_gt (pv 5) pe_int (nomark _)) (pw_and1 (pt_truth (pv 2) (by intro _; rfl))))) (pss_one (ps_ret (pcall Oc hr (pa_cons (pv 0) (pa_cons (pv 1) (pa_cons (pv 2) (pa_cons (pv 3) pa_nil))))))) pss_nil)
      (pss_cons (ps_if (PW.pt (pw_and (pt_cmpR op_gt (pv 5) pe_int (nomark _)) (pw_and1 (pt_truth (pv 4) (by intro _; rfl))))) (pss_one (ps_ret (pcall Os hr (pa_cons (pv 0) (pa_cons (pv 1) (pa_cons (pv 2) (pa_cons (pv 3) (pa_cons (pv 4) pa_nil)))))))) pss_nil)
      (pss_one (ps_ret (pcall Om hr (pa_cons (pv 0) (pa_cons (pv 1) (pa_cons (pv 2) (pa_cons (pv 3) pa_nil))))))))))), ?_⟩
  have la : (as.map V.ref).length = nds.length := by rw [List.length_map, X.bo.la]
  refine ⟨_, rfl, nb, _, rfl, .inl (SqL.of X.bo.h0), (nds.length : Int), by rw [la], by omega, by omega, fun D1 hD1 => ?_⟩
  have nD : D1 ≠ b := hb.ne hD1
  refine lc_it walk_range (fun i H' => Same H H' ∧ ∃ hs, H' D1 = some (.lst (nats hs)) ∧ hs.length ≤ i ∧ ∀ k ∈ hs, ∃ n, nds[k]? = some n ∧ frees (S n.kind) n.row.length ≠ []) ⟨same_new hD1 _, [], upd_same, Nat.le_refl _, fun k h => by cases h⟩ (fun _ _ _ _ => trivial) ?_ ?_
  · rintro i x H3 H4 hi ⟨s3, hs, h3, l3, o3⟩ ⟨rfl, rfl⟩
    have hi' : i < nds.length := by simpa using hi
    have hni : nds[i]? = some nds[i] := List.getElem?_eq_getElem hi'
    generalize nds[i] = n at hni
    have nok := X.ok n (List.mem_of_getElem? hni)
    obtain ⟨a, r, tv, vs, ea, er, g, rt, g2, rr, vl⟩ := (X.same s3).bo.look hni
    refine ⟨rfl, ?_⟩
    refine ⟨_, rfl, _, rfl, nb, _, _, .ref a, rfl, rfl, SqL.of (s3 _ _ X.bo.h0), by rw [Int.zero_add]; exact atI_nat (by rw [List.getElem?_map, ea]; rfl), a, S n.kind, tv, r, vs, rfl, g, g2, by have := nok.len; omega, fun p H5 s5 fp hp => ⟨_, .inl ⟨_, SqL.of hp, rfl⟩, ?_⟩⟩
    have s35 := s3.trans s5
    have h5 := s5 _ _ h3
    refine ite2 (fun c => ?_) (fun c => ⟨s35, hs, h5, by omega, o3⟩)
    refine ⟨_, rfl, _, h5, by rw [nats_len]; omega, same_grow s35 hD1, hs ++ [i], ?_, by simp; omega, fun k hk => ?_⟩
    · rw [upd_same, nats_app]
      show some (HO.lst (nats hs ++ [V.int (0 + (i : Int))])) = some (HO.lst (nats hs ++ [V.int (i : Int)]))
      rw [Int.zero_add]
    · rcases List.mem_append.mp hk with h | h
      · exact o3 k h
      · rw [List.mem_singleton.mp h]
        refine ⟨n, hni, fun z => ?_⟩
        rw [vl, z] at c
        exact absurd c (by decide)
  rintro H1 ⟨s1, hs, h1, l1, o1⟩
  have l1 : hs.length ≤ nds.length := by simpa using l1
  have x1 : Stp b H H1 := .same hb s1
  refine ⟨_, rfl, b, 8, rfl, x1.b1, by decide, by decide, fun way H2 _ _ x2 => ?_⟩
  have x02 := x1.trans x2
  have X2 := X.stp hbF x02
  have q2 : Done K C CT st b B nb td ths sls as rs nds H2 Q := fun H' ths' sls' as' rs' nds' X' c' f' b' l' => by
    refine q H' ths' sls' as' rs' nds' X' ((x02.chg.mono fun a h => by rw [List.mem_singleton.mp h]; exact List.mem_cons_self ..).trans c') (fun a h => ?_) b' l'
    rcases f' a h with h | h
    · exact .inl h
    · exact .inr (x02.chg.live _ h)
  refine via2 (fun hB => ⟨_, rfl, _, _, rfl, rfl, _, rfl, ite2 (fun _ => ⟨_, rfl, _, .inl ⟨_, SqL.of X2.bo.h0, rfl⟩, ite2 (fun k => ?_) (fun _ => hB)⟩) (fun _ => hB)⟩) ?_
  · refine ⟨_, rfl, _, rfl, _, rfl, _, rfl, b, B, nb, td, ths, sls, as, rs, nds, rfl, x02.b1, hbF, X2, hln, fun z => ?_, q2⟩
    subst z
    have e := X.bo.la
    cases as with
    | nil => exact absurd k (by decide)
    | cons _ _ => simp at e
  refine via2 (fun hB => ⟨_, rfl, _, _, rfl, rfl, _, rfl, ite2 (fun _ => ⟨_, rfl, _, .inl ⟨_, SqL.of (x2.keep _ _ nD h1), rfl⟩, ite2 (fun k => ?_) (fun _ => hB)⟩) (fun _ => hB)⟩) ?_
  · refine ⟨_, rfl, _, rfl, _, rfl, _, rfl, _, rfl, b, B, nb, td, D1, ths, sls, as, rs, nds, hs, rfl, x02.b1, hbF, X2, hln, x2.keep _ _ nD h1, nD, fun z => ?_, by omega, o1, q2⟩
    subst z
    exact absurd k (by decide)
  · exact ⟨_, rfl, _, rfl, _, rfl, _, rfl, b, B, nb, td, ths, sls, as, rs, nds, rfl, x02.b1, hbF, X2, hln, q2⟩
end
end D0
namespace D0
open PySem PySem.Spec PyProof.Rows L2 SX NumText
structure Bx where
  B : Addr
  nb : Addr
  td : Addr
  ths : List Addr
  sls : List Addr
  as : List Addr
  rs : List Addr
  nds : List Nd
def Bx.F (x : Bx) : List Addr := FP x.B x.nb x.td x.ths x.sls x.as x.rs
def Bx.at (K : PySem.W.Frag) (C CT : Addr) (st : Nat) (H : Hp) (x : Bx) : Prop := Pr K C CT st H x.B x.nb x.td x.ths x.sls x.as x.rs x.nds
structure Tri (K : PySem.W.Frag) (CS CH CT : Addr) (H0 H : Hp) (x y z : Bx) (m : Nat) : Prop where
  px : x.at K CS CT 1 H
  py : y.at K CS CT 1 H
  pz : z.at K CH CT 2 H
  dxy : ∀ a ∈ x.F, a ∉ y.F
  dxz : ∀ a ∈ x.F, a ∉ z.F
  dyz : ∀ a ∈ y.F, a ∉ z.F
  fx : ∀ a ∈ x.F, H0 a = none
  fy : ∀ a ∈ y.F, H0 a = none
  fz : ∀ a ∈ z.F, H0 a = none
  sm : Same H0 H
  lx : x.nds.length ≤ m
  ly : y.nds.length ≤ m
  lz : z.nds.length ≤ m
section
variable {K : PySem.W.Frag} {C CS CH CT : Addr} {st : Nat} {H0 H H' : Hp} {x x' y z : Bx} {b : Addr} {m : Nat}
theorem Tri.same (T : Tri K CS CH CT H0 H x y z m) (s : Same H H') : Tri K CS CH CT H0 H' x y z m :=
  ⟨Pr.same T.px s, Pr.same T.py s, Pr.same T.pz s, T.dxy, T.dxz, T.dyz, T.fx, T.fy, T.fz, T.sm.trans s, T.lx, T.ly, T.lz⟩
theorem other (Y : y.at K C CT st H) (c : Chg (b :: x.F) H H') (d : ∀ a ∈ x.F, a ∉ y.F) (n : b ∉ y.F) : y.at K C CT st H' := Pr.frame Y c fun a ha z => by
  rcases List.mem_cons.mp z with h | h
  · rw [h] at ha; exact n ha
  · exact d a h ha
theorem apart (Y : y.at K C CT st H) (f : ∀ a ∈ x'.F, a ∈ x.F ∨ H a = none) (d : ∀ a ∈ x.F, a ∉ y.F) : ∀ a ∈ x'.F, a ∉ y.F := fun a ha z => by
  rcases f a ha with h | h
  · exact d a h z
  · exact Pr.here Y a z h
theorem fresh0 (s : Same H0 H) (f : ∀ a ∈ x'.F, a ∈ x.F ∨ H a = none) (d : ∀ a ∈ x.F, H0 a = none) : ∀ a ∈ x'.F, H0 a = none := fun a ha => by
  rcases f a ha with h | h
  · exact d a h
  · exact live_same s _ h
theorem same0 (s : Same H0 H) (c : Chg (b :: x.F) H H') (d : ∀ a ∈ x.F, H0 a = none) (n : H0 b = none) : Same H0 H' := fun a o e => c.keep a o (fun z => by
  rcases List.mem_cons.mp z with h | h
  · rw [h, n] at e; cases e
  · rw [d a h] at e; cases e) (s a o e)
theorem sym {u v : List Addr} (d : ∀ a ∈ u, a ∉ v) : ∀ a ∈ v, a ∉ u := fun a h z => d a z h
theorem Tri.stepx (T : Tri K CS CH CT H0 H x y z m) (X : x'.at K CS CT 1 H') (c : Chg (b :: x.F) H H') (f : ∀ a ∈ x'.F, a ∈ x.F ∨ H a = none) (n0 : H0 b = none) (ny : b ∉ y.F) (nz : b ∉ z.F) (l : x'.nds.length ≤ x.nds.length + 2) : Tri K CS CH CT H0 H' x' y z (m + 2) :=
  ⟨X, other T.py c T.dxy ny, other T.pz c T.dxz nz, apart T.py f T.dxy, apart T.pz f T.dxz, T.dyz, fresh0 T.sm f T.fx, T.fy, T.fz, same0 T.sm c T.fx n0, by have := T.lx; omega, by have := T.ly; omega, by have := T.lz; omega⟩
theorem Tri.stepy {y' : Bx} (T : Tri K CS CH CT H0 H x y z m) (X : y'.at K CS CT 1 H') (c : Chg (b :: y.F) H H') (f : ∀ a ∈ y'.F, a ∈ y.F ∨ H a = none) (n0 : H0 b = none) (nx : b ∉ x.F) (nz : b ∉ z.F) (l : y'.nds.length ≤ y.nds.length + 2) : Tri K CS CH CT H0 H' x y' z (m + 2) :=
  ⟨other T.px c (sym T.dxy) nx, X, other T.pz c T.dyz nz, sym (apart T.px f (sym T.dxy)), T.dxz, apart T.pz f T.dyz, T.fx, fresh0 T.sm f T.fy, T.fz, same0 T.sm c T.fy n0, by have := T.lx; omega, by have := T.ly; omega, by have := T.lz; omega⟩
theorem Tri.stepz {z' : Bx} (T : Tri K CS CH CT H0 H x y z m) (X : z'.at K CH CT 2 H') (c : Chg (b :: z.F) H H') (f : ∀ a ∈ z'.F, a ∈ z.F ∨ H a = none) (n0 : H0 b = none) (nx : b ∉ x.F) (ny : b ∉ y.F) (l : z'.nds.length ≤ z.nds.length + 2) : Tri K CS CH CT H0 H' x y z' (m + 2) :=
  ⟨other T.px c (sym T.dxz) nx, other T.py c (sym T.dyz) ny, X, T.dxy, sym (apart T.px f (sym T.dxz)), sym (apart T.py f (sym T.dyz)), T.fx, T.fy, fresh0 T.sm f T.fz, same0 T.sm c T.fz n0, by have := T.lx; omega, by have := T.ly; omega, by have := T.lz; omega⟩
/-- a Store that was just made -/
theorem store_made {x dx td : Addr} (hx : H x = none) (hdx : H dx = none) (ne : dx ≠ x) (htd : upd (upd H dx (.own x)) x (.ins CS dx []) td = none) :
    Same H (upd (upd (upd (upd H dx (.own x)) x (.ins CS dx [])) td (.dK [])) x (.ins CS dx [(fThings, .ref td)])) ∧ BkA K CS CT 1 (upd (upd (upd (upd H dx (.own x)) x (.ins CS dx [])) td (.dK [])) x (.ins CS dx [(fThings, .ref td)])) x td [] [] [] ∧ H td = none := by
  have n1 : td ≠ x := fun z => by rw [z, upd_same] at htd; cases htd
  have n2 : td ≠ dx := fun z => by rw [z, upd_ne ne, upd_same] at htd; cases htd
  have f : H td = none := by rw [upd_ne n1, upd_ne n2] at htd; exact htd
  refine ⟨fun a o e => ?_, bk_empty (dx := dx) (more := []) upd_same (.inl ⟨rfl, rfl⟩) (by rw [upd_ne n1, upd_same]), f⟩
  rw [upd_ne (ne_of_none e hx), upd_ne (ne_of_none e f), upd_ne (ne_of_none e hx), upd_ne (ne_of_none e hdx)]; exact e
theorem bo_empty {nb : Addr} (h : H nb = some (.lst [])) : BoA H nb [] [] [] :=
  ⟨rfl, rfl, h, fun k a r n h => by simp at h, fun k r n h => by simp at h, ⟨by simp, by simp, List.Pairwise.nil, List.Pairwise.nil, by simp⟩⟩
theorem pr_empty {B td nb : Addr} (Y : BkA K C CT st H B td [] [] []) (h : H nb = some (.lst [])) (n1 : nb ≠ B) (n2 : nb ≠ td) : Bx.at K C CT st H ⟨B, nb, td, [], [], [], [], []⟩ :=
  ⟨Y, bo_empty h, fun a ha => by simp [FN] at ha; rw [ha]; simp [FB, n1, n2], fun n h => by simp at h, Nat.zero_le _⟩
end
theorem Tri.stp {K : PySem.W.Frag} {CS CH CT : Addr} {H0 H H' : Hp} {x y z : Bx} {b : Addr} {m : Nat} (T : Tri K CS CH CT H0 H x y z m) (s : Stp b H H') (n0 : H0 b = none) (nx : b ∉ x.F) (ny : b ∉ y.F) (nz : b ∉ z.F) : Tri K CS CH CT H0 H' x y z m :=
  ⟨Pr.stp T.px nx s, Pr.stp T.py ny s, Pr.stp T.pz nz s, T.dxy, T.dxz, T.dyz, T.fx, T.fy, T.fz, fun a o e => s.keep a o (fun z => by rw [z, n0] at e; cases e) (T.sm a o e), T.lx, T.ly, T.lz⟩
theorem ne_pf {H : Hp} {a b : Addr} (h : H a ≠ none) (k : H b = none) : a ≠ b := fun z => h (by rw [z]; exact k)
theorem pres {H H' : Hp} {a : Addr} (s : Same H H') (h : H a ≠ none) : H' a ≠ none := fun z => h (live_same s _ z)
def spLaw (K : PySem.W.Frag) : Sp := fun vs H Q _ => ∃ (a : Addr) (ns : List Int), vs = [.ref a] ∧ SqL K H a (ns.map V.int) ∧ ns.length ≤ 63 ∧ ∀ H', Q (.bl true) H'
theorem sqL_sm {K : PySem.W.Frag} {H H' : Hp} {a : Addr} {vs : List V} (h : SqL K H a vs) (s : Same H H') : SqL K H' a vs := by
  rcases h with (h | ⟨o, h⟩) | h
  · exact .inl (.inl (s _ _ h))
  · exact .inl (.inr ⟨o, s _ _ h⟩)
  · exact .inr h
section
variable {P : Program} {w : World} {K : PySem.W.Frag} {mg : Str → Option Value} {base : Heap} {CS CH CT : Addr}
theorem ok_law (T : Txt K w mg) (TS : StT K mg CS) (TX : StX K mg CS) (TH : HeT K mg CH) (Oe : OkD P w K mg base CX0 10 "_law_same" p__law_same (spSame K 9)) (Ok : OkD P w K mg base CX0 1 "_law_kinds" p__law_kinds spKinds)
    (Ob : OkD P w K mg base CX0 2 "_law_box" p__law_box (spBox K)) (O : OkD P w K mg base CX0 1 "_law_take" p__law_take spTake)
    (OdS : OkD P w K mg base CX0 13 "_law_deed" p__law_deed (spMakeL K CS CT 1)) (OdH : OkD P w K mg base CX0 13 "_law_deed" p__law_deed (spMakeL K CH CT 2))
    (OtS : OkD P w K mg base CX0 12 "_law_told" p__law_told (spTold K CS CT 1)) (OtH : OkD P w K mg base CX0 12 "_law_told" p__law_told (spTold K CH CT 2)) : OkD P w K mg base CX0 14 "law" p_law (spLaw K) := by
  have Od := OdS.or OdH
  have Ot := OtS.or OtH
  obtain ⟨mc, cr, _, ak, cv, kt, ky⟩ := TX.cr
  obtain ⟨fI, fdI, MS, bS, FS⟩ := TS.ini
  have GS := ok_Store___init__ (P := P) (w := w) (mg := mg) (base := base) FS
  obtain ⟨fJ, fdJ, MH, bH, FH⟩ := TH.ini
  have GH := ok_Heap___init__ (P := P) (w := w) (base := base) (CT := CT) TS TX TH FH
  refine T.g_law.ok sc_law (fun vs H Q E h => ?_) (fun f cdv A outer s H vs Q E hr h => ?_)
  · obtain ⟨a, ns, rfl, _⟩ := h; rfl
  obtain ⟨a, ns, rfl, hS, h63, q⟩ := h
  have lim : (1000 : Nat) < sizeLine := by decide
  refine ⟨_, (pss_cons (ps_if (pt_not (pt_val (pcall Oe hr (pa_cons (ClX.pe_cval (pe_glob (v := .ref CS) rfl TS.gl rfl)) (pa_cons (pcall0 Ok hr) pa_nil))))) (pss_one (ps_ret pe_bl)) pss_nil)
      (pss_cons (ps_set (i := 1) sc_law.nd rfl (.inl rfl) (pcall Ob hr (pa_cons (pv 0) (pa_cons pe_int pa_nil))))
      (pss_cons (ps_set (i := 2) sc_law.nd rfl (.inl rfl) (pe_op op_add pe_int (pcall O hr (pa_cons (pv 1) (pa_cons pe_int pa_nil)))))
      (pss_cons (ps_set (i := 3) sc_law.nd rfl (.inl rfl) (pe_lst (pa_cons (pe_make0 MS GS (hr.mono (by decide)) rfl TS.gl bS .nil pass0) (pa_cons (pe_make0 MS GS (hr.mono (by decide)) rfl TS.gl bS .nil pass0) (pa_cons (pe_make0 MH GH (hr.mono (by decide)) rfl TH.gl bH .nil pass0) pa_nil)))))
      (pss_cons (ps_set (i := 4) sc_law.nd rfl (.inl rfl) (pe_tup (pa_cons pe_int (pa_cons pe_int (pa_cons pe_int pa_nil)))))
      (pss_cons (ps_set (i := 5) sc_law.nd rfl (.inl rfl) (pe_lst (pa_cons (pe_lst pa_nil) (pa_cons (pe_lst pa_nil) (pa_cons (pe_lst pa_nil) pa_nil)))))
      (pss_cons (ps_set (i := 6) sc_law.nd rfl (.inl rfl) (pe_tup (pa_cons pe_int (pa_cons pe_int (pa_cons pe_int (pa_cons pe_int (pa_cons pe_int pa_nil)))))))
      (pss_cons (ps_for PassesOwn.never rfl (pi_range1 rfl T.z_range (pa_cons (pv 2) pa_nil)) (pg_name (i := 7) sc_law.nd rfl (Or.inl rfl)) (pss_cons (ps_set (i := 8) sc_law.nd rfl (.inl rfl) (pcall Ob hr (pa_cons (pv 0) (pa_cons (pe_op op_add pe_int (pv 7)) pa_nil))))
      (pss_cons (ps_set (i := 9) sc_law.nd rfl (.inl rfl) (pe_ix ix_tup (pv 6) (pcall O hr (pa_cons (pv 8) (pa_cons pe_int pa_nil))) (fun _ _ => rfl)))
      (pss_cons (ps_if (pt_not (pt_val (pcall Od hr (pa_cons (pv 8) (pa_cons (pe_ix ix_list (pv 3) (pv 9) (fun _ _ => rfl)) (pa_cons (pe_ix ix_list (pv 5) (pv 9) (fun _ _ => rfl)) (pa_cons (pe_ix ix_tup (pv 4) (pv 9) (fun _ _ => rfl)) pa_nil))))))) (pss_one (ps_ret pe_bl)) pss_nil)
      (pss_one (ps_if (PW.pt (pw_and (pt_cmpR op_gt (pcall O hr (pa_cons (pv 8) (pa_cons pe_int pa_nil))) pe_int (nomark _)) (pw_and1 (pt_not (pt_val (pcall Ot hr (pa_cons (pe_ix ix_list (pv 3) (pv 9) (fun _ _ => rfl)) (pa_cons (pe_ix ix_list (pv 5) (pv 9) (fun _ _ => rfl)) (pa_cons (pe_ix ix_tup (pv 4) (pv 9) (fun _ _ => rfl)) pa_nil))))))))) (pss_one (ps_ret pe_bl)) pss_nil))))))
      (pss_cons (ps_for PassesOwn.never rfl (pi_range1 rfl T.z_range (pa_cons pe_int pa_nil)) (pg_name (i := 9) sc_law.nd rfl (Or.inl rfl)) (pss_one (ps_if (pt_not (pt_val (pcall Ot hr (pa_cons (pe_ix ix_list (pv 3) (pv 9) (fun _ _ => rfl)) (pa_cons (pe_ix ix_list (pv 5) (pv 9) (fun _ _ => rfl)) (pa_cons (pe_ix ix_tup (pv 4) (pv 9) (fun _ _ => rfl)) pa_nil)))))) (pss_one (ps_ret pe_bl)) pss_nil)))
      (pss_one (ps_ret pe_bl))))))))))), ?_⟩
  -- the kinds
  refine ⟨CS, mc, .ref ak, _, rfl, cr, cv, rfl, fun p H1 s1 hp => ⟨.ref ak, .ref p, rfl, ⟨_, rfl, iteF ?_⟩, .inl ⟨false, ak, p, KS.map V.str, KS.map V.str, _, rfl, rfl, ⟨kt _, ky _⟩, ⟨SqT.of hp, .base (.tup hp)⟩, reps_strs KS, reps_strs KS, by decide, by have := deps_strs KS; omega⟩⟩⟩
  refine ⟨_, rfl, a, ns, 0, rfl, sqL_sm hS s1, by omega, fun b0 H2 s2 f2 hb2 => ?_⟩
  refine ⟨_, rfl, b0, 18, rfl, hb2, by decide, by decide, fun r H3 r0 r1 x3 => ⟨_, _, rfl, rfl, ?_⟩⟩
  have fb0 : H b0 = none := live_same s1 _ f2
  have S3 : Same H H3 := fun a o e => x3.keep a o (fun z => by rw [z, fb0] at e; cases e) (s2 _ _ (s1 _ _ e))
  obtain ⟨dn, hdn⟩ : ∃ dn : Nat, 3 + r = (dn : Int) := ⟨(3 + r).toNat, by omega⟩
  -- the banks
  refine fun B0 dx0 hB0 hdx0 ne0 => ⟨B0, CS, dx0, rfl, upd_same, TS.bk.cl, TS.bk.n_things, fun td0 htd0 => ⟨rfl, ?_⟩⟩
  obtain ⟨sA, YA, fA⟩ := store_made (CT := CT) (K := K) hB0 hdx0 ne0 htd0
  generalize (upd (upd (upd (upd H3 dx0 (.own B0)) B0 (.ins CS dx0 [])) td0 (.dK [])) B0 (.ins CS dx0 [(fThings, .ref td0)])) = HA at sA YA
  refine fun B1 dx1 hB1 hdx1 ne1 => ⟨B1, CS, dx1, rfl, upd_same, TS.bk.cl, TS.bk.n_things, fun td1 htd1 => ⟨rfl, ?_⟩⟩
  obtain ⟨sB, YB, fB⟩ := store_made (CT := CT) (K := K) hB1 hdx1 ne1 htd1
  generalize (upd (upd (upd (upd HA dx1 (.own B1)) B1 (.ins CS dx1 [])) td1 (.dK [])) B1 (.ins CS dx1 [(fThings, .ref td1)])) = HB at sB YB
  refine fun B2 dx2 hB2 hdx2 ne2 => ⟨B2, dx2, rfl, upd_same, fun td2 HC YC kC fC' => ⟨rfl, ?_⟩⟩
  have sC : Same HB HC := fun a o e => kC a o (ne_of_none e hB2) (by rw [upd_ne (ne_of_none e hB2), upd_ne (ne_of_none e hdx2)]; exact e)
  have fC : HB td2 = none := by
    have n1 : td2 ≠ B2 := fun z => by rw [z, upd_same] at fC'; cases fC'
    have n2 : td2 ≠ dx2 := fun z => by rw [z, upd_ne ne2, upd_same] at fC'; cases fC'
    rw [upd_ne n1, upd_ne n2] at fC'; exact fC'
  refine ⟨by show 3 ≤ sizeLine; omega, fun pb hpb => ⟨by show 3 ≤ sizeLine; omega, fun ps hps => ?_⟩⟩
  have s5 := same_new hpb (.lst [.ref B0, .ref B1, .ref B2])
  have h5 : upd HC pb (.lst [.ref B0, .ref B1, .ref B2]) pb = some (.lst [.ref B0, .ref B1, .ref B2]) := upd_same
  generalize upd HC pb (.lst [.ref B0, .ref B1, .ref B2]) = H5 at s5 h5 hps
  have s6 := same_new hps (.tup [.int 1, .int 1, .int 2])
  have h6 : upd H5 ps (.tup [.int 1, .int 1, .int 2]) ps = some (.tup [.int 1, .int 1, .int 2]) := upd_same
  generalize upd H5 ps (.tup [.int 1, .int 1, .int 2]) = H6 at s6 h6
  refine ⟨Nat.zero_le _, fun n0 hn0 => ?_⟩
  have s7 := same_new hn0 (.lst [])
  have h7 : upd H6 n0 (.lst []) n0 = some (.lst []) := upd_same
  generalize upd H6 n0 (.lst []) = H7 at s7 h7
  refine ⟨Nat.zero_le _, fun n1 hn1 => ?_⟩
  have s8 := same_new hn1 (.lst [])
  have h8 : upd H7 n1 (.lst []) n1 = some (.lst []) := upd_same
  generalize upd H7 n1 (.lst []) = H8 at s8 h8
  refine ⟨Nat.zero_le _, fun n2 hn2 => ?_⟩
  have s9 := same_new hn2 (.lst [])
  have h9 : upd H8 n2 (.lst []) n2 = some (.lst []) := upd_same
  generalize upd H8 n2 (.lst []) = H9 at s9 h9
  refine ⟨by show 3 ≤ sizeLine; omega, fun pk hpk => ⟨by show 5 ≤ sizeLine; omega, fun pd hpd => ?_⟩⟩
  have s10 := same_new hpk (.lst [.ref n0, .ref n1, .ref n2])
  have h10 : upd H9 pk (.lst [.ref n0, .ref n1, .ref n2]) pk = some (.lst [.ref n0, .ref n1, .ref n2]) := upd_same
  generalize upd H9 pk (.lst [.ref n0, .ref n1, .ref n2]) = H10 at s10 h10 hpd
  have s11 := same_new hpd (.tup [.int 0, .int 0, .int 1, .int 2, .int 2])
  have h11 : upd H10 pd (.tup [.int 0, .int 0, .int 1, .int 2, .int 2]) pd = some (.tup [.int 0, .int 0, .int 1, .int 2, .int 2]) := upd_same
  generalize upd H10 pd (.tup [.int 0, .int 0, .int 1, .int 2, .int 2]) = HZ at s11 h11
  have pA : HA B0 ≠ none := YA.here _ (by simp [FB])
  have qA : HA td0 ≠ none := YA.here _ (by simp [FB])
  have pB : HB B1 ≠ none := YB.here _ (by simp [FB])
  have qB : HB td1 ≠ none := YB.here _ (by simp [FB])
  have pC : HC B2 ≠ none := YC.here _ (by simp [FB])
  have qC : HC td2 ≠ none := YC.here _ (by simp [FB])
  have p5 : H5 pb ≠ none := by rw [h5]; exact fun z => nomatch z
  have p6 : H6 ps ≠ none := by rw [h6]; exact fun z => nomatch z
  have p7 : H7 n0 ≠ none := by rw [h7]; exact fun z => nomatch z
  have p8 : H8 n1 ≠ none := by rw [h8]; exact fun z => nomatch z
  have p9 : H9 n2 ≠ none := by rw [h9]; exact fun z => nomatch z
  have dxy : ∀ a ∈ [B0, td0, n0], a ∉ [B1, td1, n1] := fun a h1 h2 => by
    simp only [List.mem_cons, List.not_mem_nil, or_false] at h1 h2
    rcases h1 with h1 | h1 | h1 <;> rcases h2 with h2 | h2 | h2
    · exact (ne_pf pA hB1) (h1.symm.trans h2)
    · exact (ne_pf pA fB) (h1.symm.trans h2)
    · exact (ne_pf (pres (sB.trans (sC.trans (s5.trans (s6.trans (s7))))) pA) hn1) (h1.symm.trans h2)
    · exact (ne_pf qA hB1) (h1.symm.trans h2)
    · exact (ne_pf qA fB) (h1.symm.trans h2)
    · exact (ne_pf (pres (sB.trans (sC.trans (s5.trans (s6.trans (s7))))) qA) hn1) (h1.symm.trans h2)
    · exact (ne_pf (pres (sC.trans (s5.trans (s6))) pB) hn0).symm (h1.symm.trans h2)
    · exact (ne_pf (pres (sC.trans (s5.trans (s6))) qB) hn0).symm (h1.symm.trans h2)
    · exact (ne_pf p7 hn1) (h1.symm.trans h2)
  have dxz : ∀ a ∈ [B0, td0, n0], a ∉ [B2, td2, n2] := fun a h1 h2 => by
    simp only [List.mem_cons, List.not_mem_nil, or_false] at h1 h2
    rcases h1 with h1 | h1 | h1 <;> rcases h2 with h2 | h2 | h2
    · exact (ne_pf (pres (sB) pA) hB2) (h1.symm.trans h2)
    · exact (ne_pf (pres (sB) pA) fC) (h1.symm.trans h2)
    · exact (ne_pf (pres (sB.trans (sC.trans (s5.trans (s6.trans (s7.trans (s8)))))) pA) hn2) (h1.symm.trans h2)
    · exact (ne_pf (pres (sB) qA) hB2) (h1.symm.trans h2)
    · exact (ne_pf (pres (sB) qA) fC) (h1.symm.trans h2)
    · exact (ne_pf (pres (sB.trans (sC.trans (s5.trans (s6.trans (s7.trans (s8)))))) qA) hn2) (h1.symm.trans h2)
    · exact (ne_pf (pres (s5.trans (s6)) pC) hn0).symm (h1.symm.trans h2)
    · exact (ne_pf (pres (s5.trans (s6)) qC) hn0).symm (h1.symm.trans h2)
    · exact (ne_pf (pres (s8) p7) hn2) (h1.symm.trans h2)
  have dyz : ∀ a ∈ [B1, td1, n1], a ∉ [B2, td2, n2] := fun a h1 h2 => by
    simp only [List.mem_cons, List.not_mem_nil, or_false] at h1 h2
    rcases h1 with h1 | h1 | h1 <;> rcases h2 with h2 | h2 | h2
    · exact (ne_pf pB hB2) (h1.symm.trans h2)
    · exact (ne_pf pB fC) (h1.symm.trans h2)
    · exact (ne_pf (pres (sC.trans (s5.trans (s6.trans (s7.trans (s8))))) pB) hn2) (h1.symm.trans h2)
    · exact (ne_pf qB hB2) (h1.symm.trans h2)
    · exact (ne_pf qB fC) (h1.symm.trans h2)
    · exact (ne_pf (pres (sC.trans (s5.trans (s6.trans (s7.trans (s8))))) qB) hn2) (h1.symm.trans h2)
    · exact (ne_pf (pres (s5.trans (s6.trans (s7))) pC) hn1).symm (h1.symm.trans h2)
    · exact (ne_pf (pres (s5.trans (s6.trans (s7))) qC) hn1).symm (h1.symm.trans h2)
    · exact (ne_pf p8 hn2) (h1.symm.trans h2)
  obtain ⟨FL, eFL⟩ : ∃ FL : List Addr, FL = [B0, td0, n0, B1, td1, n1, B2, td2, n2] := ⟨_, rfl⟩
  obtain ⟨H0, hH0⟩ : ∃ H0 : Hp, ∀ a, H0 a = if a ∈ FL then none else HZ a := ⟨_, fun a => rfl⟩
  have lpb : pb ∉ FL := fun z => by
    rw [eFL] at z
    simp only [List.mem_cons, List.not_mem_nil, or_false] at z
    rcases z with h | h | h | h | h | h | h | h | h
    · exact (ne_pf (pres (sB.trans (sC)) pA) hpb).symm h
    · exact (ne_pf (pres (sB.trans (sC)) qA) hpb).symm h
    · exact (ne_pf (pres (s6) p5) hn0) h
    · exact (ne_pf (pres (sC) pB) hpb).symm h
    · exact (ne_pf (pres (sC) qB) hpb).symm h
    · exact (ne_pf (pres (s6.trans (s7)) p5) hn1) h
    · exact (ne_pf pC hpb).symm h
    · exact (ne_pf qC hpb).symm h
    · exact (ne_pf (pres (s6.trans (s7.trans (s8))) p5) hn2) h
  have lps : ps ∉ FL := fun z => by
    rw [eFL] at z
    simp only [List.mem_cons, List.not_mem_nil, or_false] at z
    rcases z with h | h | h | h | h | h | h | h | h
    · exact (ne_pf (pres (sB.trans (sC.trans (s5))) pA) hps).symm h
    · exact (ne_pf (pres (sB.trans (sC.trans (s5))) qA) hps).symm h
    · exact (ne_pf p6 hn0) h
    · exact (ne_pf (pres (sC.trans (s5)) pB) hps).symm h
    · exact (ne_pf (pres (sC.trans (s5)) qB) hps).symm h
    · exact (ne_pf (pres (s7) p6) hn1) h
    · exact (ne_pf (pres (s5) pC) hps).symm h
    · exact (ne_pf (pres (s5) qC) hps).symm h
    · exact (ne_pf (pres (s7.trans (s8)) p6) hn2) h
  have lpk : pk ∉ FL := fun z => by
    rw [eFL] at z
    simp only [List.mem_cons, List.not_mem_nil, or_false] at z
    rcases z with h | h | h | h | h | h | h | h | h
    · exact (ne_pf (pres (sB.trans (sC.trans (s5.trans (s6.trans (s7.trans (s8.trans (s9))))))) pA) hpk).symm h
    · exact (ne_pf (pres (sB.trans (sC.trans (s5.trans (s6.trans (s7.trans (s8.trans (s9))))))) qA) hpk).symm h
    · exact (ne_pf (pres (s8.trans (s9)) p7) hpk).symm h
    · exact (ne_pf (pres (sC.trans (s5.trans (s6.trans (s7.trans (s8.trans (s9)))))) pB) hpk).symm h
    · exact (ne_pf (pres (sC.trans (s5.trans (s6.trans (s7.trans (s8.trans (s9)))))) qB) hpk).symm h
    · exact (ne_pf (pres (s9) p8) hpk).symm h
    · exact (ne_pf (pres (s5.trans (s6.trans (s7.trans (s8.trans (s9))))) pC) hpk).symm h
    · exact (ne_pf (pres (s5.trans (s6.trans (s7.trans (s8.trans (s9))))) qC) hpk).symm h
    · exact (ne_pf p9 hpk).symm h
  have lpd : pd ∉ FL := fun z => by
    rw [eFL] at z
    simp only [List.mem_cons, List.not_mem_nil, or_false] at z
    rcases z with h | h | h | h | h | h | h | h | h
    · exact (ne_pf (pres (sB.trans (sC.trans (s5.trans (s6.trans (s7.trans (s8.trans (s9.trans (s10)))))))) pA) hpd).symm h
    · exact (ne_pf (pres (sB.trans (sC.trans (s5.trans (s6.trans (s7.trans (s8.trans (s9.trans (s10)))))))) qA) hpd).symm h
    · exact (ne_pf (pres (s8.trans (s9.trans (s10))) p7) hpd).symm h
    · exact (ne_pf (pres (sC.trans (s5.trans (s6.trans (s7.trans (s8.trans (s9.trans (s10))))))) pB) hpd).symm h
    · exact (ne_pf (pres (sC.trans (s5.trans (s6.trans (s7.trans (s8.trans (s9.trans (s10))))))) qB) hpd).symm h
    · exact (ne_pf (pres (s9.trans (s10)) p8) hpd).symm h
    · exact (ne_pf (pres (s5.trans (s6.trans (s7.trans (s8.trans (s9.trans (s10)))))) pC) hpd).symm h
    · exact (ne_pf (pres (s5.trans (s6.trans (s7.trans (s8.trans (s9.trans (s10)))))) qC) hpd).symm h
    · exact (ne_pf (pres (s10) p9) hpd).symm h
  have SF : Same H H0 := fun a o e => by
    rw [hH0, if_neg (fun z => ?_)]
    · exact (sB.trans (sC.trans (s5.trans (s6.trans (s7.trans (s8.trans (s9.trans (s10.trans (s11))))))))) a o ((S3.trans sA) a o e)
    · rw [eFL] at z
      simp only [List.mem_cons, List.not_mem_nil, or_false] at z
      rcases z with h | h | h | h | h | h | h | h | h <;> rw [h] at e
      · rw [live_same S3 _ hB0] at e; cases e
      · rw [live_same S3 _ fA] at e; cases e
      · rw [live_same (S3.trans (sA.trans (sB.trans (sC.trans (s5.trans (s6)))))) _ hn0] at e; cases e
      · rw [live_same (S3.trans sA) _ hB1] at e; cases e
      · rw [live_same (S3.trans sA) _ fB] at e; cases e
      · rw [live_same (S3.trans (sA.trans (sB.trans (sC.trans (s5.trans (s6.trans (s7))))))) _ hn1] at e; cases e
      · rw [live_same (S3.trans (sA.trans sB)) _ hB2] at e; cases e
      · rw [live_same (S3.trans (sA.trans sB)) _ fC] at e; cases e
      · rw [live_same (S3.trans (sA.trans (sB.trans (sC.trans (s5.trans (s6.trans (s7.trans (s8)))))))) _ hn2] at e; cases e
  have hS0 := sqL_sm hS SF
  have g0 : ∀ {a : Addr} {o : HO}, HZ a = some o → a ∉ FL → H0 a = some o := fun h n => by rw [hH0, if_neg n]; exact h
  have hpb0 := g0 ((s6.trans (s7.trans (s8.trans (s9.trans (s10.trans (s11)))))) _ _ h5) lpb
  have hps0 := g0 ((s7.trans (s8.trans (s9.trans (s10.trans (s11))))) _ _ h6) lps
  have hpk0 := g0 (s11 _ _ h10) lpk
  have hpd0 := g0 h11 lpd
  have sm0 : Same H0 HZ := fun a o e => by
    rw [hH0] at e
    split at e
    · cases e
    · exact e
  have nf : ∀ a, a ∈ FL → H0 a = none := fun a h => by rw [hH0, if_pos h]
  have T0 : Tri K CS CH CT H0 HZ ⟨B0, n0, td0, [], [], [], [], []⟩ ⟨B1, n1, td1, [], [], [], [], []⟩ ⟨B2, n2, td2, [], [], [], [], []⟩ (2 * 0) :=
    ⟨pr_empty (YA.frame (Chg.same (F := []) (sB.trans (sC.trans (s5.trans (s6.trans (s7.trans (s8.trans (s9.trans (s10.trans (s11)))))))))) (fun _ _ h => by cases h)) ((s8.trans (s9.trans (s10.trans (s11)))) _ _ h7) (ne_pf (pres (sB.trans (sC.trans (s5.trans (s6)))) pA) hn0).symm (ne_pf (pres (sB.trans (sC.trans (s5.trans (s6)))) qA) hn0).symm,
     pr_empty (YB.frame (Chg.same (F := []) (sC.trans (s5.trans (s6.trans (s7.trans (s8.trans (s9.trans (s10.trans (s11))))))))) (fun _ _ h => by cases h)) ((s9.trans (s10.trans (s11))) _ _ h8) (ne_pf (pres (sC.trans (s5.trans (s6.trans (s7)))) pB) hn1).symm (ne_pf (pres (sC.trans (s5.trans (s6.trans (s7)))) qB) hn1).symm,
     pr_empty (YC.frame (Chg.same (F := []) (s5.trans (s6.trans (s7.trans (s8.trans (s9.trans (s10.trans (s11)))))))) (fun _ _ h => by cases h)) ((s10.trans (s11)) _ _ h9) (ne_pf (pres (s5.trans (s6.trans (s7.trans (s8)))) pC) hn2).symm (ne_pf (pres (s5.trans (s6.trans (s7.trans (s8)))) qC) hn2).symm,
     dxy, dxz, dyz,
     fun a h => nf a (by have h2 : a ∈ [B0, td0, n0] := h; rw [eFL]; simp only [List.mem_cons, List.not_mem_nil, or_false] at h2; rcases h2 with h2 | h2 | h2 <;> simp [h2]),
     fun a h => nf a (by have h2 : a ∈ [B1, td1, n1] := h; rw [eFL]; simp only [List.mem_cons, List.not_mem_nil, or_false] at h2; rcases h2 with h2 | h2 | h2 <;> simp [h2]),
     fun a h => nf a (by have h2 : a ∈ [B2, td2, n2] := h; rw [eFL]; simp only [List.mem_cons, List.not_mem_nil, or_false] at h2; rcases h2 with h2 | h2 | h2 <;> simp [h2]),
     sm0, Nat.le_refl _, Nat.le_refl _, Nat.le_refl _⟩
  refine ⟨_, rfl, (dn : Int), by rw [← hdn], by omega, by omega, ?_⟩
  refine for_range (lo := 0) (n := dn) (fun i σ H' => ∃ (x y z : Bx) (o7 o8 o9 : Option V), σ = [some (.ref a), some (.ref b0), some (.int (3 + r)), some (.ref pb), some (.ref ps), some (.ref pk), some (.ref pd), o7, o8, o9] ∧ Tri K CS CH CT H0 H' x y z (2 * i) ∧ H0 pb = some (.lst [.ref x.B, .ref y.B, .ref z.B]) ∧ H0 pk = some (.lst [.ref x.nb, .ref y.nb, .ref z.nb])) ⟨_, _, _, none, none, none, rfl, T0, hpb0, hpk0⟩ ?_ ?_
  · rintro i σ H1' hi ⟨x, y, z, o7, o8, o9, rfl, Ti, hpb, hpk⟩
    have hps := hps0
    have hpd := hpd0
    refine ⟨_, rfl, _, rfl, _, _, rfl, rfl, a, ns, 1 + i, by show [V.ref a, V.int (1 + (0 + (i : Int)))] = [V.ref a, V.int ((1 + i : Nat) : Int)]; rw [show (1 + (0 + (i : Int))) = ((1 + i : Nat) : Int) by omega], sqL_sm hS0 Ti.sm, by omega, fun b H2 s2 fb hb => ?_⟩
    have nx : b ∉ x.F := fun w => Pr.here Ti.px b w fb
    have ny : b ∉ y.F := fun w => Pr.here Ti.py b w fb
    have nz : b ∉ z.F := fun w => Pr.here Ti.pz b w fb
    have n0b : H0 b = none := live_same Ti.sm _ fb
    have T2 := Ti.same s2
    refine ⟨_, rfl, _, rfl, b, 5, rfl, hb, by decide, by decide, fun r2 H3 r20 r21 x3 => ?_⟩
    have T3 := T2.stp x3 n0b nx ny nz
    obtain ⟨sd, hsd, hsd'⟩ : ∃ sd : Int, atI [V.int 0, V.int 0, V.int 1, V.int 2, V.int 2] r2 = some (.int sd) ∧ (sd = 0 ∨ sd = 1 ∨ sd = 2) := by
      rcases (by omega : r2 = 0 ∨ r2 = 1 ∨ r2 = 2 ∨ r2 = 3 ∨ r2 = 4) with rfl | rfl | rfl | rfl | rfl
      · exact ⟨0, rfl, .inl rfl⟩
      · exact ⟨0, rfl, .inl rfl⟩
      · exact ⟨1, rfl, .inr (.inl rfl)⟩
      · exact ⟨2, rfl, .inr (.inr rfl)⟩
      · exact ⟨2, rfl, .inr (.inr rfl)⟩
    refine ⟨pd, _, _, .int sd, rfl, rfl, SqT.of (T3.sm _ _ hpd), hsd, ?_⟩
    rcases hsd' with rfl | rfl | rfl
    · refine ⟨_, rfl, _, rfl, _, rfl, pb, _, 0, _, rfl, rfl, SqL.of (T3.sm _ _ hpb), rfl, _, rfl, _, rfl, pk, _, 0, _, rfl, rfl, SqL.of (T3.sm _ _ hpk), rfl, _, rfl, _, rfl, ps, _, 0, _, rfl, rfl, SqT.of (T3.sm _ _ hps), rfl, ?_⟩
      refine .inl ⟨b, x.B, x.nb, x.td, x.ths, x.sls, x.as, x.rs, x.nds, rfl, x3.b1, nx, T3.px, by have := T3.lx; omega, fun H4 ths' sls' as' rs' nds' X4 c4 f4 b4 l4 => ⟨_, rfl, iteF ?_⟩⟩
      have T4 := T3.stepx (x' := ⟨x.B, x.nb, x.td, ths', sls', as', rs', nds'⟩) X4 c4 f4 n0b ny nz l4
      have nv : b ∉ (⟨x.B, x.nb, x.td, ths', sls', as', rs', nds'⟩ : Bx).F := fun w => by
        rcases f4 b w with h | h
        · exact nx h
        · obtain ⟨b1, b2, b3, b4, b5, e⟩ := x3.b1
          rw [e] at h; cases h
      refine ⟨_, rfl, b, 4, rfl, b4, by decide, by decide, fun r5 H5 _ _ x5 => ⟨_, _, rfl, rfl, _, rfl, ?_⟩⟩
      have T5 := T4.stp x5 n0b nv ny nz
      refine ite2 (fun _ => ?_) (fun _ => ⟨_, _, _, _, _, _, rfl, T5, hpb, hpk⟩)
      refine ⟨_, rfl, _, rfl, pb, _, 0, _, rfl, rfl, SqL.of (T5.sm _ _ hpb), rfl, _, rfl, _, rfl, pk, _, 0, _, rfl, rfl, SqL.of (T5.sm _ _ hpk), rfl, _, rfl, _, rfl, ps, _, 0, _, rfl, rfl, SqT.of (T5.sm _ _ hps), rfl, ?_⟩
      exact .inl ⟨x.B, x.nb, x.td, ths', sls', as', rs', nds', rfl, T5.px, fun H6 s6 => ⟨_, rfl, iteF ⟨_, _, _, _, _, _, rfl, T5.same s6, hpb, hpk⟩⟩⟩
    · refine ⟨_, rfl, _, rfl, _, rfl, pb, _, 1, _, rfl, rfl, SqL.of (T3.sm _ _ hpb), rfl, _, rfl, _, rfl, pk, _, 1, _, rfl, rfl, SqL.of (T3.sm _ _ hpk), rfl, _, rfl, _, rfl, ps, _, 1, _, rfl, rfl, SqT.of (T3.sm _ _ hps), rfl, ?_⟩
      refine .inl ⟨b, y.B, y.nb, y.td, y.ths, y.sls, y.as, y.rs, y.nds, rfl, x3.b1, ny, T3.py, by have := T3.ly; omega, fun H4 ths' sls' as' rs' nds' X4 c4 f4 b4 l4 => ⟨_, rfl, iteF ?_⟩⟩
      have T4 := T3.stepy (y' := ⟨y.B, y.nb, y.td, ths', sls', as', rs', nds'⟩) X4 c4 f4 n0b nx nz l4
      have nv : b ∉ (⟨y.B, y.nb, y.td, ths', sls', as', rs', nds'⟩ : Bx).F := fun w => by
        rcases f4 b w with h | h
        · exact ny h
        · obtain ⟨b1, b2, b3, b4, b5, e⟩ := x3.b1
          rw [e] at h; cases h
      refine ⟨_, rfl, b, 4, rfl, b4, by decide, by decide, fun r5 H5 _ _ x5 => ⟨_, _, rfl, rfl, _, rfl, ?_⟩⟩
      have T5 := T4.stp x5 n0b nx nv nz
      refine ite2 (fun _ => ?_) (fun _ => ⟨_, _, _, _, _, _, rfl, T5, hpb, hpk⟩)
      refine ⟨_, rfl, _, rfl, pb, _, 1, _, rfl, rfl, SqL.of (T5.sm _ _ hpb), rfl, _, rfl, _, rfl, pk, _, 1, _, rfl, rfl, SqL.of (T5.sm _ _ hpk), rfl, _, rfl, _, rfl, ps, _, 1, _, rfl, rfl, SqT.of (T5.sm _ _ hps), rfl, ?_⟩
      exact .inl ⟨y.B, y.nb, y.td, ths', sls', as', rs', nds', rfl, T5.py, fun H6 s6 => ⟨_, rfl, iteF ⟨_, _, _, _, _, _, rfl, T5.same s6, hpb, hpk⟩⟩⟩
    · refine ⟨_, rfl, _, rfl, _, rfl, pb, _, 2, _, rfl, rfl, SqL.of (T3.sm _ _ hpb), rfl, _, rfl, _, rfl, pk, _, 2, _, rfl, rfl, SqL.of (T3.sm _ _ hpk), rfl, _, rfl, _, rfl, ps, _, 2, _, rfl, rfl, SqT.of (T3.sm _ _ hps), rfl, ?_⟩
      refine .inr ⟨b, z.B, z.nb, z.td, z.ths, z.sls, z.as, z.rs, z.nds, rfl, x3.b1, nz, T3.pz, by have := T3.lz; omega, fun H4 ths' sls' as' rs' nds' X4 c4 f4 b4 l4 => ⟨_, rfl, iteF ?_⟩⟩
      have T4 := T3.stepz (z' := ⟨z.B, z.nb, z.td, ths', sls', as', rs', nds'⟩) X4 c4 f4 n0b nx ny l4
      have nv : b ∉ (⟨z.B, z.nb, z.td, ths', sls', as', rs', nds'⟩ : Bx).F := fun w => by
        rcases f4 b w with h | h
        · exact nz h
        · obtain ⟨b1, b2, b3, b4, b5, e⟩ := x3.b1
          rw [e] at h; cases h
      refine ⟨_, rfl, b, 4, rfl, b4, by decide, by decide, fun r5 H5 _ _ x5 => ⟨_, _, rfl, rfl, _, rfl, ?_⟩⟩
      have T5 := T4.stp x5 n0b nx ny nv
      refine ite2 (fun _ => ?_) (fun _ => ⟨_, _, _, _, _, _, rfl, T5, hpb, hpk⟩)
      refine ⟨_, rfl, _, rfl, pb, _, 2, _, rfl, rfl, SqL.of (T5.sm _ _ hpb), rfl, _, rfl, _, rfl, pk, _, 2, _, rfl, rfl, SqL.of (T5.sm _ _ hpk), rfl, _, rfl, _, rfl, ps, _, 2, _, rfl, rfl, SqT.of (T5.sm _ _ hps), rfl, ?_⟩
      exact .inr ⟨z.B, z.nb, z.td, ths', sls', as', rs', nds', rfl, T5.pz, fun H6 s6 => ⟨_, rfl, iteF ⟨_, _, _, _, _, _, rfl, T5.same s6, hpb, hpk⟩⟩⟩
  · rintro σ H1' ⟨x, y, z, o7, o8, o9, rfl, Ti, hpb, hpk⟩
    have hps := hps0
    refine ⟨3, rfl, by decide, by decide, ?_⟩
    refine for_range (lo := 0) (n := 3) (fun j σ H' => ∃ o9, σ = [some (.ref a), some (.ref b0), some (.int (3 + r)), some (.ref pb), some (.ref ps), some (.ref pk), some (.ref pd), o7, o8, o9] ∧ Tri K CS CH CT H0 H' x y z (2 * dn)) ⟨_, rfl, Ti⟩ ?_ ?_
    rotate_left
    · rintro σ H2 ⟨o9, rfl, T2⟩
      exact q _
    rintro j σ H2 hj ⟨o9, rfl, T2⟩
    rcases (by omega : j = 0 ∨ j = 1 ∨ j = 2) with rfl | rfl | rfl
    · refine ⟨_, rfl, _, rfl, pb, _, 0, _, rfl, rfl, SqL.of (T2.sm _ _ hpb), rfl, _, rfl, _, rfl, pk, _, 0, _, rfl, rfl, SqL.of (T2.sm _ _ hpk), rfl, _, rfl, _, rfl, ps, _, 0, _, rfl, rfl, SqT.of (T2.sm _ _ hps), rfl, ?_⟩
      exact .inl ⟨x.B, x.nb, x.td, x.ths, x.sls, x.as, x.rs, x.nds, rfl, T2.px, fun H6 s6 => ⟨_, rfl, iteF ⟨_, rfl, T2.same s6⟩⟩⟩
    · refine ⟨_, rfl, _, rfl, pb, _, 1, _, rfl, rfl, SqL.of (T2.sm _ _ hpb), rfl, _, rfl, _, rfl, pk, _, 1, _, rfl, rfl, SqL.of (T2.sm _ _ hpk), rfl, _, rfl, _, rfl, ps, _, 1, _, rfl, rfl, SqT.of (T2.sm _ _ hps), rfl, ?_⟩
      exact .inl ⟨y.B, y.nb, y.td, y.ths, y.sls, y.as, y.rs, y.nds, rfl, T2.py, fun H6 s6 => ⟨_, rfl, iteF ⟨_, rfl, T2.same s6⟩⟩⟩
    · refine ⟨_, rfl, _, rfl, pb, _, 2, _, rfl, rfl, SqL.of (T2.sm _ _ hpb), rfl, _, rfl, _, rfl, pk, _, 2, _, rfl, rfl, SqL.of (T2.sm _ _ hpk), rfl, _, rfl, _, rfl, ps, _, 2, _, rfl, rfl, SqT.of (T2.sm _ _ hps), rfl, ?_⟩
      exact .inr ⟨z.B, z.nb, z.td, z.ths, z.sls, z.as, z.rs, z.nds, rfl, T2.pz, fun H6 s6 => ⟨_, rfl, iteF ⟨_, rfl, T2.same s6⟩⟩⟩
end
end D0
namespace D0
open PySem PySem.Spec PyProof.Rows L2 SX NumText
theorem vals_of_strs : ∀ (ls : List Str) (us : List Value), us.map absV = ls.map (fun z => some (V.str z)) → Vals (ls.map V.str) us
  | [], [], _ => .nil
  | [], _ :: _, h => by cases h
  | _ :: _, [], h => by cases h
  | l :: ls, u :: us, h => by
    rw [List.map_cons, List.map_cons] at h
    injection h with h1 h2
    refine .cons ?_ (vals_of_strs ls us h2)
    cases u <;> cases h1 <;> exact ⟨_, rfl⟩
section
variable {P : Program} {w : World} {K : PySem.W.Frag} {mg : Str → Option Value} {base : Heap} {CS CH CT : Addr}
theorem all_ok (T : Txt K w mg) (TT : ThT K mg CT) (TS : StT K mg CS) (TX : StX K mg CS) (TH : HeT K mg CH) (HX : HeX K CH) : OkD P w K mg base CX0 14 "law" p_law (spLaw K) := by
  have O := ok__law_take (P := P) (base := base) T
  have Oc := ok__law_cell (P := P) (base := base) T
  have Ob := ok__law_box T Oc
  have Ow := ok__law_word T O
  have On := ok__law_name T O
  have Op := ok__law_plain T O Ow
  have Oki := ok__law_kinds (P := P) (base := base) T
  have Ok := ok__law_kind T O Oki
  have Om := ok__law_marks (P := P) (base := base) T
  have Opd := ok__law_pending T O Op
  have Omk := ok__law_marked T O Op Opd
  have Oen := ok__law_entry T O Op Omk
  have Ot := ok__law_tag T O On
  have Of := ok__law_form T O Ow Om Oen Ot
  have Ofr := ok__law_free (P := P) (base := base) T
  have Oer := ok__law_errors (P := P) (base := base) T
  have Otb := ok__law_table (P := P) (base := base) T
  have Omv := fun st m => ok__law_moved (P := P) (base := base) T st m
  have Ose := fun st m => ok__law_sent T st m (Omv st m)
  have Osa := ok__law_same (P := P) (base := base) T 9
  have Osp := ok__law_spoil T Osa
  have Oy := ok_is_young (P := P) (base := base) T
  have Orm := ok_Heap_remember T TH Oy
  have BS : BkM P w K mg base CS CT 1 := {
    cl := TS.bk.cl, h1 := by omega, h2 := by omega, kind_of := ok_Store_kind_of TT TS.bk (by omega), tag_of := ok_Store_tag_of TT TS.bk (by omega), slots_of := ok_Store_slots_of T TT TS.bk (by omega), slot := ok_Store_slot TT TS.bk (by omega),
    make := ok_Store_make T TT TS, set_slot := (ok_Store_set_slot TT TS).mono (by omega), change := (ok_Store_change T TT TS).mono (by omega),
    len := by
      obtain ⟨f, fd, M, b, F⟩ := ok_Store___len__ (P := P) (w := w) (mg := mg) (base := base) (CT := CT) T TS.bk TX
      exact ⟨f, fd, _, M.at_, M.fn, F, b⟩ }
  have BH : BkM P w K mg base CH CT 2 := {
    cl := TH.bk.cl, h1 := by omega, h2 := by omega, kind_of := ok_Store_kind_of TT TH.bk (by omega), tag_of := ok_Store_tag_of TT TH.bk (by omega), slots_of := ok_Store_slots_of T TT TH.bk (by omega), slot := ok_Store_slot TT TH.bk (by omega),
    make := ok_Heap_make T TT TH, set_slot := ok_Heap_set_slot TT TH Orm, change := ok_Heap_change T TT TH Orm,
    len := by
      obtain ⟨f, fd, M, b, F⟩ := ok_Heap___len__ (P := P) (w := w) (mg := mg) (base := base) (CT := CT) T TH.bk HX
      exact ⟨f, fd, _, M.at_, M.fn, F, b⟩ }
  have OtS := ok__law_told T BS Otb (Ose 1) Osa Osp
  have OtH := ok__law_told T BH Otb (Ose 2) Osa Osp
  have OmS := ok__law_make T BS O Ok Of Oer Otb (Ose 1) Osa Osp
  have OmH := ok__law_make T BH O Ok Of Oer Otb (Ose 2) Osa Osp
  have OsS := ok__law_set T BS O Ofr Oen Om Oer Otb (Omv 1)
  have OsH := ok__law_set T BH O Ofr Oen Om Oer Otb (Omv 2)
  have OcS := ok__law_change T BS O Of Oer Otb (Ose 1) Osp
  have OcH := ok__law_change T BH O Of Oer Otb (Ose 2) Osp
  have OdS := ok__law_deed T O Ofr OcS OsS OmS
  have OdH := ok__law_deed T O Ofr OcH OsH OmH
  exact ok_law T TS TX TH Osa Oki Ob O OdS OdH OtS OtH
end
end D0
namespace D0
open PySem PySem.Spec PyProof.Rows L2 SX NumText
set_option maxHeartbeats 8000000 in
theorem all_mk {l : PySem.W.OpenLaw} {w : World} {K : PySem.W.Frag} {h : Heap} {mg : Str → Option Value} {fa : Addr} (X : K.In h) (G : h.Ns mainGlobals mg) (hfa : mg "law" = some (.ref fa))
    {od1 an1 : Option Addr} {sl1 : Array (Option Value)} {oc1 kV1 dc1 pm1 cd1 ct1 : Value} {f1 : Addr}
    {od2 an2 : Option Addr} {sl2 : Array (Option Value)} {oc2 kV2 dc2 pm2 cd2 ct2 : Value} {f2 : Addr}
    {od3 an3 : Option Addr} {sl3 : Array (Option Value)} {oc3 kV3 dc3 pm3 cd3 ct3 : Value} {f3 : Addr}
    {od4 an4 : Option Addr} {sl4 : Array (Option Value)} {oc4 kV4 dc4 pm4 cd4 ct4 : Value} {f4 : Addr}
    {od5 an5 : Option Addr} {sl5 : Array (Option Value)} {oc5 kV5 dc5 pm5 cd5 ct5 : Value} {f5 : Addr}
    {od6 an6 : Option Addr} {sl6 : Array (Option Value)} {oc6 kV6 dc6 pm6 cd6 ct6 : Value} {f6 : Addr}
    {od7 an7 : Option Addr} {sl7 : Array (Option Value)} {oc7 kV7 dc7 pm7 cd7 ct7 : Value} {f7 : Addr}
    {od8 an8 : Option Addr} {sl8 : Array (Option Value)} {oc8 kV8 dc8 pm8 cd8 ct8 : Value} {f8 : Addr}
    {od9 an9 : Option Addr} {sl9 : Array (Option Value)} {oc9 kV9 dc9 pm9 cd9 ct9 : Value} {f9 : Addr}
    {od10 an10 : Option Addr} {sl10 : Array (Option Value)} {oc10 kV10 dc10 pm10 cd10 ct10 : Value} {f10 : Addr}
    {od11 an11 : Option Addr} {sl11 : Array (Option Value)} {oc11 kV11 dc11 pm11 cd11 ct11 : Value} {f11 : Addr}
    {od12 an12 : Option Addr} {sl12 : Array (Option Value)} {oc12 kV12 dc12 pm12 cd12 ct12 : Value} {f12 : Addr}
    {od13 an13 : Option Addr} {sl13 : Array (Option Value)} {oc13 kV13 dc13 pm13 cd13 ct13 : Value} {f13 : Addr}
    {od14 an14 : Option Addr} {sl14 : Array (Option Value)} {oc14 kV14 dc14 pm14 cd14 ct14 : Value} {f14 : Addr}
    {od15 an15 : Option Addr} {sl15 : Array (Option Value)} {oc15 kV15 dc15 pm15 cd15 ct15 : Value} {f15 : Addr}
    {od16 an16 : Option Addr} {sl16 : Array (Option Value)} {oc16 kV16 dc16 pm16 cd16 ct16 : Value} {f16 : Addr}
    {od17 an17 : Option Addr} {sl17 : Array (Option Value)} {oc17 kV17 dc17 pm17 cd17 ct17 : Value} {f17 : Addr}
    {od18 an18 : Option Addr} {sl18 : Array (Option Value)} {oc18 kV18 dc18 pm18 cd18 ct18 : Value} {f18 : Addr}
    {od19 an19 : Option Addr} {sl19 : Array (Option Value)} {oc19 kV19 dc19 pm19 cd19 ct19 : Value} {f19 : Addr}
    {od20 an20 : Option Addr} {sl20 : Array (Option Value)} {oc20 kV20 dc20 pm20 cd20 ct20 : Value} {f20 : Addr}
    {od21 an21 : Option Addr} {sl21 : Array (Option Value)} {oc21 kV21 dc21 pm21 cd21 ct21 : Value} {f21 : Addr}
    {od22 an22 : Option Addr} {sl22 : Array (Option Value)} {oc22 kV22 dc22 pm22 cd22 ct22 : Value} {f22 : Addr}
    {od23 an23 : Option Addr} {sl23 : Array (Option Value)} {oc23 kV23 dc23 pm23 cd23 ct23 : Value} {f23 : Addr}
    {od24 an24 : Option Addr} {sl24 : Array (Option Value)} {oc24 kV24 dc24 pm24 cd24 ct24 : Value} {f24 : Addr}
    {od25 an25 : Option Addr} {sl25 : Array (Option Value)} {oc25 kV25 dc25 pm25 cd25 ct25 : Value} {f25 : Addr}
    {od26 an26 : Option Addr} {sl26 : Array (Option Value)} {oc26 kV26 dc26 pm26 cd26 ct26 : Value} {f26 : Addr}
    {od27 an27 : Option Addr} {sl27 : Array (Option Value)} {oc27 kV27 dc27 pm27 cd27 ct27 : Value} {f27 : Addr}
    {od28 an28 : Option Addr} {sl28 : Array (Option Value)} {oc28 kV28 dc28 pm28 cd28 ct28 : Value} {f28 : Addr}
    {od29 an29 : Option Addr} {sl29 : Array (Option Value)} {oc29 kV29 dc29 pm29 cd29 ct29 : Value} {f29 : Addr}
    {od30 an30 : Option Addr} {sl30 : Array (Option Value)} {oc30 kV30 dc30 pm30 cd30 ct30 : Value} {f30 : Addr}
    {od31 an31 : Option Addr} {sl31 : Array (Option Value)} {oc31 kV31 dc31 pm31 cd31 ct31 : Value} {f31 : Addr}
    {od32 an32 : Option Addr} {sl32 : Array (Option Value)} {oc32 kV32 dc32 pm32 cd32 ct32 : Value} {f32 : Addr}
    {od33 an33 : Option Addr} {sl33 : Array (Option Value)} {oc33 kV33 dc33 pm33 cd33 ct33 : Value} {f33 : Addr}
    {od34 an34 : Option Addr} {sl34 : Array (Option Value)} {oc34 kV34 dc34 pm34 cd34 ct34 : Value} {f34 : Addr}
    {od35 an35 : Option Addr} {sl35 : Array (Option Value)} {oc35 kV35 dc35 pm35 cd35 ct35 : Value} {f35 : Addr}
    {od36 an36 : Option Addr} {sl36 : Array (Option Value)} {oc36 kV36 dc36 pm36 cd36 ct36 : Value} {f36 : Addr}
    {od37 an37 : Option Addr} {sl37 : Array (Option Value)} {oc37 kV37 dc37 pm37 cd37 ct37 : Value} {f37 : Addr}
    {od38 an38 : Option Addr} {sl38 : Array (Option Value)} {oc38 kV38 dc38 pm38 cd38 ct38 : Value} {f38 : Addr}
    {od39 an39 : Option Addr} {sl39 : Array (Option Value)} {oc39 kV39 dc39 pm39 cd39 ct39 : Value} {f39 : Addr}
    {od40 an40 : Option Addr} {sl40 : Array (Option Value)} {oc40 kV40 dc40 pm40 cd40 ct40 : Value} {f40 : Addr}
    {od41 an41 : Option Addr} {sl41 : Array (Option Value)} {oc41 kV41 dc41 pm41 cd41 ct41 : Value} {f41 : Addr}
    {od42 an42 : Option Addr} {sl42 : Array (Option Value)} {oc42 kV42 dc42 pm42 cd42 ct42 : Value} {f42 : Addr}
    {od43 an43 : Option Addr} {sl43 : Array (Option Value)} {oc43 kV43 dc43 pm43 cd43 ct43 : Value} {f43 : Addr}
    {od44 an44 : Option Addr} {sl44 : Array (Option Value)} {oc44 kV44 dc44 pm44 cd44 ct44 : Value} {f44 : Addr}
    {od45 an45 : Option Addr} {sl45 : Array (Option Value)} {oc45 kV45 dc45 pm45 cd45 ct45 : Value} {f45 : Addr}
    {od46 an46 : Option Addr} {sl46 : Array (Option Value)} {oc46 kV46 dc46 pm46 cd46 ct46 : Value} {f46 : Addr}
    {od47 an47 : Option Addr} {sl47 : Array (Option Value)} {oc47 kV47 dc47 pm47 cd47 ct47 : Value} {f47 : Addr}
    {CT CS CH : Addr}
    {ak : Addr} {odk : Option Addr} {itk : Array Value} {nk : Nat} {slk : Array (Option Value)}
    (a1 : PySem.W.nsIn K mainGlobals "_wall" = some (some (.ref f1)))
    (l1 : K.lookup f1 = some ⟨oc1, od1, .func (PySem.W.fnOf "_wall" "_wall" (defArgs s__wall) (defBody s__wall) (defScope s__wall) .none kV1 dc1 pm1 an1 cd1 ct1), sl1⟩)
    (c1 : PySem.W.codeIn K cd1 "_wall" = true)
    (k1 : PySem.W.keepIn K (.ref f1) = true)
    (a2 : PySem.W.findIn K (.ref CT) "__init__" = some (some (.ref f2)))
    (i2 : PySem.W.isFn K (.ref f2) = true)
    (l2 : K.lookup f2 = some ⟨oc2, od2, .func (PySem.W.fnOf "__init__" "Thing.__init__" (defArgs s_Thing___init__) (defBody s_Thing___init__) (defScope s_Thing___init__) .none kV2 dc2 pm2 an2 cd2 ct2), sl2⟩)
    (c2 : PySem.W.codeIn K cd2 "Thing.__init__" = true)
    (k2 : PySem.W.keepIn K (.ref f2) = true)
    (a3 : PySem.W.findIn K (.ref CS) "__init__" = some (some (.ref f3)))
    (i3 : PySem.W.isFn K (.ref f3) = true)
    (v3 : PySem.W.findCls K (.ref CS) (.type "type") "__init__" = some (.val (.ref f3)))
    (l3 : K.lookup f3 = some ⟨oc3, od3, .func (PySem.W.fnOf "__init__" "Store.__init__" (defArgs s_Store___init__) (defBody s_Store___init__) (defScope s_Store___init__) .none kV3 dc3 pm3 an3 cd3 ct3), sl3⟩)
    (c3 : PySem.W.codeIn K cd3 "Store.__init__" = true)
    (k3 : PySem.W.keepIn K (.ref f3) = true)
    (a4 : PySem.W.findIn K (.ref CS) "__len__" = some (some (.ref f4)))
    (i4 : PySem.W.isFn K (.ref f4) = true)
    (l4 : K.lookup f4 = some ⟨oc4, od4, .func (PySem.W.fnOf "__len__" "Store.__len__" (defArgs s_Store___len__) (defBody s_Store___len__) (defScope s_Store___len__) .none kV4 dc4 pm4 an4 cd4 ct4), sl4⟩)
    (c4 : PySem.W.codeIn K cd4 "Store.__len__" = true)
    (k4 : PySem.W.keepIn K (.ref f4) = true)
    (a5 : PySem.W.findIn K (.ref CS) "make" = some (some (.ref f5)))
    (i5 : PySem.W.isFn K (.ref f5) = true)
    (l5 : K.lookup f5 = some ⟨oc5, od5, .func (PySem.W.fnOf "make" "Store.make" (defArgs s_Store_make) (defBody s_Store_make) (defScope s_Store_make) .none kV5 dc5 pm5 an5 cd5 ct5), sl5⟩)
    (c5 : PySem.W.codeIn K cd5 "Store.make" = true)
    (k5 : PySem.W.keepIn K (.ref f5) = true)
    (a6 : PySem.W.findIn K (.ref CS) "kind_of" = some (some (.ref f6)))
    (i6 : PySem.W.isFn K (.ref f6) = true)
    (h6 : PySem.W.findIn K (.ref CH) "kind_of" = some (some (.ref f6)))
    (l6 : K.lookup f6 = some ⟨oc6, od6, .func (PySem.W.fnOf "kind_of" "Store.kind_of" (defArgs s_Store_kind_of) (defBody s_Store_kind_of) (defScope s_Store_kind_of) .none kV6 dc6 pm6 an6 cd6 ct6), sl6⟩)
    (c6 : PySem.W.codeIn K cd6 "Store.kind_of" = true)
    (k6 : PySem.W.keepIn K (.ref f6) = true)
    (a7 : PySem.W.findIn K (.ref CS) "tag_of" = some (some (.ref f7)))
    (i7 : PySem.W.isFn K (.ref f7) = true)
    (h7 : PySem.W.findIn K (.ref CH) "tag_of" = some (some (.ref f7)))
    (l7 : K.lookup f7 = some ⟨oc7, od7, .func (PySem.W.fnOf "tag_of" "Store.tag_of" (defArgs s_Store_tag_of) (defBody s_Store_tag_of) (defScope s_Store_tag_of) .none kV7 dc7 pm7 an7 cd7 ct7), sl7⟩)
    (c7 : PySem.W.codeIn K cd7 "Store.tag_of" = true)
    (k7 : PySem.W.keepIn K (.ref f7) = true)
    (a8 : PySem.W.findIn K (.ref CS) "slots_of" = some (some (.ref f8)))
    (i8 : PySem.W.isFn K (.ref f8) = true)
    (h8 : PySem.W.findIn K (.ref CH) "slots_of" = some (some (.ref f8)))
    (l8 : K.lookup f8 = some ⟨oc8, od8, .func (PySem.W.fnOf "slots_of" "Store.slots_of" (defArgs s_Store_slots_of) (defBody s_Store_slots_of) (defScope s_Store_slots_of) .none kV8 dc8 pm8 an8 cd8 ct8), sl8⟩)
    (c8 : PySem.W.codeIn K cd8 "Store.slots_of" = true)
    (k8 : PySem.W.keepIn K (.ref f8) = true)
    (a9 : PySem.W.findIn K (.ref CS) "slot" = some (some (.ref f9)))
    (i9 : PySem.W.isFn K (.ref f9) = true)
    (h9 : PySem.W.findIn K (.ref CH) "slot" = some (some (.ref f9)))
    (l9 : K.lookup f9 = some ⟨oc9, od9, .func (PySem.W.fnOf "slot" "Store.slot" (defArgs s_Store_slot) (defBody s_Store_slot) (defScope s_Store_slot) .none kV9 dc9 pm9 an9 cd9 ct9), sl9⟩)
    (c9 : PySem.W.codeIn K cd9 "Store.slot" = true)
    (k9 : PySem.W.keepIn K (.ref f9) = true)
    (a10 : PySem.W.findIn K (.ref CS) "set_slot" = some (some (.ref f10)))
    (i10 : PySem.W.isFn K (.ref f10) = true)
    (l10 : K.lookup f10 = some ⟨oc10, od10, .func (PySem.W.fnOf "set_slot" "Store.set_slot" (defArgs s_Store_set_slot) (defBody s_Store_set_slot) (defScope s_Store_set_slot) .none kV10 dc10 pm10 an10 cd10 ct10), sl10⟩)
    (c10 : PySem.W.codeIn K cd10 "Store.set_slot" = true)
    (k10 : PySem.W.keepIn K (.ref f10) = true)
    (a11 : PySem.W.findIn K (.ref CS) "change" = some (some (.ref f11)))
    (i11 : PySem.W.isFn K (.ref f11) = true)
    (l11 : K.lookup f11 = some ⟨oc11, od11, .func (PySem.W.fnOf "change" "Store.change" (defArgs s_Store_change) (defBody s_Store_change) (defScope s_Store_change) .none kV11 dc11 pm11 an11 cd11 ct11), sl11⟩)
    (c11 : PySem.W.codeIn K cd11 "Store.change" = true)
    (k11 : PySem.W.keepIn K (.ref f11) = true)
    (a12 : PySem.W.nsIn K mainGlobals "address_of" = some (some (.ref f12)))
    (l12 : K.lookup f12 = some ⟨oc12, od12, .func (PySem.W.fnOf "address_of" "address_of" (defArgs s_address_of) (defBody s_address_of) (defScope s_address_of) .none kV12 dc12 pm12 an12 cd12 ct12), sl12⟩)
    (c12 : PySem.W.codeIn K cd12 "address_of" = true)
    (k12 : PySem.W.keepIn K (.ref f12) = true)
    (a13 : PySem.W.findIn K (.ref CH) "__init__" = some (some (.ref f13)))
    (i13 : PySem.W.isFn K (.ref f13) = true)
    (l13 : K.lookup f13 = some ⟨oc13, od13, .func (PySem.W.fnOf "__init__" "Heap.__init__" (defArgs s_Heap___init__) (defBody s_Heap___init__) (defScope s_Heap___init__) .none kV13 dc13 pm13 an13 cd13 ct13), sl13⟩)
    (c13 : PySem.W.codeIn K cd13 "Heap.__init__" = true)
    (k13 : PySem.W.keepIn K (.ref f13) = true)
    (a14 : PySem.W.findIn K (.ref CH) "__len__" = some (some (.ref f14)))
    (i14 : PySem.W.isFn K (.ref f14) = true)
    (l14 : K.lookup f14 = some ⟨oc14, od14, .func (PySem.W.fnOf "__len__" "Heap.__len__" (defArgs s_Heap___len__) (defBody s_Heap___len__) (defScope s_Heap___len__) .none kV14 dc14 pm14 an14 cd14 ct14), sl14⟩)
    (c14 : PySem.W.codeIn K cd14 "Heap.__len__" = true)
    (k14 : PySem.W.keepIn K (.ref f14) = true)
    (a15 : PySem.W.findIn K (.ref CH) "make" = some (some (.ref f15)))
    (i15 : PySem.W.isFn K (.ref f15) = true)
    (l15 : K.lookup f15 = some ⟨oc15, od15, .func (PySem.W.fnOf "make" "Heap.make" (defArgs s_Heap_make) (defBody s_Heap_make) (defScope s_Heap_make) .none kV15 dc15 pm15 an15 cd15 ct15), sl15⟩)
    (c15 : PySem.W.codeIn K cd15 "Heap.make" = true)
    (k15 : PySem.W.keepIn K (.ref f15) = true)
    (a16 : PySem.W.findIn K (.ref CH) "set_slot" = some (some (.ref f16)))
    (i16 : PySem.W.isFn K (.ref f16) = true)
    (l16 : K.lookup f16 = some ⟨oc16, od16, .func (PySem.W.fnOf "set_slot" "Heap.set_slot" (defArgs s_Heap_set_slot) (defBody s_Heap_set_slot) (defScope s_Heap_set_slot) .none kV16 dc16 pm16 an16 cd16 ct16), sl16⟩)
    (c16 : PySem.W.codeIn K cd16 "Heap.set_slot" = true)
    (k16 : PySem.W.keepIn K (.ref f16) = true)
    (a17 : PySem.W.findIn K (.ref CH) "change" = some (some (.ref f17)))
    (i17 : PySem.W.isFn K (.ref f17) = true)
    (l17 : K.lookup f17 = some ⟨oc17, od17, .func (PySem.W.fnOf "change" "Heap.change" (defArgs s_Heap_change) (defBody s_Heap_change) (defScope s_Heap_change) .none kV17 dc17 pm17 an17 cd17 ct17), sl17⟩)
    (c17 : PySem.W.codeIn K cd17 "Heap.change" = true)
    (k17 : PySem.W.keepIn K (.ref f17) = true)
    (a18 : PySem.W.findIn K (.ref CH) "remember" = some (some (.ref f18)))
    (i18 : PySem.W.isFn K (.ref f18) = true)
    (l18 : K.lookup f18 = some ⟨oc18, od18, .func (PySem.W.fnOf "remember" "Heap.remember" (defArgs s_Heap_remember) (defBody s_Heap_remember) (defScope s_Heap_remember) .none kV18 dc18 pm18 an18 cd18 ct18), sl18⟩)
    (c18 : PySem.W.codeIn K cd18 "Heap.remember" = true)
    (k18 : PySem.W.keepIn K (.ref f18) = true)
    (a19 : PySem.W.nsIn K mainGlobals "is_young" = some (some (.ref f19)))
    (l19 : K.lookup f19 = some ⟨oc19, od19, .func (PySem.W.fnOf "is_young" "is_young" (defArgs s_is_young) (defBody s_is_young) (defScope s_is_young) .none kV19 dc19 pm19 an19 cd19 ct19), sl19⟩)
    (c19 : PySem.W.codeIn K cd19 "is_young" = true)
    (k19 : PySem.W.keepIn K (.ref f19) = true)
    (a20 : PySem.W.nsIn K mainGlobals "refers_to_young" = some (some (.ref f20)))
    (l20 : K.lookup f20 = some ⟨oc20, od20, .func (PySem.W.fnOf "refers_to_young" "refers_to_young" (defArgs s_refers_to_young) (defBody s_refers_to_young) (defScope s_refers_to_young) .none kV20 dc20 pm20 an20 cd20 ct20), sl20⟩)
    (c20 : PySem.W.codeIn K cd20 "refers_to_young" = true)
    (k20 : PySem.W.keepIn K (.ref f20) = true)
    (a21 : PySem.W.nsIn K mainGlobals "_law_cell" = some (some (.ref f21)))
    (l21 : K.lookup f21 = some ⟨oc21, od21, .func (PySem.W.fnOf "_law_cell" "_law_cell" (defArgs s__law_cell) (defBody s__law_cell) (defScope s__law_cell) .none kV21 dc21 pm21 an21 cd21 ct21), sl21⟩)
    (c21 : PySem.W.codeIn K cd21 "_law_cell" = true)
    (k21 : PySem.W.keepIn K (.ref f21) = true)
    (a22 : PySem.W.nsIn K mainGlobals "_law_box" = some (some (.ref f22)))
    (l22 : K.lookup f22 = some ⟨oc22, od22, .func (PySem.W.fnOf "_law_box" "_law_box" (defArgs s__law_box) (defBody s__law_box) (defScope s__law_box) .none kV22 dc22 pm22 an22 cd22 ct22), sl22⟩)
    (c22 : PySem.W.codeIn K cd22 "_law_box" = true)
    (k22 : PySem.W.keepIn K (.ref f22) = true)
    (a23 : PySem.W.nsIn K mainGlobals "_law_take" = some (some (.ref f23)))
    (l23 : K.lookup f23 = some ⟨oc23, od23, .func (PySem.W.fnOf "_law_take" "_law_take" (defArgs s__law_take) (defBody s__law_take) (defScope s__law_take) .none kV23 dc23 pm23 an23 cd23 ct23), sl23⟩)
    (c23 : PySem.W.codeIn K cd23 "_law_take" = true)
    (k23 : PySem.W.keepIn K (.ref f23) = true)
    (a24 : PySem.W.nsIn K mainGlobals "_law_same" = some (some (.ref f24)))
    (l24 : K.lookup f24 = some ⟨oc24, od24, .func (PySem.W.fnOf "_law_same" "_law_same" (defArgs s__law_same) (defBody s__law_same) (defScope s__law_same) .none kV24 dc24 pm24 an24 cd24 ct24), sl24⟩)
    (c24 : PySem.W.codeIn K cd24 "_law_same" = true)
    (k24 : PySem.W.keepIn K (.ref f24) = true)
    (a25 : PySem.W.nsIn K mainGlobals "_law_word" = some (some (.ref f25)))
    (l25 : K.lookup f25 = some ⟨oc25, od25, .func (PySem.W.fnOf "_law_word" "_law_word" (defArgs s__law_word) (defBody s__law_word) (defScope s__law_word) .none kV25 dc25 pm25 an25 cd25 ct25), sl25⟩)
    (c25 : PySem.W.codeIn K cd25 "_law_word" = true)
    (k25 : PySem.W.keepIn K (.ref f25) = true)
    (a26 : PySem.W.nsIn K mainGlobals "_law_name" = some (some (.ref f26)))
    (l26 : K.lookup f26 = some ⟨oc26, od26, .func (PySem.W.fnOf "_law_name" "_law_name" (defArgs s__law_name) (defBody s__law_name) (defScope s__law_name) .none kV26 dc26 pm26 an26 cd26 ct26), sl26⟩)
    (c26 : PySem.W.codeIn K cd26 "_law_name" = true)
    (k26 : PySem.W.keepIn K (.ref f26) = true)
    (a27 : PySem.W.nsIn K mainGlobals "_law_plain" = some (some (.ref f27)))
    (l27 : K.lookup f27 = some ⟨oc27, od27, .func (PySem.W.fnOf "_law_plain" "_law_plain" (defArgs s__law_plain) (defBody s__law_plain) (defScope s__law_plain) .none kV27 dc27 pm27 an27 cd27 ct27), sl27⟩)
    (c27 : PySem.W.codeIn K cd27 "_law_plain" = true)
    (k27 : PySem.W.keepIn K (.ref f27) = true)
    (a28 : PySem.W.nsIn K mainGlobals "_law_pending" = some (some (.ref f28)))
    (l28 : K.lookup f28 = some ⟨oc28, od28, .func (PySem.W.fnOf "_law_pending" "_law_pending" (defArgs s__law_pending) (defBody s__law_pending) (defScope s__law_pending) .none kV28 dc28 pm28 an28 cd28 ct28), sl28⟩)
    (c28 : PySem.W.codeIn K cd28 "_law_pending" = true)
    (k28 : PySem.W.keepIn K (.ref f28) = true)
    (a29 : PySem.W.nsIn K mainGlobals "_law_marked" = some (some (.ref f29)))
    (l29 : K.lookup f29 = some ⟨oc29, od29, .func (PySem.W.fnOf "_law_marked" "_law_marked" (defArgs s__law_marked) (defBody s__law_marked) (defScope s__law_marked) .none kV29 dc29 pm29 an29 cd29 ct29), sl29⟩)
    (c29 : PySem.W.codeIn K cd29 "_law_marked" = true)
    (k29 : PySem.W.keepIn K (.ref f29) = true)
    (a30 : PySem.W.nsIn K mainGlobals "_law_entry" = some (some (.ref f30)))
    (l30 : K.lookup f30 = some ⟨oc30, od30, .func (PySem.W.fnOf "_law_entry" "_law_entry" (defArgs s__law_entry) (defBody s__law_entry) (defScope s__law_entry) .none kV30 dc30 pm30 an30 cd30 ct30), sl30⟩)
    (c30 : PySem.W.codeIn K cd30 "_law_entry" = true)
    (k30 : PySem.W.keepIn K (.ref f30) = true)
    (a31 : PySem.W.nsIn K mainGlobals "_law_kinds" = some (some (.ref f31)))
    (l31 : K.lookup f31 = some ⟨oc31, od31, .func (PySem.W.fnOf "_law_kinds" "_law_kinds" (defArgs s__law_kinds) (defBody s__law_kinds) (defScope s__law_kinds) .none kV31 dc31 pm31 an31 cd31 ct31), sl31⟩)
    (c31 : PySem.W.codeIn K cd31 "_law_kinds" = true)
    (k31 : PySem.W.keepIn K (.ref f31) = true)
    (a32 : PySem.W.nsIn K mainGlobals "_law_kind" = some (some (.ref f32)))
    (l32 : K.lookup f32 = some ⟨oc32, od32, .func (PySem.W.fnOf "_law_kind" "_law_kind" (defArgs s__law_kind) (defBody s__law_kind) (defScope s__law_kind) .none kV32 dc32 pm32 an32 cd32 ct32), sl32⟩)
    (c32 : PySem.W.codeIn K cd32 "_law_kind" = true)
    (k32 : PySem.W.keepIn K (.ref f32) = true)
    (a33 : PySem.W.nsIn K mainGlobals "_law_marks" = some (some (.ref f33)))
    (l33 : K.lookup f33 = some ⟨oc33, od33, .func (PySem.W.fnOf "_law_marks" "_law_marks" (defArgs s__law_marks) (defBody s__law_marks) (defScope s__law_marks) .none kV33 dc33 pm33 an33 cd33 ct33), sl33⟩)
    (c33 : PySem.W.codeIn K cd33 "_law_marks" = true)
    (k33 : PySem.W.keepIn K (.ref f33) = true)
    (a34 : PySem.W.nsIn K mainGlobals "_law_tag" = some (some (.ref f34)))
    (l34 : K.lookup f34 = some ⟨oc34, od34, .func (PySem.W.fnOf "_law_tag" "_law_tag" (defArgs s__law_tag) (defBody s__law_tag) (defScope s__law_tag) .none kV34 dc34 pm34 an34 cd34 ct34), sl34⟩)
    (c34 : PySem.W.codeIn K cd34 "_law_tag" = true)
    (k34 : PySem.W.keepIn K (.ref f34) = true)
    (a35 : PySem.W.nsIn K mainGlobals "_law_form" = some (some (.ref f35)))
    (l35 : K.lookup f35 = some ⟨oc35, od35, .func (PySem.W.fnOf "_law_form" "_law_form" (defArgs s__law_form) (defBody s__law_form) (defScope s__law_form) .none kV35 dc35 pm35 an35 cd35 ct35), sl35⟩)
    (c35 : PySem.W.codeIn K cd35 "_law_form" = true)
    (k35 : PySem.W.keepIn K (.ref f35) = true)
    (a36 : PySem.W.nsIn K mainGlobals "_law_free" = some (some (.ref f36)))
    (l36 : K.lookup f36 = some ⟨oc36, od36, .func (PySem.W.fnOf "_law_free" "_law_free" (defArgs s__law_free) (defBody s__law_free) (defScope s__law_free) .none kV36 dc36 pm36 an36 cd36 ct36), sl36⟩)
    (c36 : PySem.W.codeIn K cd36 "_law_free" = true)
    (k36 : PySem.W.keepIn K (.ref f36) = true)
    (a37 : PySem.W.nsIn K mainGlobals "_law_moved" = some (some (.ref f37)))
    (l37 : K.lookup f37 = some ⟨oc37, od37, .func (PySem.W.fnOf "_law_moved" "_law_moved" (defArgs s__law_moved) (defBody s__law_moved) (defScope s__law_moved) .none kV37 dc37 pm37 an37 cd37 ct37), sl37⟩)
    (c37 : PySem.W.codeIn K cd37 "_law_moved" = true)
    (k37 : PySem.W.keepIn K (.ref f37) = true)
    (a38 : PySem.W.nsIn K mainGlobals "_law_sent" = some (some (.ref f38)))
    (l38 : K.lookup f38 = some ⟨oc38, od38, .func (PySem.W.fnOf "_law_sent" "_law_sent" (defArgs s__law_sent) (defBody s__law_sent) (defScope s__law_sent) .none kV38 dc38 pm38 an38 cd38 ct38), sl38⟩)
    (c38 : PySem.W.codeIn K cd38 "_law_sent" = true)
    (k38 : PySem.W.keepIn K (.ref f38) = true)
    (a39 : PySem.W.nsIn K mainGlobals "_law_spoil" = some (some (.ref f39)))
    (l39 : K.lookup f39 = some ⟨oc39, od39, .func (PySem.W.fnOf "_law_spoil" "_law_spoil" (defArgs s__law_spoil) (defBody s__law_spoil) (defScope s__law_spoil) .none kV39 dc39 pm39 an39 cd39 ct39), sl39⟩)
    (c39 : PySem.W.codeIn K cd39 "_law_spoil" = true)
    (k39 : PySem.W.keepIn K (.ref f39) = true)
    (a40 : PySem.W.nsIn K mainGlobals "_law_table" = some (some (.ref f40)))
    (l40 : K.lookup f40 = some ⟨oc40, od40, .func (PySem.W.fnOf "_law_table" "_law_table" (defArgs s__law_table) (defBody s__law_table) (defScope s__law_table) .none kV40 dc40 pm40 an40 cd40 ct40), sl40⟩)
    (c40 : PySem.W.codeIn K cd40 "_law_table" = true)
    (k40 : PySem.W.keepIn K (.ref f40) = true)
    (a41 : PySem.W.nsIn K mainGlobals "_law_errors" = some (some (.ref f41)))
    (l41 : K.lookup f41 = some ⟨oc41, od41, .func (PySem.W.fnOf "_law_errors" "_law_errors" (defArgs s__law_errors) (defBody s__law_errors) (defScope s__law_errors) .none kV41 dc41 pm41 an41 cd41 ct41), sl41⟩)
    (c41 : PySem.W.codeIn K cd41 "_law_errors" = true)
    (k41 : PySem.W.keepIn K (.ref f41) = true)
    (a42 : PySem.W.nsIn K mainGlobals "_law_make" = some (some (.ref f42)))
    (l42 : K.lookup f42 = some ⟨oc42, od42, .func (PySem.W.fnOf "_law_make" "_law_make" (defArgs s__law_make) (defBody s__law_make) (defScope s__law_make) .none kV42 dc42 pm42 an42 cd42 ct42), sl42⟩)
    (c42 : PySem.W.codeIn K cd42 "_law_make" = true)
    (k42 : PySem.W.keepIn K (.ref f42) = true)
    (a43 : PySem.W.nsIn K mainGlobals "_law_set" = some (some (.ref f43)))
    (l43 : K.lookup f43 = some ⟨oc43, od43, .func (PySem.W.fnOf "_law_set" "_law_set" (defArgs s__law_set) (defBody s__law_set) (defScope s__law_set) .none kV43 dc43 pm43 an43 cd43 ct43), sl43⟩)
    (c43 : PySem.W.codeIn K cd43 "_law_set" = true)
    (k43 : PySem.W.keepIn K (.ref f43) = true)
    (a44 : PySem.W.nsIn K mainGlobals "_law_change" = some (some (.ref f44)))
    (l44 : K.lookup f44 = some ⟨oc44, od44, .func (PySem.W.fnOf "_law_change" "_law_change" (defArgs s__law_change) (defBody s__law_change) (defScope s__law_change) .none kV44 dc44 pm44 an44 cd44 ct44), sl44⟩)
    (c44 : PySem.W.codeIn K cd44 "_law_change" = true)
    (k44 : PySem.W.keepIn K (.ref f44) = true)
    (a45 : PySem.W.nsIn K mainGlobals "_law_deed" = some (some (.ref f45)))
    (l45 : K.lookup f45 = some ⟨oc45, od45, .func (PySem.W.fnOf "_law_deed" "_law_deed" (defArgs s__law_deed) (defBody s__law_deed) (defScope s__law_deed) .none kV45 dc45 pm45 an45 cd45 ct45), sl45⟩)
    (c45 : PySem.W.codeIn K cd45 "_law_deed" = true)
    (k45 : PySem.W.keepIn K (.ref f45) = true)
    (a46 : PySem.W.nsIn K mainGlobals "_law_told" = some (some (.ref f46)))
    (l46 : K.lookup f46 = some ⟨oc46, od46, .func (PySem.W.fnOf "_law_told" "_law_told" (defArgs s__law_told) (defBody s__law_told) (defScope s__law_told) .none kV46 dc46 pm46 an46 cd46 ct46), sl46⟩)
    (c46 : PySem.W.codeIn K cd46 "_law_told" = true)
    (k46 : PySem.W.keepIn K (.ref f46) = true)
    (a47 : PySem.W.nsIn K mainGlobals "law" = some (some (.ref f47)))
    (l47 : K.lookup f47 = some ⟨oc47, od47, .func (PySem.W.fnOf "law" "law" (defArgs s_law) (defBody s_law) (defScope s_law) .none kV47 dc47 pm47 an47 cd47 ct47), sl47⟩)
    (c47 : PySem.W.codeIn K cd47 "law" = true)
    (k47 : PySem.W.keepIn K (.ref f47) = true)
    (z_bool : PySem.W.nsIn K mainGlobals "bool" = some none)
    (z_int : PySem.W.nsIn K mainGlobals "int" = some none)
    (z_isinstance : PySem.W.nsIn K mainGlobals "isinstance" = some none)
    (z_len : PySem.W.nsIn K mainGlobals "len" = some none)
    (z_list : PySem.W.nsIn K mainGlobals "list" = some none)
    (z_property : PySem.W.nsIn K mainGlobals "property" = some none)
    (z_range : PySem.W.nsIn K mainGlobals "range" = some none)
    (z_str : PySem.W.nsIn K mainGlobals "str" = some none)
    (z_sum : PySem.W.nsIn K mainGlobals "sum" = some none)
    (z_tuple : PySem.W.nsIn K mainGlobals "tuple" = some none)
    (g_CT : PySem.W.nsIn K mainGlobals "Thing" = some (some (.ref CT)))
    (pg_CT : PySem.W.plainGet K CT Str.empty = true)
    (hd_CT : PySem.W.hasDictIn K CT = true)
    (po_CT : PySem.W.plainOver K CT = true)
    (sa_CT : PySem.W.findIn K (.ref CT) "__setattr__" = some (some (.builtin "object.__setattr__")))
    (mk_CT : PySem.W.makesIn K CT = true)
    (kc_CT : PySem.W.keepIn K (.ref CT) = true)
    (g_CS : PySem.W.nsIn K mainGlobals "Store" = some (some (.ref CS)))
    (pg_CS : PySem.W.plainGet K CS Str.empty = true)
    (hd_CS : PySem.W.hasDictIn K CS = true)
    (po_CS : PySem.W.plainOver K CS = true)
    (sa_CS : PySem.W.findIn K (.ref CS) "__setattr__" = some (some (.builtin "object.__setattr__")))
    (mk_CS : PySem.W.makesIn K CS = true)
    (kc_CS : PySem.W.keepIn K (.ref CS) = true)
    (g_CH : PySem.W.nsIn K mainGlobals "Heap" = some (some (.ref CH)))
    (pg_CH : PySem.W.plainGet K CH Str.empty = true)
    (hd_CH : PySem.W.hasDictIn K CH = true)
    (po_CH : PySem.W.plainOver K CH = true)
    (sa_CH : PySem.W.findIn K (.ref CH) "__setattr__" = some (some (.builtin "object.__setattr__")))
    (mk_CH : PySem.W.makesIn K CH = true)
    (kc_CH : PySem.W.keepIn K (.ref CH) = true)
    (n_CT_kind : PySem.W.findIn K (.ref CT) "kind" = some none)
    (n_CT_tag : PySem.W.findIn K (.ref CT) "tag" = some none)
    (n_CT_slots : PySem.W.findIn K (.ref CT) "slots" = some none)
    (n_CT_age : PySem.W.findIn K (.ref CT) "age" = some none)
    (n_CS_things : PySem.W.findIn K (.ref CS) "things" = some none)
    (n_CH_things : PySem.W.findIn K (.ref CH) "things" = some none)
    (n_CH_young_many : PySem.W.findIn K (.ref CH) "young_many" = some none)
    (n_CH_old_many : PySem.W.findIn K (.ref CH) "old_many" = some none)
    (n_CH_marked : PySem.W.findIn K (.ref CH) "marked" = some none)
    (rd : PySem.W.readsIn K CS (.type "type") = true)
    (ga : PySem.W.specialIn K (.ref CS) "__getattribute__" = some (some (.builtin "type.__getattribute__")))
    (vk : PySem.W.findCls K (.ref CS) (.type "type") "KINDS" = some (.val (.ref ak)))
    (lk : K.lookup ak = some ⟨.type "tuple", odk, .seq itk nk, slk⟩)
    (wk : itk.toList.map absV = KS.map (fun z => some (V.str z)))
    (uk : itk.size ≤ 1000) :
    ∃ fd : FuncData, (∀ (s : Shared) (v : Value), BindsTo s fd ⟨[v], []⟩ [("script", v)]) ∧ ∀ base : Heap, K.In base → base.Ns mainGlobals mg → FnOk l.prog w K mg base CX0 14 fa fd ["script"] (spLaw K) := by
  have e := hfa.symm.trans (PySem.W.mg_of X G a47)
  cases e
  have g1 : Gv K mg "_wall" s__wall p__wall := ⟨_, _, (fun_mk (st := s__wall) l1 c1 k1), PySem.W.mg_of X G a1, ((fun_mk (st := s__wall) l1 c1 k1).binds (ps := p__wall) fun _ _ _ _ _ _ us hl => match us, hl with | [_], _ => rfl)⟩
  have g2 : ∃ fI fd, L2.Mk K CT fI ∧ Binds K fd p_Thing___init__ [] ∧ Fun K "__init__" "Thing.__init__" s_Thing___init__ fI fd := ⟨_, _, ⟨mk_CT, a2, i2, kc_CT⟩, ((fun_mk (st := s_Thing___init__) l2 c2 k2).binds (ps := p_Thing___init__) fun _ _ _ _ _ _ us hl => match us, hl with | [_, _, _, _], _ => rfl), (fun_mk (st := s_Thing___init__) l2 c2 k2)⟩
  have g3 : ∃ fI fd, L2.Mk K CS fI ∧ Binds K fd p_Store___init__ [] ∧ Fun K "__init__" "Store.__init__" s_Store___init__ fI fd := ⟨_, _, ⟨mk_CS, a3, i3, kc_CS⟩, ((fun_mk (st := s_Store___init__) l3 c3 k3).binds (ps := p_Store___init__) fun _ _ _ _ _ _ us hl => match us, hl with | [_], _ => rfl), (fun_mk (st := s_Store___init__) l3 c3 k3)⟩
  have gv : ∃ fI fd, PySem.W.findCls K (.ref CS) (.type "type") "__init__" = some (.val (.ref fI)) ∧ PySem.W.keepIn K (.ref fI) = true ∧ Binds K fd p_Store___init__ [] ∧ Fun K "__init__" "Store.__init__" s_Store___init__ fI fd := ⟨_, _, v3, k3, ((fun_mk (st := s_Store___init__) l3 c3 k3).binds (ps := p_Store___init__) fun _ _ _ _ _ _ us hl => match us, hl with | [_], _ => rfl), (fun_mk (st := s_Store___init__) l3 c3 k3)⟩
  have g4 : Gvm K CS "__len__" "Store.__len__" s_Store___len__ p_Store___len__ := ⟨_, _, (fun_mk (st := s_Store___len__) l4 c4 k4), ⟨a4, i4, k4⟩, ((fun_mk (st := s_Store___len__) l4 c4 k4).binds (ps := p_Store___len__) fun _ _ _ _ _ _ us hl => match us, hl with | [_], _ => rfl)⟩
  have g5 : Gvm K CS "make" "Store.make" s_Store_make p_Store_make := ⟨_, _, (fun_mk (st := s_Store_make) l5 c5 k5), ⟨a5, i5, k5⟩, ((fun_mk (st := s_Store_make) l5 c5 k5).binds (ps := p_Store_make) fun _ _ _ _ _ _ us hl => match us, hl with | [_, _, _, _], _ => rfl)⟩
  have g6 : Gvm K CS "kind_of" "Store.kind_of" s_Store_kind_of p_Store_kind_of := ⟨_, _, (fun_mk (st := s_Store_kind_of) l6 c6 k6), ⟨a6, i6, k6⟩, ((fun_mk (st := s_Store_kind_of) l6 c6 k6).binds (ps := p_Store_kind_of) fun _ _ _ _ _ _ us hl => match us, hl with | [_, _], _ => rfl)⟩
  have gh6 : Gvm K CH "kind_of" "Store.kind_of" s_Store_kind_of p_Store_kind_of := ⟨_, _, (fun_mk (st := s_Store_kind_of) l6 c6 k6), ⟨h6, i6, k6⟩, ((fun_mk (st := s_Store_kind_of) l6 c6 k6).binds (ps := p_Store_kind_of) fun _ _ _ _ _ _ us hl => match us, hl with | [_, _], _ => rfl)⟩
  have g7 : Gvm K CS "tag_of" "Store.tag_of" s_Store_tag_of p_Store_tag_of := ⟨_, _, (fun_mk (st := s_Store_tag_of) l7 c7 k7), ⟨a7, i7, k7⟩, ((fun_mk (st := s_Store_tag_of) l7 c7 k7).binds (ps := p_Store_tag_of) fun _ _ _ _ _ _ us hl => match us, hl with | [_, _], _ => rfl)⟩
  have gh7 : Gvm K CH "tag_of" "Store.tag_of" s_Store_tag_of p_Store_tag_of := ⟨_, _, (fun_mk (st := s_Store_tag_of) l7 c7 k7), ⟨h7, i7, k7⟩, ((fun_mk (st := s_Store_tag_of) l7 c7 k7).binds (ps := p_Store_tag_of) fun _ _ _ _ _ _ us hl => match us, hl with | [_, _], _ => rfl)⟩
  have g8 : Gvm K CS "slots_of" "Store.slots_of" s_Store_slots_of p_Store_slots_of := ⟨_, _, (fun_mk (st := s_Store_slots_of) l8 c8 k8), ⟨a8, i8, k8⟩, ((fun_mk (st := s_Store_slots_of) l8 c8 k8).binds (ps := p_Store_slots_of) fun _ _ _ _ _ _ us hl => match us, hl with | [_, _], _ => rfl)⟩
  have gh8 : Gvm K CH "slots_of" "Store.slots_of" s_Store_slots_of p_Store_slots_of := ⟨_, _, (fun_mk (st := s_Store_slots_of) l8 c8 k8), ⟨h8, i8, k8⟩, ((fun_mk (st := s_Store_slots_of) l8 c8 k8).binds (ps := p_Store_slots_of) fun _ _ _ _ _ _ us hl => match us, hl with | [_, _], _ => rfl)⟩
  have g9 : Gvm K CS "slot" "Store.slot" s_Store_slot p_Store_slot := ⟨_, _, (fun_mk (st := s_Store_slot) l9 c9 k9), ⟨a9, i9, k9⟩, ((fun_mk (st := s_Store_slot) l9 c9 k9).binds (ps := p_Store_slot) fun _ _ _ _ _ _ us hl => match us, hl with | [_, _, _], _ => rfl)⟩
  have gh9 : Gvm K CH "slot" "Store.slot" s_Store_slot p_Store_slot := ⟨_, _, (fun_mk (st := s_Store_slot) l9 c9 k9), ⟨h9, i9, k9⟩, ((fun_mk (st := s_Store_slot) l9 c9 k9).binds (ps := p_Store_slot) fun _ _ _ _ _ _ us hl => match us, hl with | [_, _, _], _ => rfl)⟩
  have g10 : Gvm K CS "set_slot" "Store.set_slot" s_Store_set_slot p_Store_set_slot := ⟨_, _, (fun_mk (st := s_Store_set_slot) l10 c10 k10), ⟨a10, i10, k10⟩, ((fun_mk (st := s_Store_set_slot) l10 c10 k10).binds (ps := p_Store_set_slot) fun _ _ _ _ _ _ us hl => match us, hl with | [_, _, _, _], _ => rfl)⟩
  have g11 : Gvm K CS "change" "Store.change" s_Store_change p_Store_change := ⟨_, _, (fun_mk (st := s_Store_change) l11 c11 k11), ⟨a11, i11, k11⟩, ((fun_mk (st := s_Store_change) l11 c11 k11).binds (ps := p_Store_change) fun _ _ _ _ _ _ us hl => match us, hl with | [_, _, _, _], _ => rfl)⟩
  have g12 : Gv K mg "address_of" s_address_of p_address_of := ⟨_, _, (fun_mk (st := s_address_of) l12 c12 k12), PySem.W.mg_of X G a12, ((fun_mk (st := s_address_of) l12 c12 k12).binds (ps := p_address_of) fun _ _ _ _ _ _ us hl => match us, hl with | [_], _ => rfl)⟩
  have g13 : ∃ fI fd, L2.Mk K CH fI ∧ Binds K fd p_Heap___init__ [] ∧ Fun K "__init__" "Heap.__init__" s_Heap___init__ fI fd := ⟨_, _, ⟨mk_CH, a13, i13, kc_CH⟩, ((fun_mk (st := s_Heap___init__) l13 c13 k13).binds (ps := p_Heap___init__) fun _ _ _ _ _ _ us hl => match us, hl with | [_], _ => rfl), (fun_mk (st := s_Heap___init__) l13 c13 k13)⟩
  have g14 : Gvm K CH "__len__" "Heap.__len__" s_Heap___len__ p_Heap___len__ := ⟨_, _, (fun_mk (st := s_Heap___len__) l14 c14 k14), ⟨a14, i14, k14⟩, ((fun_mk (st := s_Heap___len__) l14 c14 k14).binds (ps := p_Heap___len__) fun _ _ _ _ _ _ us hl => match us, hl with | [_], _ => rfl)⟩
  have g15 : Gvm K CH "make" "Heap.make" s_Heap_make p_Heap_make := ⟨_, _, (fun_mk (st := s_Heap_make) l15 c15 k15), ⟨a15, i15, k15⟩, ((fun_mk (st := s_Heap_make) l15 c15 k15).binds (ps := p_Heap_make) fun _ _ _ _ _ _ us hl => match us, hl with | [_, _, _, _], _ => rfl)⟩
  have g16 : Gvm K CH "set_slot" "Heap.set_slot" s_Heap_set_slot p_Heap_set_slot := ⟨_, _, (fun_mk (st := s_Heap_set_slot) l16 c16 k16), ⟨a16, i16, k16⟩, ((fun_mk (st := s_Heap_set_slot) l16 c16 k16).binds (ps := p_Heap_set_slot) fun _ _ _ _ _ _ us hl => match us, hl with | [_, _, _, _], _ => rfl)⟩
  have g17 : Gvm K CH "change" "Heap.change" s_Heap_change p_Heap_change := ⟨_, _, (fun_mk (st := s_Heap_change) l17 c17 k17), ⟨a17, i17, k17⟩, ((fun_mk (st := s_Heap_change) l17 c17 k17).binds (ps := p_Heap_change) fun _ _ _ _ _ _ us hl => match us, hl with | [_, _, _, _], _ => rfl)⟩
  have g18 : Gvm K CH "remember" "Heap.remember" s_Heap_remember p_Heap_remember := ⟨_, _, (fun_mk (st := s_Heap_remember) l18 c18 k18), ⟨a18, i18, k18⟩, ((fun_mk (st := s_Heap_remember) l18 c18 k18).binds (ps := p_Heap_remember) fun _ _ _ _ _ _ us hl => match us, hl with | [_, _, _], _ => rfl)⟩
  have g19 : Gv K mg "is_young" s_is_young p_is_young := ⟨_, _, (fun_mk (st := s_is_young) l19 c19 k19), PySem.W.mg_of X G a19, ((fun_mk (st := s_is_young) l19 c19 k19).binds (ps := p_is_young) fun _ _ _ _ _ _ us hl => match us, hl with | [_], _ => rfl)⟩
  have g20 : Gv K mg "refers_to_young" s_refers_to_young p_refers_to_young := ⟨_, _, (fun_mk (st := s_refers_to_young) l20 c20 k20), PySem.W.mg_of X G a20, ((fun_mk (st := s_refers_to_young) l20 c20 k20).binds (ps := p_refers_to_young) fun _ _ _ _ _ _ us hl => match us, hl with | [_], _ => rfl)⟩
  have g21 : Gv K mg "_law_cell" s__law_cell p__law_cell := ⟨_, _, (fun_mk (st := s__law_cell) l21 c21 k21), PySem.W.mg_of X G a21, ((fun_mk (st := s__law_cell) l21 c21 k21).binds (ps := p__law_cell) fun _ _ _ _ _ _ us hl => match us, hl with | [_, _], _ => rfl)⟩
  have g22 : Gv K mg "_law_box" s__law_box p__law_box := ⟨_, _, (fun_mk (st := s__law_box) l22 c22 k22), PySem.W.mg_of X G a22, ((fun_mk (st := s__law_box) l22 c22 k22).binds (ps := p__law_box) fun _ _ _ _ _ _ us hl => match us, hl with | [_, _], _ => rfl)⟩
  have g23 : Gv K mg "_law_take" s__law_take p__law_take := ⟨_, _, (fun_mk (st := s__law_take) l23 c23 k23), PySem.W.mg_of X G a23, ((fun_mk (st := s__law_take) l23 c23 k23).binds (ps := p__law_take) fun _ _ _ _ _ _ us hl => match us, hl with | [_, _], _ => rfl)⟩
  have g24 : Gv K mg "_law_same" s__law_same p__law_same := ⟨_, _, (fun_mk (st := s__law_same) l24 c24 k24), PySem.W.mg_of X G a24, ((fun_mk (st := s__law_same) l24 c24 k24).binds (ps := p__law_same) fun _ _ _ _ _ _ us hl => match us, hl with | [_, _], _ => rfl)⟩
  have g25 : Gv K mg "_law_word" s__law_word p__law_word := ⟨_, _, (fun_mk (st := s__law_word) l25 c25 k25), PySem.W.mg_of X G a25, ((fun_mk (st := s__law_word) l25 c25 k25).binds (ps := p__law_word) fun _ _ _ _ _ _ us hl => match us, hl with | [_], _ => rfl)⟩
  have g26 : Gv K mg "_law_name" s__law_name p__law_name := ⟨_, _, (fun_mk (st := s__law_name) l26 c26 k26), PySem.W.mg_of X G a26, ((fun_mk (st := s__law_name) l26 c26 k26).binds (ps := p__law_name) fun _ _ _ _ _ _ us hl => match us, hl with | [_], _ => rfl)⟩
  have g27 : Gv K mg "_law_plain" s__law_plain p__law_plain := ⟨_, _, (fun_mk (st := s__law_plain) l27 c27 k27), PySem.W.mg_of X G a27, ((fun_mk (st := s__law_plain) l27 c27 k27).binds (ps := p__law_plain) fun _ _ _ _ _ _ us hl => match us, hl with | [_], _ => rfl)⟩
  have g28 : Gv K mg "_law_pending" s__law_pending p__law_pending := ⟨_, _, (fun_mk (st := s__law_pending) l28 c28 k28), PySem.W.mg_of X G a28, ((fun_mk (st := s__law_pending) l28 c28 k28).binds (ps := p__law_pending) fun _ _ _ _ _ _ us hl => match us, hl with | [_, _, _], _ => rfl)⟩
  have g29 : Gv K mg "_law_marked" s__law_marked p__law_marked := ⟨_, _, (fun_mk (st := s__law_marked) l29 c29 k29), PySem.W.mg_of X G a29, ((fun_mk (st := s__law_marked) l29 c29 k29).binds (ps := p__law_marked) fun _ _ _ _ _ _ us hl => match us, hl with | [_, _, _, _], _ => rfl)⟩
  have g30 : Gv K mg "_law_entry" s__law_entry p__law_entry := ⟨_, _, (fun_mk (st := s__law_entry) l30 c30 k30), PySem.W.mg_of X G a30, ((fun_mk (st := s__law_entry) l30 c30 k30).binds (ps := p__law_entry) fun _ _ _ _ _ _ us hl => match us, hl with | [_, _, _, _], _ => rfl)⟩
  have g31 : Gv K mg "_law_kinds" s__law_kinds p__law_kinds := ⟨_, _, (fun_mk (st := s__law_kinds) l31 c31 k31), PySem.W.mg_of X G a31, ((fun_mk (st := s__law_kinds) l31 c31 k31).binds (ps := p__law_kinds) fun _ _ _ _ _ _ us hl => match us, hl with | [], _ => rfl)⟩
  have g32 : Gv K mg "_law_kind" s__law_kind p__law_kind := ⟨_, _, (fun_mk (st := s__law_kind) l32 c32 k32), PySem.W.mg_of X G a32, ((fun_mk (st := s__law_kind) l32 c32 k32).binds (ps := p__law_kind) fun _ _ _ _ _ _ us hl => match us, hl with | [_], _ => rfl)⟩
  have g33 : Gv K mg "_law_marks" s__law_marks p__law_marks := ⟨_, _, (fun_mk (st := s__law_marks) l33 c33 k33), PySem.W.mg_of X G a33, ((fun_mk (st := s__law_marks) l33 c33 k33).binds (ps := p__law_marks) fun _ _ _ _ _ _ us hl => match us, hl with | [_], _ => rfl)⟩
  have g34 : Gv K mg "_law_tag" s__law_tag p__law_tag := ⟨_, _, (fun_mk (st := s__law_tag) l34 c34 k34), PySem.W.mg_of X G a34, ((fun_mk (st := s__law_tag) l34 c34 k34).binds (ps := p__law_tag) fun _ _ _ _ _ _ us hl => match us, hl with | [_, _, _], _ => rfl)⟩
  have g35 : Gv K mg "_law_form" s__law_form p__law_form := ⟨_, _, (fun_mk (st := s__law_form) l35 c35 k35), PySem.W.mg_of X G a35, ((fun_mk (st := s__law_form) l35 c35 k35).binds (ps := p__law_form) fun _ _ _ _ _ _ us hl => match us, hl with | [_, _, _, _], _ => rfl)⟩
  have g36 : Gv K mg "_law_free" s__law_free p__law_free := ⟨_, _, (fun_mk (st := s__law_free) l36 c36 k36), PySem.W.mg_of X G a36, ((fun_mk (st := s__law_free) l36 c36 k36).binds (ps := p__law_free) fun _ _ _ _ _ _ us hl => match us, hl with | [_], _ => rfl)⟩
  have g37 : Gv K mg "_law_moved" s__law_moved p__law_moved := ⟨_, _, (fun_mk (st := s__law_moved) l37 c37 k37), PySem.W.mg_of X G a37, ((fun_mk (st := s__law_moved) l37 c37 k37).binds (ps := p__law_moved) fun _ _ _ _ _ _ us hl => match us, hl with | [_, _], _ => rfl)⟩
  have g38 : Gv K mg "_law_sent" s__law_sent p__law_sent := ⟨_, _, (fun_mk (st := s__law_sent) l38 c38 k38), PySem.W.mg_of X G a38, ((fun_mk (st := s__law_sent) l38 c38 k38).binds (ps := p__law_sent) fun _ _ _ _ _ _ us hl => match us, hl with | [_, _], _ => rfl)⟩
  have g39 : Gv K mg "_law_spoil" s__law_spoil p__law_spoil := ⟨_, _, (fun_mk (st := s__law_spoil) l39 c39 k39), PySem.W.mg_of X G a39, ((fun_mk (st := s__law_spoil) l39 c39 k39).binds (ps := p__law_spoil) fun _ _ _ _ _ _ us hl => match us, hl with | [_, _], _ => rfl)⟩
  have g40 : Gv K mg "_law_table" s__law_table p__law_table := ⟨_, _, (fun_mk (st := s__law_table) l40 c40 k40), PySem.W.mg_of X G a40, ((fun_mk (st := s__law_table) l40 c40 k40).binds (ps := p__law_table) fun _ _ _ _ _ _ us hl => match us, hl with | [_, _], _ => rfl)⟩
  have g41 : Gv K mg "_law_errors" s__law_errors p__law_errors := ⟨_, _, (fun_mk (st := s__law_errors) l41 c41 k41), PySem.W.mg_of X G a41, ((fun_mk (st := s__law_errors) l41 c41 k41).binds (ps := p__law_errors) fun _ _ _ _ _ _ us hl => match us, hl with | [_], _ => rfl)⟩
  have g42 : Gv K mg "_law_make" s__law_make p__law_make := ⟨_, _, (fun_mk (st := s__law_make) l42 c42 k42), PySem.W.mg_of X G a42, ((fun_mk (st := s__law_make) l42 c42 k42).binds (ps := p__law_make) fun _ _ _ _ _ _ us hl => match us, hl with | [_, _, _, _], _ => rfl)⟩
  have g43 : Gv K mg "_law_set" s__law_set p__law_set := ⟨_, _, (fun_mk (st := s__law_set) l43 c43 k43), PySem.W.mg_of X G a43, ((fun_mk (st := s__law_set) l43 c43 k43).binds (ps := p__law_set) fun _ _ _ _ _ _ us hl => match us, hl with | [_, _, _, _, _], _ => rfl)⟩
  have g44 : Gv K mg "_law_change" s__law_change p__law_change := ⟨_, _, (fun_mk (st := s__law_change) l44 c44 k44), PySem.W.mg_of X G a44, ((fun_mk (st := s__law_change) l44 c44 k44).binds (ps := p__law_change) fun _ _ _ _ _ _ us hl => match us, hl with | [_, _, _, _], _ => rfl)⟩
  have g45 : Gv K mg "_law_deed" s__law_deed p__law_deed := ⟨_, _, (fun_mk (st := s__law_deed) l45 c45 k45), PySem.W.mg_of X G a45, ((fun_mk (st := s__law_deed) l45 c45 k45).binds (ps := p__law_deed) fun _ _ _ _ _ _ us hl => match us, hl with | [_, _, _, _], _ => rfl)⟩
  have g46 : Gv K mg "_law_told" s__law_told p__law_told := ⟨_, _, (fun_mk (st := s__law_told) l46 c46 k46), PySem.W.mg_of X G a46, ((fun_mk (st := s__law_told) l46 c46 k46).binds (ps := p__law_told) fun _ _ _ _ _ _ us hl => match us, hl with | [_, _, _], _ => rfl)⟩
  have g47 : Gv K mg "law" s_law p_law := ⟨_, _, (fun_mk (st := s_law) l47 c47 k47), PySem.W.mg_of X G a47, ((fun_mk (st := s_law) l47 c47 k47).binds (ps := p_law) fun _ _ _ _ _ _ us hl => match us, hl with | [_], _ => rfl)⟩
  have T : Txt K w mg := { z_bool := PySem.W.mg_none_of X G z_bool, z_int := PySem.W.mg_none_of X G z_int, z_isinstance := PySem.W.mg_none_of X G z_isinstance, z_len := PySem.W.mg_none_of X G z_len, z_list := PySem.W.mg_none_of X G z_list, z_property := PySem.W.mg_none_of X G z_property, z_range := PySem.W.mg_none_of X G z_range, z_str := PySem.W.mg_none_of X G z_str, z_sum := PySem.W.mg_none_of X G z_sum, z_tuple := PySem.W.mg_none_of X G z_tuple, g__wall := g1, g_address_of := g12, g_is_young := g19, g_refers_to_young := g20, g__law_cell := g21, g__law_box := g22, g__law_take := g23, g__law_same := g24, g__law_word := g25, g__law_name := g26, g__law_plain := g27, g__law_pending := g28, g__law_marked := g29, g__law_entry := g30, g__law_kinds := g31, g__law_kind := g32, g__law_marks := g33, g__law_tag := g34, g__law_form := g35, g__law_free := g36, g__law_moved := g37, g__law_sent := g38, g__law_spoil := g39, g__law_table := g40, g__law_errors := g41, g__law_make := g42, g__law_set := g43, g__law_change := g44, g__law_deed := g45, g__law_told := g46, g_law := g47 }
  have TT : ThT K mg CT := { cl := ⟨pg_CT, hd_CT, po_CT, sa_CT⟩, gl := PySem.W.mg_of X G g_CT, n_kind := n_CT_kind, n_tag := n_CT_tag, n_slots := n_CT_slots, n_age := n_CT_age, ini := g2 }
  have BS : BkT K CS := { cl := ⟨pg_CS, hd_CS, po_CS, sa_CS⟩, n_things := n_CS_things, g_kind_of := g6, g_tag_of := g7, g_slots_of := g8, g_slot := g9 }
  have BH : BkT K CH := { cl := ⟨pg_CH, hd_CH, po_CH, sa_CH⟩, n_things := n_CH_things, g_kind_of := gh6, g_tag_of := gh7, g_slots_of := gh8, g_slot := gh9 }
  have TS : StT K mg CS := { bk := BS, gl := PySem.W.mg_of X G g_CS, ini := g3, g_make := g5, g_set_slot := g10, g_change := g11 }
  have TH : HeT K mg CH := { bk := BH, gl := PySem.W.mg_of X G g_CH, n_young_many := n_CH_young_many, n_old_many := n_CH_old_many, n_marked := n_CH_marked, ini := g13, g_make := g15, g_set_slot := g16, g_change := g17, g_remember := g18 }
  have TX : StX K mg CS := { ln := g4, cr := ⟨.type "type", ⟨rd, ga⟩, gv, ak, ⟨vk, rfl⟩, (fun H => .inr ⟨_, itk, nk, lk, rfl, rfl, Nat.le_trans uk (by decide), vals_of_strs KS _ wk⟩), fun H => .kTuple lk rfl⟩ }
  refine ⟨PySem.W.fnOf "law" "law" (defArgs s_law) (defBody s_law) (defScope s_law) .none kV47 dc47 pm47 an47 cd47 ct47, fun s v => .of_eq rfl, fun base _ _ => ?_⟩
  obtain ⟨f, fd, hm', hk', hb', ⟨oc, od, osl, lkk⟩, F⟩ := all_ok (P := l.prog) (base := base) T TT TS TX TH g14
  have e2 : fa = f := Value.ref.inj (Option.some.inj (hfa.symm.trans hm'))
  subst e2
  have e3 := lkk.symm.trans l47
  cases e3
  exact F
end D0
open PySem PySem.W PyProof.Rows
set_option maxRecDepth 100000 in
set_option maxHeartbeats 0 in
theorem PySem.Challenge.cw_likerun_k14_store_history_holds : PySem.Challenge.rw_likerun_k14_store_history.Holds := by
  w_on; o_law; k_head; (case hw => w_witness2)
  k_fill
  refine L2.walk_of (l := PySem.Challenge.rw_likerun_k14_store_history) (n := 63) (k := 14) (x := "script") (CX := fun _ => L2.CX0) (sp := fun w => D0.spLaw _) rfl (by decide) rfl ⟨rfl, by decide, by decide⟩ (fun w h Y => PySem.W.kIn_of Y) ?F (fun _ _ a ns hl _ hS => ⟨a, ns, rfl, hS, hl, fun _ => rfl⟩) (fun _ _ _ _ _ h => h)
  case F =>
    intro w mg fa h KX G hmg
    refine' D0.all_mk KX G hmg ?a1 ?l1 ?c1 ?k1 ?a2 ?i2 ?l2 ?c2 ?k2 ?a3 ?i3 ?v3 ?l3 ?c3 ?k3 ?a4 ?i4 ?l4 ?c4 ?k4 ?a5 ?i5 ?l5 ?c5 ?k5 ?a6 ?i6 ?h6 ?l6 ?c6 ?k6 ?a7 ?i7 ?h7 ?l7 ?c7 ?k7 ?a8 ?i8 ?h8 ?l8 ?c8 ?k8 ?a9 ?i9 ?h9 ?l9 ?c9 ?k9 ?a10 ?i10 ?l10 ?c10 ?k10 ?a11 ?i11 ?l11 ?c11 ?k11 ?a12 ?l12 ?c12 ?k12 ?a13 ?i13 ?l13 ?c13 ?k13 ?a14 ?i14 ?l14 ?c14 ?k14 ?a15 ?i15 ?l15 ?c15 ?k15 ?a16 ?i16 ?l16 ?c16 ?k16 ?a17 ?i17 ?l17 ?c17 ?k17 ?a18 ?i18 ?l18 ?c18 ?k18 ?a19 ?l19 ?c19 ?k19 ?a20 ?l20 ?c20 ?k20 ?a21 ?l21 ?c21 ?k21 ?a22 ?l22 ?c22 ?k22 ?a23 ?l23 ?c23 ?k23 ?a24 ?l24 ?c24 ?k24 ?a25 ?l25 ?c25 ?k25 ?a26 ?l26 ?c26 ?k26 ?a27 ?l27 ?c27 ?k27 ?a28 ?l28 ?c28 ?k28 ?a29 ?l29 ?c29 ?k29 ?a30 ?l30 ?c30 ?k30 ?a31 ?l31 ?c31 ?k31 ?a32 ?l32 ?c32 ?k32 ?a33 ?l33 ?c33 ?k33 ?a34 ?l34 ?c34 ?k34 ?a35 ?l35 ?c35 ?k35 ?a36 ?l36 ?c36 ?k36 ?a37 ?l37 ?c37 ?k37 ?a38 ?l38 ?c38 ?k38 ?a39 ?l39 ?c39 ?k39 ?a40 ?l40 ?c40 ?k40 ?a41 ?l41 ?c41 ?k41 ?a42 ?l42 ?c42 ?k42 ?a43 ?l43 ?c43 ?k43 ?a44 ?l44 ?c44 ?k44 ?a45 ?l45 ?c45 ?k45 ?a46 ?l46 ?c46 ?k46 ?a47 ?l47 ?c47 ?k47 ?z_bool ?z_int ?z_isinstance ?z_len ?z_list ?z_property ?z_range ?z_str ?z_sum ?z_tuple ?g_CT ?pg_CT ?hd_CT ?po_CT ?sa_CT ?mk_CT ?kc_CT ?g_CS ?pg_CS ?hd_CS ?po_CS ?sa_CS ?mk_CS ?kc_CS ?g_CH ?pg_CH ?hd_CH ?po_CH ?sa_CH ?mk_CH ?kc_CH ?n_CT_kind ?n_CT_tag ?n_CT_slots ?n_CT_age ?n_CS_things ?n_CH_things ?n_CH_young_many ?n_CH_old_many ?n_CH_marked ?rd ?ga ?vk ?lk ?wk ?uk
    (case g_CT => k_is)
    (case g_CS => k_is)
    (case g_CH => k_is)
    (case a1 => k_is)
    (case l1 => k_is)
    (case c1 => k_is)
    (case k1 => k_is)
    (case a2 => k_is)
    (case i2 => k_is)
    (case l2 => k_is)
    (case c2 => k_is)
    (case k2 => k_is)
    (case a3 => k_is)
    (case i3 => k_is)
    (case v3 => k_is)
    (case l3 => k_is)
    (case c3 => k_is)
    (case k3 => k_is)
    (case a4 => k_is)
    (case i4 => k_is)
    (case l4 => k_is)
    (case c4 => k_is)
    (case k4 => k_is)
    (case a5 => k_is)
    (case i5 => k_is)
    (case l5 => k_is)
    (case c5 => k_is)
    (case k5 => k_is)
    (case a6 => k_is)
    (case i6 => k_is)
    (case h6 => k_is)
    (case l6 => k_is)
    (case c6 => k_is)
    (case k6 => k_is)
    (case a7 => k_is)
    (case i7 => k_is)
    (case h7 => k_is)
    (case l7 => k_is)
    (case c7 => k_is)
    (case k7 => k_is)
    (case a8 => k_is)
    (case i8 => k_is)
    (case h8 => k_is)
    (case l8 => k_is)
    (case c8 => k_is)
    (case k8 => k_is)
    (case a9 => k_is)
    (case i9 => k_is)
    (case h9 => k_is)
    (case l9 => k_is)
    (case c9 => k_is)
    (case k9 => k_is)
    (case a10 => k_is)
    (case i10 => k_is)
    (case l10 => k_is)
    (case c10 => k_is)
    (case k10 => k_is)
    (case a11 => k_is)
    (case i11 => k_is)
    (case l11 => k_is)
    (case c11 => k_is)
    (case k11 => k_is)
    (case a12 => k_is)
    (case l12 => k_is)
    (case c12 => k_is)
    (case k12 => k_is)
    (case a13 => k_is)
    (case i13 => k_is)
    (case l13 => k_is)
    (case c13 => k_is)
    (case k13 => k_is)
    (case a14 => k_is)
    (case i14 => k_is)
    (case l14 => k_is)
    (case c14 => k_is)
    (case k14 => k_is)
    (case a15 => k_is)
    (case i15 => k_is)
    (case l15 => k_is)
    (case c15 => k_is)
    (case k15 => k_is)
    (case a16 => k_is)
    (case i16 => k_is)
    (case l16 => k_is)
    (case c16 => k_is)
    (case k16 => k_is)
    (case a17 => k_is)
    (case i17 => k_is)
    (case l17 => k_is)
    (case c17 => k_is)
    (case k17 => k_is)
    (case a18 => k_is)
    (case i18 => k_is)
    (case l18 => k_is)
    (case c18 => k_is)
    (case k18 => k_is)
    (case a19 => k_is)
    (case l19 => k_is)
    (case c19 => k_is)
    (case k19 => k_is)
    (case a20 => k_is)
    (case l20 => k_is)
    (case c20 => k_is)
    (case k20 => k_is)
    (case a21 => k_is)
    (case l21 => k_is)
    (case c21 => k_is)
    (case k21 => k_is)
    (case a22 => k_is)
    (case l22 => k_is)
    (case c22 => k_is)
    (case k22 => k_is)
    (case a23 => k_is)
    (case l23 => k_is)
    (case c23 => k_is)
    (case k23 => k_is)
    (case a24 => k_is)
    (case l24 => k_is)
    (case c24 => k_is)
    (case k24 => k_is)
    (case a25 => k_is)
    (case l25 => k_is)
    (case c25 => k_is)
    (case k25 => k_is)
    (case a26 => k_is)
    (case l26 => k_is)
    (case c26 => k_is)
    (case k26 => k_is)
    (case a27 => k_is)
    (case l27 => k_is)
    (case c27 => k_is)
    (case k27 => k_is)
    (case a28 => k_is)
    (case l28 => k_is)
    (case c28 => k_is)
    (case k28 => k_is)
    (case a29 => k_is)
    (case l29 => k_is)
    (case c29 => k_is)
    (case k29 => k_is)
    (case a30 => k_is)
    (case l30 => k_is)
    (case c30 => k_is)
    (case k30 => k_is)
    (case a31 => k_is)
    (case l31 => k_is)
    (case c31 => k_is)
    (case k31 => k_is)
    (case a32 => k_is)
    (case l32 => k_is)
    (case c32 => k_is)
    (case k32 => k_is)
    (case a33 => k_is)
    (case l33 => k_is)
    (case c33 => k_is)
    (case k33 => k_is)
    (case a34 => k_is)
    (case l34 => k_is)
    (case c34 => k_is)
    (case k34 => k_is)
    (case a35 => k_is)
    (case l35 => k_is)
    (case c35 => k_is)
    (case k35 => k_is)
    (case a36 => k_is)
    (case l36 => k_is)
    (case c36 => k_is)
    (case k36 => k_is)
    (case a37 => k_is)
    (case l37 => k_is)
    (case c37 => k_is)
    (case k37 => k_is)
    (case a38 => k_is)
    (case l38 => k_is)
    (case c38 => k_is)
    (case k38 => k_is)
    (case a39 => k_is)
    (case l39 => k_is)
    (case c39 => k_is)
    (case k39 => k_is)
    (case a40 => k_is)
    (case l40 => k_is)
    (case c40 => k_is)
    (case k40 => k_is)
    (case a41 => k_is)
    (case l41 => k_is)
    (case c41 => k_is)
    (case k41 => k_is)
    (case a42 => k_is)
    (case l42 => k_is)
    (case c42 => k_is)
    (case k42 => k_is)
    (case a43 => k_is)
    (case l43 => k_is)
    (case c43 => k_is)
    (case k43 => k_is)
    (case a44 => k_is)
    (case l44 => k_is)
    (case c44 => k_is)
    (case k44 => k_is)
    (case a45 => k_is)
    (case l45 => k_is)
    (case c45 => k_is)
    (case k45 => k_is)
    (case a46 => k_is)
    (case l46 => k_is)
    (case c46 => k_is)
    (case k46 => k_is)
    (case a47 => k_is)
    (case l47 => k_is)
    (case c47 => k_is)
    (case k47 => k_is)
    (case z_bool => k_is)
    (case z_int => k_is)
    (case z_isinstance => k_is)
    (case z_len => k_is)
    (case z_list => k_is)
    (case z_property => k_is)
    (case z_range => k_is)
    (case z_str => k_is)
    (case z_sum => k_is)
    (case z_tuple => k_is)
    (case pg_CT => k_is)
    (case hd_CT => k_is)
    (case po_CT => k_is)
    (case sa_CT => k_is)
    (case mk_CT => k_is)
    (case kc_CT => k_is)
    (case pg_CS => k_is)
    (case hd_CS => k_is)
    (case po_CS => k_is)
    (case sa_CS => k_is)
    (case mk_CS => k_is)
    (case kc_CS => k_is)
    (case pg_CH => k_is)
    (case hd_CH => k_is)
    (case po_CH => k_is)
    (case sa_CH => k_is)
    (case mk_CH => k_is)
    (case kc_CH => k_is)
    (case n_CT_kind => k_is)
    (case n_CT_tag => k_is)
    (case n_CT_slots => k_is)
    (case n_CT_age => k_is)
    (case n_CS_things => k_is)
    (case n_CH_things => k_is)
    (case n_CH_young_many => k_is)
    (case n_CH_old_many => k_is)
    (case n_CH_marked => k_is)
    (case rd => k_is)
    (case ga => k_is)
    (case vk => k_is)
    (case lk => k_is)
    (case wk => rfl)
    (case uk => decide)
