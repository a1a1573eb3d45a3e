import PyProof.Rows.All
import Wide.All
import OpenK.AllK
import Wide.FinOn
import PyProof.EqAt
import PyProof.EqKinds
import PyProof.TupleCall
import HandS.ForExc
import HandS.ForMost
import HandS.StrMore
import HandS.IsInst
import HandS.ExcIs
import HandS.Style
import HandS.Wide
import HandS.ReplaceLit
import HandS.ReplaceList
import HandS.ReplaceDef
import HandS.Codes
import HandS.Walk
import HandS.More
import PySem.Challenge.RW_likerun_k04_whole_datum_notes
import Open.SpecLaws
import KE.OsGo
set_option Elab.async false
set_option linter.all false
set_option maxRecDepth 100000
namespace D4
open PySem PySem.Spec PyProof.Rows L2
def top (i : Nat) : Stmt := PySem.Challenge.pw_likerun_k04_whole_datum_notes.main.body.getD i (.Pass ⟨0, 0, 0, 0⟩)
abbrev s_is_row : Stmt := top 7
abbrev n_is_row : List Str := ["text", "sign"]
abbrev p_is_row : List Str := ["text"]
theorem sc_is_row : FnScope n_is_row p_is_row (defScope s_is_row) := ⟨rfl, rfl, rfl, by decide +kernel, rfl, by decide +kernel, by decide +kernel⟩
abbrev s_is_digit : Stmt := top 8
abbrev n_is_digit : List Str := ["sign"]
abbrev p_is_digit : List Str := ["sign"]
theorem sc_is_digit : FnScope n_is_digit p_is_digit (defScope s_is_digit) := ⟨rfl, rfl, rfl, by decide +kernel, rfl, by decide +kernel, by decide +kernel⟩
abbrev s_digits_end : Stmt := top 9
abbrev n_digits_end : List Str := ["text", "start", "stop"]
abbrev p_digits_end : List Str := ["text", "start"]
theorem sc_digits_end : FnScope n_digits_end p_digits_end (defScope s_digits_end) := ⟨rfl, rfl, rfl, by decide +kernel, rfl, by decide +kernel, by decide +kernel⟩
abbrev s_quoted : Stmt := top 10
abbrev n_quoted : List Str := ["text", "inner"]
abbrev p_quoted : List Str := ["text"]
theorem sc_quoted : FnScope n_quoted p_quoted (defScope s_quoted) := ⟨rfl, rfl, rfl, by decide +kernel, rfl, by decide +kernel, by decide +kernel⟩
abbrev s_write_datum : Stmt := top 15
abbrev n_write_datum : List Str := ["datum", "item"]
abbrev p_write_datum : List Str := ["datum"]
theorem sc_write_datum : FnScope n_write_datum p_write_datum (defScope s_write_datum) := ⟨rfl, rfl, rfl, by decide +kernel, rfl, by decide +kernel, by decide +kernel⟩
abbrev s_read_datum : Stmt := top 16
abbrev n_read_datum : List Str := ["text", "datum", "stop"]
abbrev p_read_datum : List Str := ["text"]
theorem sc_read_datum : FnScope n_read_datum p_read_datum (defScope s_read_datum) := ⟨rfl, rfl, rfl, by decide +kernel, rfl, by decide +kernel, by decide +kernel⟩
abbrev s_read_part : Stmt := top 17
abbrev n_read_part : List Str := ["text", "start", "depth", "sign"]
abbrev p_read_part : List Str := ["text", "start", "depth"]
theorem sc_read_part : FnScope n_read_part p_read_part (defScope s_read_part) := ⟨rfl, rfl, rfl, by decide +kernel, rfl, by decide +kernel, by decide +kernel⟩
abbrev s_read_items : Stmt := top 18
abbrev n_read_items : List Str := ["text", "start", "depth", "items", "at", "item"]
abbrev p_read_items : List Str := ["text", "start", "depth"]
theorem sc_read_items : FnScope n_read_items p_read_items (defScope s_read_items) := ⟨rfl, rfl, rfl, by decide +kernel, rfl, by decide +kernel, by decide +kernel⟩
abbrev s_behind_space : Stmt := top 19
abbrev n_behind_space : List Str := ["text", "at"]
abbrev p_behind_space : List Str := ["text", "at"]
theorem sc_behind_space : FnScope n_behind_space p_behind_space (defScope s_behind_space) := ⟨rfl, rfl, rfl, by decide +kernel, rfl, by decide +kernel, by decide +kernel⟩
abbrev s_read_text : Stmt := top 20
abbrev n_read_text : List Str := ["text", "start", "stop", "inner"]
abbrev p_read_text : List Str := ["text", "start"]
theorem sc_read_text : FnScope n_read_text p_read_text (defScope s_read_text) := ⟨rfl, rfl, rfl, by decide +kernel, rfl, by decide +kernel, by decide +kernel⟩
abbrev s_read_escaped : Stmt := top 21
abbrev n_read_escaped : List Str := ["text", "start", "parts", "at", "sign"]
abbrev p_read_escaped : List Str := ["text", "start"]
theorem sc_read_escaped : FnScope n_read_escaped p_read_escaped (defScope s_read_escaped) := ⟨rfl, rfl, rfl, by decide +kernel, rfl, by decide +kernel, by decide +kernel⟩
abbrev s_read_number : Stmt := top 22
abbrev n_read_number : List Str := ["text", "start", "first", "stop"]
abbrev p_read_number : List Str := ["text", "start"]
theorem sc_read_number : FnScope n_read_number p_read_number (defScope s_read_number) := ⟨rfl, rfl, rfl, by decide +kernel, rfl, by decide +kernel, by decide +kernel⟩
abbrev s_read_word : Stmt := top 23
abbrev n_read_word : List Str := ["text", "start"]
abbrev p_read_word : List Str := ["text", "start"]
theorem sc_read_word : FnScope n_read_word p_read_word (defScope s_read_word) := ⟨rfl, rfl, rfl, by decide +kernel, rfl, by decide +kernel, by decide +kernel⟩
abbrev s__law_bag : Stmt := top 25
abbrev n__law_bag : List Str := ["script", "at", "cell", "seed", "one"]
abbrev p__law_bag : List Str := ["script", "at"]
theorem sc__law_bag : FnScope n__law_bag p__law_bag (defScope s__law_bag) := ⟨rfl, rfl, rfl, by decide +kernel, rfl, by decide +kernel, by decide +kernel⟩
abbrev s__law_take : Stmt := top 26
abbrev n__law_take : List Str := ["bag", "size", "got", "first", "second"]
abbrev p__law_take : List Str := ["bag", "size"]
theorem sc__law_take : FnScope n__law_take p__law_take (defScope s__law_take) := ⟨rfl, rfl, rfl, by decide +kernel, rfl, by decide +kernel, by decide +kernel⟩
abbrev s__law_whole : Stmt := top 27
abbrev n__law_whole : List Str := ["value"]
abbrev p__law_whole : List Str := ["value"]
theorem sc__law_whole : FnScope n__law_whole p__law_whole (defScope s__law_whole) := ⟨rfl, rfl, rfl, by decide +kernel, rfl, by decide +kernel, by decide +kernel⟩
abbrev s__law_allowed : Stmt := top 28
abbrev n__law_allowed : List Str := ["first"]
abbrev p__law_allowed : List Str := []
theorem sc__law_allowed : FnScope n__law_allowed p__law_allowed (defScope s__law_allowed) := ⟨rfl, rfl, rfl, by decide +kernel, rfl, by decide +kernel, by decide +kernel⟩
abbrev s__law_integer : Stmt := top 29
abbrev n__law_integer : List Str := ["bag", "size", "built", "turn"]
abbrev p__law_integer : List Str := ["bag"]
theorem sc__law_integer : FnScope n__law_integer p__law_integer (defScope s__law_integer) := ⟨rfl, rfl, rfl, by decide +kernel, rfl, by decide +kernel, by decide +kernel⟩
abbrev s__law_string : Stmt := top 30
abbrev n__law_string : List Str := ["bag", "signs", "size", "built", "turn", "sign"]
abbrev p__law_string : List Str := ["bag"]
theorem sc__law_string : FnScope n__law_string p__law_string (defScope s__law_string) := ⟨rfl, rfl, rfl, by decide +kernel, rfl, by decide +kernel, by decide +kernel⟩
abbrev s__law_leaf : Stmt := top 31
abbrev n__law_leaf : List Str := ["bag", "way"]
abbrev p__law_leaf : List Str := ["bag"]
theorem sc__law_leaf : FnScope n__law_leaf p__law_leaf (defScope s__law_leaf) := ⟨rfl, rfl, rfl, by decide +kernel, rfl, by decide +kernel, by decide +kernel⟩
abbrev s__law_grouped : Stmt := top 32
abbrev n__law_grouped : List Str := ["parts", "deepest", "part"]
abbrev p__law_grouped : List Str := ["parts"]
theorem sc__law_grouped : FnScope n__law_grouped p__law_grouped (defScope s__law_grouped) := ⟨rfl, rfl, rfl, by decide +kernel, rfl, by decide +kernel, by decide +kernel⟩
abbrev s__law_datum : Stmt := top 33
abbrev n__law_datum : List Str := ["bag", "parts", "many", "turn", "at", "built"]
abbrev p__law_datum : List Str := ["bag"]
theorem sc__law_datum : FnScope n__law_datum p__law_datum (defScope s__law_datum) := ⟨rfl, rfl, rfl, by decide +kernel, rfl, by decide +kernel, by decide +kernel⟩
abbrev s__law_quoted : Stmt := top 34
abbrev n__law_quoted : List Str := ["word", "written", "sign"]
abbrev p__law_quoted : List Str := ["word"]
theorem sc__law_quoted : FnScope n__law_quoted p__law_quoted (defScope s__law_quoted) := ⟨rfl, rfl, rfl, by decide +kernel, rfl, by decide +kernel, by decide +kernel⟩
abbrev s__law_note : Stmt := top 35
abbrev n__law_note : List Str := ["datum", "part"]
abbrev p__law_note : List Str := ["datum"]
theorem sc__law_note : FnScope n__law_note p__law_note (defScope s__law_note) := ⟨rfl, rfl, rfl, by decide +kernel, rfl, by decide +kernel, by decide +kernel⟩
abbrev s__law_same : Stmt := top 36
abbrev n__law_same : List Str := ["told", "due", "at"]
abbrev p__law_same : List Str := ["told", "due"]
theorem sc__law_same : FnScope n__law_same p__law_same (defScope s__law_same) := ⟨rfl, rfl, rfl, by decide +kernel, rfl, by decide +kernel, by decide +kernel⟩
abbrev s__law_is_datum : Stmt := top 37
abbrev n__law_is_datum : List Str := ["told", "room", "part"]
abbrev p__law_is_datum : List Str := ["told", "room"]
theorem sc__law_is_datum : FnScope n__law_is_datum p__law_is_datum (defScope s__law_is_datum) := ⟨rfl, rfl, rfl, by decide +kernel, rfl, by decide +kernel, by decide +kernel⟩
abbrev s__law_string_end : Stmt := top 38
abbrev n__law_string_end : List Str := ["note", "at", "signs", "upto", "k"]
abbrev p__law_string_end : List Str := ["note", "at"]
theorem sc__law_string_end : FnScope n__law_string_end p__law_string_end (defScope s__law_string_end) := ⟨rfl, rfl, rfl, by decide +kernel, rfl, by decide +kernel, by decide +kernel⟩
abbrev s__law_leaf_end : Stmt := top 39
abbrev n__law_leaf_end : List Str := ["note", "at", "word", "start", "upto"]
abbrev p__law_leaf_end : List Str := ["note", "at"]
theorem sc__law_leaf_end : FnScope n__law_leaf_end p__law_leaf_end (defScope s__law_leaf_end) := ⟨rfl, rfl, rfl, by decide +kernel, rfl, by decide +kernel, by decide +kernel⟩
abbrev s__law_is_note : Stmt := top 40
abbrev n__law_is_note : List Str := ["note", "depth", "at", "due", "turn", "sign"]
abbrev p__law_is_note : List Str := ["note"]
theorem sc__law_is_note : FnScope n__law_is_note p__law_is_note (defScope s__law_is_note) := ⟨rfl, rfl, rfl, by decide +kernel, rfl, by decide +kernel, by decide +kernel⟩
abbrev s__law_odd_note : Stmt := top 41
abbrev n__law_odd_note : List Str := ["bag", "notes"]
abbrev p__law_odd_note : List Str := ["bag"]
theorem sc__law_odd_note : FnScope n__law_odd_note p__law_odd_note (defScope s__law_odd_note) := ⟨rfl, rfl, rfl, by decide +kernel, rfl, by decide +kernel, by decide +kernel⟩
abbrev s__law_around : Stmt := top 42
abbrev n__law_around : List Str := ["bag", "built", "way", "size", "deep"]
abbrev p__law_around : List Str := ["bag", "built"]
theorem sc__law_around : FnScope n__law_around p__law_around (defScope s__law_around) := ⟨rfl, rfl, rfl, by decide +kernel, rfl, by decide +kernel, by decide +kernel⟩
abbrev s__law_spoiled : Stmt := top 43
abbrev n__law_spoiled : List Str := ["bag", "built", "note", "way", "at", "many", "signs", "sign"]
abbrev p__law_spoiled : List Str := ["bag", "built"]
theorem sc__law_spoiled : FnScope n__law_spoiled p__law_spoiled (defScope s__law_spoiled) := ⟨rfl, rfl, rfl, by decide +kernel, rfl, by decide +kernel, by decide +kernel⟩
abbrev s__law_is_refused : Stmt := top 44
abbrev n__law_is_refused : List Str := ["note", "raised"]
abbrev p__law_is_refused : List Str := ["note"]
theorem sc__law_is_refused : FnScope n__law_is_refused p__law_is_refused (defScope s__law_is_refused) := ⟨rfl, rfl, rfl, by decide +kernel, rfl, by decide +kernel, by decide +kernel⟩
abbrev s__law_is_read : Stmt := top 45
abbrev n__law_is_read : List Str := ["note", "told", "again"]
abbrev p__law_is_read : List Str := ["note"]
theorem sc__law_is_read : FnScope n__law_is_read p__law_is_read (defScope s__law_is_read) := ⟨rfl, rfl, rfl, by decide +kernel, rfl, by decide +kernel, by decide +kernel⟩
abbrev s_law : Stmt := top 46
abbrev n_law : List Str := ["script", "bag", "built", "note", "turn"]
abbrev p_law : List Str := ["script"]
theorem sc_law : FnScope n_law p_law (defScope s_law) := ⟨rfl, rfl, rfl, by decide +kernel, rfl, by decide +kernel, by decide +kernel⟩
end D4
namespace D4
open PySem PySem.Spec PyProof.Rows L2
theorem _root_.L2.Fun.lk {K : PySem.W.Frag} {x q : Str} {st : Stmt} {f : Addr} {fd : FuncData} (F : Fun K x q st f fd) : ∃ oc od osl, K.lookup f = some ⟨oc, od, .func fd, osl⟩ := by
  obtain ⟨oc, od, kV, doc, pm, an, cdv, ct, osl, e, lk, _⟩ := F.ex
  exact ⟨oc, od, osl, lk⟩
/-- the def named x keeps the promise sp -/
def OkD (P : Program) (w : World) (K : PySem.W.Frag) (mg : Str → Option Value) (base : Heap) (CX : CXT) (k : Nat) (x : Str) (ps : List Str) (sp : Sp) : Prop :=
  ∃ f fd, mg x = some (.ref f) ∧ PySem.W.keepIn K (.ref f) = true ∧ Binds K fd ps [] ∧ (∃ oc od osl, K.lookup f = some ⟨oc, od, .func fd, osl⟩) ∧ FnOk P w K mg base CX k f fd ps sp
theorem OkD.mono {P w K mg base CX j k x ps sp} (O : OkD P w K mg base CX j x ps sp) (h : j ≤ k) : OkD P w K mg base CX k x ps sp := by
  obtain ⟨f, fd, a, b, c, d, F⟩ := O
  exact ⟨f, fd, a, b, c, d, F.mono h⟩
/-- the def named x stands in the text as st -/
def Gv (K : PySem.W.Frag) (mg : Str → Option Value) (x : Str) (st : Stmt) (ps : List Str) : Prop :=
  ∃ f fd, Fun K x x st f fd ∧ mg x = some (.ref f) ∧ Binds K fd ps []
section
variable {X : Cx} {CX : CXT} {k j : Nat} {ps : List Str} {sp : Sp} {E : XK} {x : Str} {p pos : Pos} {e : Expr} {es : List Expr} {t : TA}
theorem pcallE (O : OkD X.prog X.w X.K X.mg X.base CX k x ps sp) (hr : Room j X.A) (hx : Passes CX X E) (ha : PA X (e :: es) t) (hj : k ≤ j := by first | decide | omega) (hg : Gl X x := by rfl)
    (hdb : (x == ("__debug__" : Str)) = false := by decide) (he : starEach (e :: es) X.env = (false, eval e X.env) :: starEach es X.env := by rfl) (hpl : (backTo pos (starEach es X.env)).any (·.1) = false := by rfl) :
    PE X (.Call (.Name x p) (e :: es) [] pos) (tCall sp [] E t) := by
  obtain ⟨f, fd, hm, hk, hb, _, F⟩ := O
  exact pe_call F (hr.mono hj) hg hm hk hb .nil hx ha hdb he hpl
theorem pcall (O : OkD X.prog X.w X.K X.mg X.base CX0 k x ps sp) (hr : Room j X.A) (ha : PA X (e :: es) t) (hj : k ≤ j := by first | decide | omega) (hg : Gl X x := by rfl)
    (hdb : (x == ("__debug__" : Str)) = false := by decide) (he : starEach (e :: es) X.env = (false, eval e X.env) :: starEach es X.env := by rfl) (hpl : (backTo pos (starEach es X.env)).any (·.1) = false := by rfl) :
    PE X (.Call (.Name x p) (e :: es) [] pos) (tCall sp [] E0 t) := pcallE O hr pass0 ha hj hg hdb he hpl
theorem pcall0 (O : OkD X.prog X.w X.K X.mg X.base CX0 k x ps sp) (hr : Room j X.A) (hj : k ≤ j := by first | decide | omega) (hg : Gl X x := by rfl)
    (hdb : (x == ("__debug__" : Str)) = false := by decide) :
    PE X (.Call (.Name x p) [] [] pos) (tCall sp [] E0 tNil) := by
  obtain ⟨f, fd, hm, hk, hb, _, F⟩ := O
  exact pe_call0 F (hr.mono hj) hg hm hk hb .nil pass0 hdb
end
section
variable {P : Program} {w : World} {K : PySem.W.Frag} {mg : Str → Option Value} {base : Heap}
theorem Gv.ok {x : Str} {st : Stmt} {N ps : List Str} {k : Nat} {sp : Sp} (G : Gv K mg x st ps) (S : FnScope N ps (defScope st)) (len : ∀ vs H Q E, sp vs H Q E → vs.length = ps.length)
    (hbody : ∀ (f : Addr) (cdv : Value) (A : Around) (outer : List Env) (s : Shared) (H : Hp) (vs : List V) (Q : VK) (E : XK), Room k (A.deeper (envOfC x (defScope st) s.heap.objs.size f cdv)) → sp vs H Q E →
      ∃ t, PSs (cxOf CX0 P w K mg base N x (defScope st) f cdv A outer s H E).nox (defBody st) t ∧ t { nx := fun _ H' => Q .non H', rt := Q } (start N vs) H) : OkD P w K mg base CX0 (k + 1) x ps sp := by
  obtain ⟨f, fd, F, hm, hb⟩ := G
  exact ⟨f, fd, hm, F.kp, hb, F.lk, F.ok S len (hbody f)⟩
theorem Gv.okX {x : Str} {st : Stmt} {N ps : List Str} {k : Nat} {sp : Sp} (G : Gv K mg x st ps) (S : FnScope N ps (defScope st)) (len : ∀ vs H Q E, sp vs H Q E → vs.length = ps.length)
    (hbody : ∀ (f : Addr) (cdv : Value) (A : Around) (outer : List Env) (s : Shared) (H : Hp) (vs : List V) (Q : VK) (E : XK), Room k (A.deeper (envOfC x (defScope st) s.heap.objs.size f cdv)) → sp vs H Q E →
      ∃ t, PSs (cxOf (L2.CX P w) P w K mg base N x (defScope st) f cdv A outer s H E) (defBody st) t ∧ t { nx := fun _ H' => Q .non H', rt := Q } (start N vs) H) : OkD P w K mg base (L2.CX P w) (k + 1) x ps sp := by
  obtain ⟨f, fd, F, hm, hb⟩ := G
  exact ⟨f, fd, hm, F.kp, hb, F.lk, F.okX S len (hbody f)⟩
theorem Gv.okT {x : Str} {st : Stmt} {N ps : List Str} {k : Nat} {sp : Sp} (G : Gv K mg x st ps) (S : FnScope N ps (defScope st)) (hnc : ∀ y ∈ (defScope st).names, y.2 ≠ .cell) (hps : 1 ≤ ps.length) (len : ∀ vs H Q E, sp vs H Q E → vs.length = ps.length)
    (hbody : ∀ (f : Addr) (cdv : Value) (A : Around) (outer : List Env) (s : Shared) (H : Hp) (vs : List V) (Q : VK) (E : XK), Room k (A.deeper (envOfC x (defScope st) s.heap.objs.size f cdv)) → sp vs H Q E →
      ∃ t, PSsT (cxOf CX0 P w K mg base N x (defScope st) f cdv A outer s H E) (defBody st) t ∧ t { nx := fun _ H' => Q .non H', rt := Q } (start N vs) H) : OkD P w K mg base CX0 (k + 1) x ps sp := by
  obtain ⟨f, fd, F, hm, hb⟩ := G
  obtain ⟨oc, od, kV, doc, pm, an, cdv, ct, osl, rfl, lk, hcd⟩ := F.ex
  exact ⟨f, _, hm, F.kp, hb, ⟨_, _, _, lk⟩, fn_ofT lk hcd S hnc hps len (hbody f cdv)⟩
end
theorem pe_gI {X : Cx} {x : Str} {n : Int} {pos : Pos} (h : ∃ t, X.mg x = some (.int n t)) (hg : Gl X x := by rfl) (hd : (x == ("__debug__" : Str)) = false := by decide) : PE X (.Name x pos) (tC (.int n)) := by
  obtain ⟨t, h⟩ := h
  exact pe_glob hg h (show RelV (.int n) _ from ⟨t, rfl⟩) hd
/-- is True, is False: of any value -/
theorem op_isTF {X : Cx} : OpR X (compareOp .Is) (fun x y H Q => ∃ b, y = .bl b ∧ Q (.bl (decide (x = .bl b))) H) := by
  intro pins s σ H x y v u Q I rx ry h
  obtain ⟨b, rfl, q⟩ := h
  cases (show u = Value.bool b from ry)
  by_cases e : x = .bl b
  · subst e
    cases (show v = Value.bool b from rx)
    exact wpAny_is_self rfl ⟨.bl true, H, I, rfl, by simpa using q⟩
  · have hp : plainIs v (Value.bool b) = true ∧ v ≠ Value.bool b := by
      cases x with
      | bl c => cases (show v = Value.bool c from rx); exact ⟨rfl, fun z => e (by cases z; rfl)⟩
      | non => cases (show v = Value.none from rx); exact ⟨rfl, fun z => nomatch z⟩
      | ref a => cases (show v = Value.ref a from rx); exact ⟨rfl, fun z => nomatch z⟩
      | ty n => cases (show v = Value.type n from rx); exact ⟨rfl, fun z => nomatch z⟩
      | int i => obtain ⟨t, rfl⟩ := rx; exact ⟨rfl, fun z => nomatch z⟩
      | str i => obtain ⟨t, rfl⟩ := rx; exact ⟨rfl, fun z => nomatch z⟩
      | byt i => obtain ⟨t, rfl⟩ := rx; exact ⟨rfl, fun z => nomatch z⟩
      | flt i => obtain ⟨t, rfl⟩ := rx; exact ⟨rfl, fun z => nomatch z⟩
    exact wpAny_is_other hp.1 hp.2 ⟨.bl false, H, I, rfl, by simpa [e] using q⟩
/-- the error classes: BadDatum at CB, LikerunError at CL, BadSave at CS, SourceError at CR -/
structure ExcT (K : PySem.W.Frag) (mg : Str → Option Value) (CB : Addr) : Prop where
  gB : mg "BadDatum" = some (.ref CB)
  xB : PySem.W.excIn K CB [.type "ValueError", .type "Exception", .type "BaseException", .type "object"] "ValueError.__new__" = true
  kB : PySem.W.keepIn K (.ref CB) = true
  bB : PySem.W.subIn K (.ref CB) (.type "BaseException") = some true
  tB : PySem.W.typeIn K (.ref CB) = some (.type "type")
/-- THE TEXT -/
structure Txt (K : PySem.W.Frag) (mg : Str → Option Value) : Prop where
  z_ValueError : mg "ValueError" = none
  z_abs : mg "abs" = none
  z_bool : mg "bool" = none
  z_int : mg "int" = none
  z_isinstance : mg "isinstance" = none
  z_len : mg "len" = none
  z_max : mg "max" = none
  z_min : mg "min" = none
  z_ord : mg "ord" = none
  z_range : mg "range" = none
  z_str : mg "str" = none
  z_tuple : mg "tuple" = none
  g_is_row : Gv K mg "is_row" s_is_row p_is_row
  g_is_digit : Gv K mg "is_digit" s_is_digit p_is_digit
  g_digits_end : Gv K mg "digits_end" s_digits_end p_digits_end
  g_quoted : Gv K mg "quoted" s_quoted p_quoted
  g_write_datum : Gv K mg "write_datum" s_write_datum p_write_datum
  g_read_datum : Gv K mg "read_datum" s_read_datum p_read_datum
  g_read_part : Gv K mg "read_part" s_read_part p_read_part
  g_read_items : Gv K mg "read_items" s_read_items p_read_items
  g_behind_space : Gv K mg "behind_space" s_behind_space p_behind_space
  g_read_text : Gv K mg "read_text" s_read_text p_read_text
  g_read_escaped : Gv K mg "read_escaped" s_read_escaped p_read_escaped
  g_read_number : Gv K mg "read_number" s_read_number p_read_number
  g_read_word : Gv K mg "read_word" s_read_word p_read_word
  g__law_bag : Gv K mg "_law_bag" s__law_bag p__law_bag
  g__law_take : Gv K mg "_law_take" s__law_take p__law_take
  g__law_whole : Gv K mg "_law_whole" s__law_whole p__law_whole
  g__law_allowed : Gv K mg "_law_allowed" s__law_allowed p__law_allowed
  g__law_integer : Gv K mg "_law_integer" s__law_integer p__law_integer
  g__law_string : Gv K mg "_law_string" s__law_string p__law_string
  g__law_leaf : Gv K mg "_law_leaf" s__law_leaf p__law_leaf
  g__law_grouped : Gv K mg "_law_grouped" s__law_grouped p__law_grouped
  g__law_datum : Gv K mg "_law_datum" s__law_datum p__law_datum
  g__law_quoted : Gv K mg "_law_quoted" s__law_quoted p__law_quoted
  g__law_note : Gv K mg "_law_note" s__law_note p__law_note
  g__law_same : Gv K mg "_law_same" s__law_same p__law_same
  g__law_is_datum : Gv K mg "_law_is_datum" s__law_is_datum p__law_is_datum
  g__law_string_end : Gv K mg "_law_string_end" s__law_string_end p__law_string_end
  g__law_leaf_end : Gv K mg "_law_leaf_end" s__law_leaf_end p__law_leaf_end
  g__law_is_note : Gv K mg "_law_is_note" s__law_is_note p__law_is_note
  g__law_odd_note : Gv K mg "_law_odd_note" s__law_odd_note p__law_odd_note
  g__law_around : Gv K mg "_law_around" s__law_around p__law_around
  g__law_spoiled : Gv K mg "_law_spoiled" s__law_spoiled p__law_spoiled
  g__law_is_refused : Gv K mg "_law_is_refused" s__law_is_refused p__law_is_refused
  g__law_is_read : Gv K mg "_law_is_read" s__law_is_read p__law_is_read
  g_law : Gv K mg "law" s_law p_law
  c_PERCENT : ∃ t, mg "PERCENT" = some (.int 37 t)
  c_DIGIT_LIMIT : ∃ t, mg "DIGIT_LIMIT" = some (.int 80 t)
  c_DEPTH_LIMIT : ∃ t, mg "DEPTH_LIMIT" = some (.int 60 t)
end D4
namespace D4
open PySem PySem.Spec PyProof.Rows L2 SX
def isDig (c : Nat) : Bool := decide (48 ≤ c ∧ c ≤ 57)
def spIsDigit : Sp := fun vs H Q _ => ∃ l : List Nat, vs = [.str (S l)] ∧ l.length ≤ 1 ∧ Q (.bl (l.any isDig)) H
/-- texts of the program are below this -/
abbrev big : Nat := 1000000
theorem big_line {n : Nat} (h : n ≤ big) : n ≤ sizeLine := by
  have : big ≤ sizeLine := by decide
  omega
theorem S_line {l : List Nat} (h : l.length ≤ big) : (S l).length ≤ sizeLine := by rw [S_len]; exact big_line h
def spDigitsEnd : Sp := fun vs H Q _ => ∃ (l : List Nat) (i : Nat), vs = [.str (S l), .int i] ∧ l.length ≤ big ∧ i ≤ l.length ∧ Q (.int ((i + ((l.drop i).takeWhile isDig).length : Nat) : Int)) H
theorem at_S {l : List Nat} {i : Nat} {c : Nat} (h : l[i]? = some c) : atI (S l).cps.toList (i : Int) = some c := by
  exact atI_nat h
theorem lex1 (a b : Nat) : decide ([a] < [b]) = decide (a < b) := by
  by_cases h : a < b
  · rw [decide_eq_true h]; exact decide_eq_true (List.Lex.rel h)
  · rw [decide_eq_false h]
    refine decide_eq_false fun z => ?_
    cases z with
    | rel r => exact h r
    | cons r => cases r
theorem tw_step {l : List Nat} {k c : Nat} (h : l[k]? = some c) (d : isDig c = true) : k + ((l.drop k).takeWhile isDig).length = (k + 1) + ((l.drop (k + 1)).takeWhile isDig).length := by
  obtain ⟨hk, e⟩ := List.getElem?_eq_some_iff.mp h
  rw [List.drop_eq_getElem_cons hk, e, List.takeWhile_cons, if_pos d, List.length_cons]
  omega
theorem tw_stop {l : List Nat} {k c : Nat} (h : l[k]? = some c) (d : isDig c = false) : ((l.drop k).takeWhile isDig).length = 0 := by
  obtain ⟨hk, e⟩ := List.getElem?_eq_some_iff.mp h
  rw [List.drop_eq_getElem_cons hk, e, List.takeWhile_cons, if_neg (by rw [d]; exact Bool.false_ne_true)]
  rfl
section
variable {P : Program} {w : World} {K : PySem.W.Frag} {mg : Str → Option Value} {base : Heap}
theorem ok_is_digit (G : Gv K mg "is_digit" s_is_digit p_is_digit) : OkD P w K mg base CX0 1 "is_digit" p_is_digit spIsDigit := by
  refine G.ok sc_is_digit (fun vs H Q E h => ?_) (fun f cdv A outer s H vs Q E hr h => ?_)
  · obtain ⟨l, rfl, _⟩ := h; rfl
  obtain ⟨l, rfl, hl, q⟩ := h
  refine ⟨_, pss_one (ps_ret (pe_chain op_le_str op_le_str pe_str (pv 0) pe_str)), ?_⟩
  have e0 : (Str.ofString "0").cps.toList = [48] := by decide +kernel
  have e9 : (Str.ofString "9").cps.toList = [57] := by decide +kernel
  refine ⟨_, rfl, _, _, rfl, rfl, _, rfl, ite2 (fun c => ?_) (fun c => ?_)⟩
  · refine ⟨_, _, rfl, rfl, ?_⟩
    show Q (.bl (!decide ((Str.ofString "9").cps.toList < (S l).cps.toList))) H
    rw [e9]
    rw [e0] at c
    match l, hl, c, q with
    | [], _, c, q => exact absurd c (by decide)
    | [x], _, c, q =>
      have c' : (!decide ([x] < [48])) = true := c
      rw [lex1] at c'
      show Q (.bl (!decide ([57] < [x]))) H
      rw [lex1]
      have e : (!decide (57 < x)) = [x].any isDig := by
        show _ = (isDig x || false)
        unfold isDig
        have : ¬ x < 48 := by simpa using c'
        by_cases h : x ≤ 57
        · have h2 : ¬ 57 < x := by omega
          simp [h, h2]; omega
        · have h2 : 57 < x := by omega
          simp [h, h2]
      rw [e]; exact q
  · show Q (.bl false) H
    rw [e0] at c
    match l, hl, c, q with
    | [], _, c, q => exact q
    | [x], _, c, q =>
      have c' : ¬ (!decide ([x] < [48])) = true := c
      rw [lex1] at c'
      have h : x < 48 := by simpa using c'
      have e : [x].any isDig = false := by
        show (isDig x || false) = false
        unfold isDig
        have : ¬ 48 ≤ x := by omega
        simp [this]
      rw [← e]; exact q
theorem ok_digits_end (G : Gv K mg "digits_end" s_digits_end p_digits_end) (O1 : OkD P w K mg base CX0 1 "is_digit" p_is_digit spIsDigit) (zlen : mg "len" = none) : OkD P w K mg base CX0 2 "digits_end" p_digits_end spDigitsEnd := by
  refine G.ok sc_digits_end (fun vs H Q E h => ?_) (fun f cdv A outer s H vs Q E hr h => ?_)
  · obtain ⟨l, i, rfl, _⟩ := h; rfl
  obtain ⟨l, i, rfl, hl, hi, q⟩ := h
  refine ⟨_, pss_cons (ps_set (i := 2) sc_digits_end.nd rfl (.inl rfl) (pv 1))
    (pss_cons (ps_while PassesOwn.never (PW.pt (pw_and (pt_cmpR op_lt (pv 2) (pe_callB call_len_str (by rfl) zlen PySem.boot_len (pa_cons (pv 0) pa_nil)) (nomark _)) (pw_and1 (pt_val (pcall O1 hr (pa_cons (pe_ix ix_str (pv 0) (pv 2) (fun _ _ => rfl)) pa_nil))))))
      (pss_one (ps_aug (i := 2) sc_digits_end.nd rfl (.inl rfl) pe_int ip_add)))
    (pss_one (ps_ret (pv 2)))), ?_⟩
  refine ⟨_, rfl, fun m σ H' => ∃ k : Nat, σ = [some (.str (S l)), some (.int i), some (.int k)] ∧ H' = H ∧ m = l.length - k ∧ k ≤ l.length ∧ i + ((l.drop i).takeWhile isDig).length = k + ((l.drop k).takeWhile isDig).length,
    ⟨_, i, rfl, rfl, rfl, hi, rfl⟩, ?_⟩
  rintro m σ H' ⟨k, rfl, rfl, rfl, hk, e⟩
  refine ⟨_, rfl, _, rfl, _, rfl, S_line hl, _, _, rfl, rfl, _, rfl, ite2 (fun c => ?_) (fun c => ?_)⟩
  · have c' : (k : Int) < ((S l).length : Int) := of_decide_eq_true c
    rw [S_len] at c'
    have hk' : k < l.length := by omega
    have g : l[k]? = some l[k] := List.getElem?_eq_getElem hk'
    refine ⟨_, rfl, _, rfl, S l, k, _, rfl, rfl, S_line hl, at_S g, [l[k]], rfl, Nat.le_refl 1, _, rfl, ite2 (fun d => ?_) (fun d => ?_)⟩
    · have d' : isDig l[k] = true := by simpa using d
      refine ⟨_, fun _ _ h => h, ?_⟩
      refine ⟨_, rfl, _, _, rfl, rfl, ?_⟩
      exact ⟨_, by omega, k + 1, rfl, rfl, rfl, by omega, by rw [e]; exact tw_step g d'⟩
    · have d' : isDig l[k] = false := by simpa using d
      refine ⟨_, rfl, ?_⟩
      rw [e, tw_stop g d'] at q
      exact q
  · have c' : ¬ (k : Int) < ((S l).length : Int) := of_decide_eq_false (Bool.eq_false_iff.mpr c)
    rw [S_len] at c'
    have hk' : k = l.length := by omega
    refine ⟨_, rfl, ?_⟩
    rw [e, hk', List.drop_length] at q
    rw [hk']
    exact q
end
end D4
namespace D4
open PySem PySem.Spec PyProof.Rows L2 SX
/-- a character that a row may hold -/
def rowc (c : Nat) : Bool := decide (32 ≤ c ∧ c ≤ 126 ∧ c ≠ 37)
theorem same_new {H : Hp} {p : Addr} (h : H p = none) (o : HO) : Same H (upd H p o) := fun b u q => by rw [upd_ne (ne_of_none q h)]; exact q
theorem tl_S (l : List Nat) : (S l).cps.toList = l := rfl
def spIsRow : Sp := fun vs H Q _ => ∃ l : List Nat, vs = [.str (S l)] ∧ l.length ≤ big ∧ ∀ H', Same H H' → Q (.bl (l.all rowc)) H'
theorem asc_S (l : List Nat) : Txt.isascii (S l) = l.all (fun c => decide (c < 128)) := by
  show (S l).cps.all _ = _
  rw [← Array.all_toList]
theorem pri_S (l : List Nat) : Txt.isprintable (S l) = l.all Unicode.isPrintable := by
  show (S l).cps.all _ = _
  rw [← Array.all_toList]
theorem pri_lt {c : Nat} (h : c < 128) : Unicode.isPrintable c = decide (32 ≤ c ∧ c ≤ 126) := by
  have z : ∀ c, c < 128 → Unicode.isPrintable c = decide (32 ≤ c ∧ c ≤ 126) := by decide +kernel
  exact z c h
theorem row_no1 {l : List Nat} (h : l.all (fun c => decide (c < 128)) = false) : l.all rowc = false := by
  cases e : l.all rowc with
  | false => rfl
  | true =>
    rw [List.all_eq_true] at e
    have : l.all (fun c => decide (c < 128)) = true := List.all_eq_true.mpr fun c hc => by
      have := e c hc
      unfold rowc at this
      have := of_decide_eq_true this
      exact decide_eq_true (by omega)
    rw [this] at h; cases h
theorem row_no2 {l : List Nat} (h0 : l.all (fun c => decide (c < 128)) = true) (h : l.all Unicode.isPrintable = false) : l.all rowc = false := by
  cases e : l.all rowc with
  | false => rfl
  | true =>
    rw [List.all_eq_true] at e h0
    have : l.all Unicode.isPrintable = true := List.all_eq_true.mpr fun c hc => by
      have h1 := e c hc
      unfold rowc at h1
      have h1 := of_decide_eq_true h1
      rw [pri_lt (by omega)]
      exact decide_eq_true ⟨h1.1, h1.2.1⟩
    rw [this] at h; cases h
theorem row_in {l : List Nat} (h0 : l.all (fun c => decide (c < 128)) = true) (h : l.all Unicode.isPrintable = true) : l.all rowc = !inV (.int 37) (l.map fun c => V.int (c : Nat)) := by
  rw [List.all_eq_true] at h0 h
  have e : inV (.int 37) (l.map fun c => V.int (c : Nat)) = l.any (fun c => c == 37) := by
    unfold inV
    rw [List.any_map]
    congr 1
    funext c
    show decide ((c : Int) = 37) = _
    by_cases z : c = 37
    · subst z; rfl
    · have z2 : ¬ (c : Int) = 37 := by omega
      rw [decide_eq_false z2]; exact (beq_eq_false_iff_ne.mpr z).symm
  rw [e, List.not_any_eq_all_not]
  rw [Bool.eq_iff_iff, List.all_eq_true, List.all_eq_true]
  constructor
  · intro k c hc
    have k1 := of_decide_eq_true (show decide _ = true from k c hc)
    simp; omega
  · intro k c hc
    have k1 : ¬ c = 37 := by simpa using k c hc
    have h1 := h c hc
    rw [pri_lt (of_decide_eq_true (h0 c hc))] at h1
    have h2 := of_decide_eq_true h1
    exact decide_eq_true ⟨h2.1, h2.2, k1⟩
section
variable {P : Program} {w : World} {K : PySem.W.Frag} {mg : Str → Option Value} {base : Heap}
theorem ok_is_row (G : Gv K mg "is_row" s_is_row p_is_row) (zord : mg "ord" = none) (gP : ∃ t, mg "PERCENT" = some (.int 37 t)) : OkD P w K mg base CX0 1 "is_row" p_is_row spIsRow := by
  refine G.ok sc_is_row (fun vs H Q E h => ?_) (fun f cdv A outer s H vs Q E hr h => ?_)
  · obtain ⟨l, rfl, _⟩ := h; rfl
  obtain ⟨l, rfl, hl, q⟩ := h
  refine ⟨_, pss_cons (ps_if (PW.pt (pw_or (pt_not (pt_val (pe_bm0 PySem.F.plainAttrs_str PySem.F.slot_str_isascii PySem.F.type_str_isascii mt_isascii (pv 0))))
      (pw_or1 (pt_not (pt_val (pe_bm0 PySem.F.plainAttrs_str PySem.F.slot_str_isprintable PySem.F.type_str_isprintable mt_isprintable (pv 0)))))))
      (pss_one (ps_ret pe_bl)) pss_nil)
    (pss_one (ps_ret (pe_cmpR op_notIn_seq (pe_gI gP)
      (pe_lc (own := [("sign", 1)]) (g := gName 1) (tt := tYes) rfl sc_is_row.nd (pi_str (pv 0)) (blkOk_by (own := [("sign", 1)]) (N := n_is_row) (sc := defScope s_is_row) (by decide +kernel))
        (fun _ _ _ _ _ => pg_name (i := 1) sc_is_row.nd rfl (Or.inl rfl)) (fun _ _ _ _ _ => pts_nil) (fun _ _ _ _ _ => pe_callB call_ord (by rfl) zord (by decide +kernel) (pa_cons (pv 1) pa_nil))) (by rfl)))), ?_⟩
  refine ⟨_, rfl, rfl, _, rfl, rfl, trivial, _, rfl, ?_⟩
  rw [asc_S]
  cases ha : l.all (fun c => decide (c < 128)) with
  | false =>
    refine iteT (iteT ?_)
    have := q H (Same.refl H)
    rw [row_no1 ha] at this
    exact this
  | true =>
    refine iteF ⟨_, rfl, rfl, _, rfl, rfl, trivial, _, rfl, ?_⟩
    rw [pri_S]
    cases hp : l.all Unicode.isPrintable with
    | false =>
      refine iteT ?_
      have := q H (Same.refl H)
      rw [row_no2 ha hp] at this
      exact this
    | true =>
      refine iteF ?_
      refine ⟨_, rfl, S l, rfl, fun D hD => ?_⟩
      refine lc_it walk_str (fun i H' => Same H H' ∧ H' D = some (.lst ((l.take i).map fun c => V.int (c : Nat)))) ⟨same_new hD _, upd_same⟩ (fun _ _ _ _ => trivial) ?_ ?_
      · rintro i x H1 H2 hi ⟨sm, hl1⟩ ⟨rfl, c, hc, rfl⟩
        have hc' : l[i]? = some c := by simpa using hc
        refine ⟨rfl, iteT (B := True) (iteT ?_)⟩
        refine ⟨_, rfl, ⟨#[c]⟩, rfl, rfl, _, hl1, ?_, ?_, ?_⟩
        · rw [List.length_map, List.length_take]
          have : big < sizeLine := by decide
          omega
        · intro b o e
          rw [upd_ne (ne_of_none e hD)]
          exact sm _ _ e
        · rw [upd_same, List.take_add_one, hc', List.map_append]
          rfl
      · rintro H1 ⟨sm, hl1⟩
        have e : l.take (S l).cps.size = l := List.take_of_length_le (by simp)
        rw [e] at hl1
        refine ⟨D, _, rfl, .inl (SqL.of hl1), rfl, ?_, ?_⟩
        · rw [List.all_map]; exact List.all_eq_true.mpr fun _ _ => rfl
        · have := q H1 sm
          rw [row_in ha hp] at this
          exact this
end
end D4
namespace D4
open PySem PySem.Spec PyProof.Rows L2 SX
def escc (c : Nat) : List Nat := if c = 92 then [92, 92] else if c = 34 then [92, 34] else if c = 10 then [92, 110] else [c]
def esc (l : List Nat) : List Nat := l.flatMap escc
theorem repl1 (y : Nat) (z : List Nat) : ∀ l : List Nat, PySem.StrLaws.replL [y] z l = l.flatMap fun c => if c = y then z else [c]
  | [] => PySem.StrLaws.replL_nil
  | c :: r => by
    by_cases h : c = y
    · rw [PySem.StrLaws.replL_hit (by simp) (by simp [h]), List.flatMap_cons, if_pos h]
      show z ++ PySem.StrLaws.replL [y] z r = _
      rw [repl1 y z r]
    · rw [PySem.StrLaws.replL_miss (by simp [h]), List.flatMap_cons, if_neg h, repl1 y z r]
      rfl
theorem replace_S (y : Nat) (z l : List Nat) : Txt.replace (S l) (S [y]) (S z) = S (l.flatMap fun c => if c = y then z else [c]) := by
  refine TL.ext_tl ?_
  show (Txt.replace (S l) (S [y]) (S z)).cps.toList = _
  rw [PySem.StrLaws.replace_list (by rw [S_len]; exact Nat.le_refl 1)]
  exact repl1 y z l
theorem esc3 (l : List Nat) : ((l.flatMap fun c => if c = 92 then [92, 92] else [c]).flatMap fun c => if c = 34 then [92, 34] else [c]).flatMap (fun c => if c = 10 then [92, 110] else [c]) = esc l := by
  rw [List.flatMap_assoc, List.flatMap_assoc]
  unfold esc
  congr 1
  funext c
  unfold escc
  by_cases h1 : c = 92
  · subst h1; rfl
  · by_cases h2 : c = 34
    · subst h2; rfl
    · by_cases h3 : c = 10
      · subst h3; rfl
      · simp [h1, h2, h3]
theorem fm_len {f : Nat → List Nat} {k : Nat} (h : ∀ c, (f c).length ≤ k) : ∀ l : List Nat, (l.flatMap f).length ≤ k * l.length
  | [] => by simp
  | c :: r => by
    rw [List.flatMap_cons, List.length_append, List.length_cons, Nat.mul_succ]
    have := h c
    have := fm_len h r
    omega
theorem len2 (y : Nat) (z l : List Nat) (hz : z.length = 2) : (l.flatMap fun c => if c = y then z else [c]).length ≤ 2 * l.length :=
  fm_len (fun c => by split <;> simp [hz]) l
theorem esc_len (l : List Nat) : (esc l).length ≤ 2 * l.length := fm_len (fun c => by unfold escc; split; simp; split; simp; split <;> simp) l
def spQuoted : Sp := fun vs H Q _ => ∃ l : List Nat, vs = [.str (S l)] ∧ l.length ≤ big ∧ Q (.str (S (34 :: (esc l ++ [34])))) H
section
variable {X : Cx} {e : Expr} {te : TE} {pos : Pos}
theorem pst_set {i : Nat} {x : Str} {pos' : Pos} (hN : X.N.Nodup) (hi : X.N[i]? = some x) (hx : Loc X.env.scope x) (he : PET X e te) (hs : swapsWith e (some (.Name x pos')) pos.line X.env = pure false := by rfl) (hf : X.fn x = true ∨ X.env.scope.names.lookup x = some .local := by first | exact .inl rfl | exact .inr rfl | assumption) :
    PST X (.Assign [.Name x pos'] e pos) (tAsg te (gName i)) := by
  intro pins s σ H D h0 I h
  refine wpAny_Assign_Name (thn (he pins s σ H _ h0 I h) fun v s1 ⟨y, H1, I1, r1, q1⟩ => ?_) hs
  exact store_ok I1 hN hi hx r1 (fun s2 I2 => ⟨_, H1, I2, q1⟩) hf
end
section
variable {P : Program} {w : World} {K : PySem.W.Frag} {mg : Str → Option Value} {base : Heap}
theorem ok_quoted (G : Gv K mg "quoted" s_quoted p_quoted) : OkD P w K mg base CX0 1 "quoted" p_quoted spQuoted := by
  refine G.okT sc_quoted (by decide +kernel) (by decide) (fun vs H Q E h => ?_) (fun f cdv A outer s H vs Q E hr h => ?_)
  · obtain ⟨l, rfl, _⟩ := h; rfl
  obtain ⟨l, rfl, hl0, q⟩ := h
  have hl : l.length ≤ 1000000 := hl0
  refine ⟨_, psst_cons (pst_set (i := 1) sc_quoted.nd rfl (.inl rfl) (CwR.pet_replT (CwR.pet_replT (CwR.pet_replT (CwR.PET.of (pv 0))))))
    (CwR.psst_one (PST.of (ps_ret (pe_op op_add_str (pe_op op_add_str pe_str (pv 1)) pe_str)))), ?_⟩
  have e1 : (Str.ofString "\\") = S [92] := by decide +kernel
  have e2 : (Str.ofString "\\\\") = S [92, 92] := by decide +kernel
  have e3 : (Str.ofString "\"") = S [34] := by decide +kernel
  have e4 : (Str.ofString "\\\"") = S [92, 34] := by decide +kernel
  have e5 : (Str.ofString "\n") = S [10] := by decide +kernel
  have e6 : (Str.ofString "\\n") = S [92, 110] := by decide +kernel
  refine ⟨_, rfl, S l, rfl, ?_, ?_⟩
  · rw [e2, S_len, S_len]
    show l.length + (l.length + 1) * 2 ≤ _
    omega
  rw [e1, e2, replace_S]
  have h1 := len2 92 [92, 92] l rfl
  refine ⟨_, rfl, ?_, ?_⟩
  · rw [e4, S_len, S_len]
    show _ + (_ + 1) * 2 ≤ _
    omega
  rw [e3, e4, replace_S]
  have h2 := len2 34 [92, 34] (l.flatMap fun c => if c = 92 then [92, 92] else [c]) rfl
  refine ⟨_, rfl, ?_, ?_⟩
  · rw [e6, S_len, S_len]
    show _ + (_ + 1) * 2 ≤ _
    omega
  rw [e5, e6, replace_S, esc3]
  have h3 := esc_len l
  have hb : (3000000 : Nat) ≤ sizeLine := by decide
  refine ⟨_, rfl, _, _, rfl, rfl, ?_, _, _, rfl, rfl, ?_, ?_⟩
  · rw [S_len, S_len]
    show 1 + _ ≤ _
    omega
  · rw [S_cat, S_len, S_len]
    show ([34] ++ esc l).length + 1 ≤ _
    rw [List.length_append]
    show (1 + _) + 1 ≤ _
    omega
  · rw [S_cat, S_cat]
    exact q
end
end D4
namespace D4
open PySem PySem.Spec PyProof.Rows L2 SX
/-- a datum -/
inductive D where
  | non | bl (b : Bool) | int (i : Int) | str (l : List Nat) | tup (l : List D)
def wi (i : Int) : List Nat := if i < 0 then 45 :: TL.numL i.natAbs else TL.numL i.natAbs
mutual
/-- the note of a datum -/
def wr : D → List Nat
  | .non => [110, 111, 110, 101]
  | .bl true => [116, 114, 117, 101]
  | .bl false => [102, 97, 108, 115, 101]
  | .int i => wi i
  | .str l => 34 :: (esc l ++ [34])
  | .tup l => 40 :: (wrs l ++ [41])
def wrs : List D → List Nat
  | [] => []
  | d :: r => wr d ++ wrt r
def wrt : List D → List Nat
  | [] => []
  | d :: r => 32 :: (wr d ++ wrt r)
end
mutual
def dep : D → Nat
  | .tup l => 1 + deps l
  | _ => 0
def deps : List D → Nat
  | [] => 0
  | d :: r => max (dep d) (deps r)
end
theorem wrs_nil : wrs [] = [] := by unfold wrs; rfl
theorem wrt_nil : wrt [] = [] := by unfold wrt; rfl
theorem wrs_cons (d : D) (r : List D) : wrs (d :: r) = wr d ++ wrt r := by conv => lhs; unfold wrs
theorem wrt_cons (d : D) (r : List D) : wrt (d :: r) = 32 :: (wr d ++ wrt r) := by conv => lhs; unfold wrt
/-- an allowed character -/
def okc (c : Nat) : Bool := rowc c || c == 10
mutual
def okd : D → Bool
  | .int i => decide (i.natAbs < 10 ^ 80)
  | .str l => l.all okc
  | .tup l => okds l
  | _ => true
def okds : List D → Bool
  | [] => true
  | d :: r => okd d && okds r
end
theorem okds_mem : ∀ {l : List D}, okds l = true → ∀ d ∈ l, okd d = true
  | d :: r, h, e, hm => by
    unfold okds at h
    rw [Bool.and_eq_true] at h
    rcases List.mem_cons.mp hm with rfl | hm
    · exact h.1
    · exact okds_mem h.2 e hm
theorem okds_of : ∀ {l : List D}, (∀ d ∈ l, okd d = true) → okds l = true
  | [], _ => by unfold okds; rfl
  | d :: r, h => by
    unfold okds
    rw [h d (List.mem_cons_self ..), okds_of fun e he => h e (List.mem_cons_of_mem _ he)]
    rfl
theorem deps_mem : ∀ {l : List D} {n : Nat}, deps l ≤ n → ∀ d ∈ l, dep d ≤ n
  | d :: r, n, h, e, hm => by
    unfold deps at h
    rcases List.mem_cons.mp hm with rfl | hm
    · omega
    · exact deps_mem (by omega) e hm
theorem deps_of : ∀ {l : List D} {n : Nat}, (∀ d ∈ l, dep d ≤ n) → deps l ≤ n
  | [], _, _ => by unfold deps; omega
  | d :: r, n, h => by
    unfold deps
    have h1 := h d (List.mem_cons_self ..)
    have h2 := deps_of (n := n) fun e he => h e (List.mem_cons_of_mem _ he)
    omega
theorem wrs_join : ∀ l : List D, wrs l = TL.joinL [32] (l.map wr)
  | [] => by unfold wrs; rfl
  | [d] => by unfold wrs wrt; rw [List.append_nil]; rfl
  | d :: e :: r => by
    have ih := wrs_join (e :: r)
    unfold wrs at ih ⊢
    unfold wrt
    rw [ih]
    rfl
/-! ### reading -/
def unesc (c : Nat) : Option Nat := if c = 110 then some 10 else if c = 92 then some 92 else if c = 34 then some 34 else none
def strP : List Nat → Option (List Nat × List Nat)
  | [] => none
  | [c] => if c = 34 then some ([], []) else none
  | c :: e :: t => if c = 34 then some ([], e :: t) else if c = 92 then (match unesc e with | none => none | some x => (strP t).map fun p => (x :: p.1, p.2)) else if rowc c then (strP (e :: t)).map fun p => (c :: p.1, p.2) else none
theorem strP_nil : strP [] = none := by unfold strP; rfl
theorem strP_end (t : List Nat) : strP (34 :: t) = some ([], t) := by cases t <;> (unfold strP; rfl)
theorem strP_esc (e : Nat) (t : List Nat) : strP (92 :: e :: t) = (match unesc e with | none => none | some x => (strP t).map fun p => (x :: p.1, p.2)) := by
  rw [strP]; rfl
theorem strP_esc0 : strP [92] = none := by unfold strP; rfl
theorem strP_raw {c : Nat} (t : List Nat) (h1 : c ≠ 34) (h2 : c ≠ 92) : strP (c :: t) = if rowc c then (strP t).map fun p => (c :: p.1, p.2) else none := by
  cases t with
  | nil =>
    have e : strP [c] = if c = 34 then some ([], []) else none := by rw [strP]
    rw [e, if_neg h1, strP_nil]
    split <;> rfl
  | cons e t => rw [strP, if_neg h1, if_neg h2]
theorem strP_ind {C : List Nat → Prop} (h0 : C []) (h1 : ∀ t, C (34 :: t)) (h2 : C [92]) (h3 : ∀ e t, C t → C (92 :: e :: t)) (h4 : ∀ c t, c ≠ 34 → c ≠ 92 → C t → C (c :: t)) : ∀ l, C l
  | [] => h0
  | [c] => by
    by_cases a : c = 34
    · rw [a]; exact h1 []
    · by_cases b : c = 92
      · rw [b]; exact h2
      · exact h4 c [] a b h0
  | c :: e :: t => by
    by_cases a : c = 34
    · rw [a]; exact h1 _
    · by_cases b : c = 92
      · rw [b]; exact h3 e t (strP_ind h0 h1 h2 h3 h4 t)
      · exact h4 c _ a b (strP_ind h0 h1 h2 h3 h4 (e :: t))
theorem escc_raw {c : Nat} (h1 : c ≠ 34) (h2 : c ≠ 92) (h3 : c ≠ 10) : escc c = [c] := by
  unfold escc; rw [if_neg h2, if_neg h1, if_neg h3]
theorem esc_cons (c : Nat) (t : List Nat) : esc (c :: t) = escc c ++ esc t := by unfold esc; rw [List.flatMap_cons]
theorem row_not10 {c : Nat} (h : rowc c = true) : c ≠ 10 := by
  have := of_decide_eq_true (show decide _ = true from h); omega
theorem strP_sound : ∀ l x r, strP l = some (x, r) → l = esc x ++ 34 :: r ∧ x.all okc = true := by
  refine strP_ind ?_ ?_ ?_ ?_ ?_
  · intro x r h; rw [strP_nil] at h; cases h
  · intro t x r h; rw [strP_end] at h; cases h; exact ⟨rfl, rfl⟩
  · intro x r h; rw [strP_esc0] at h; cases h
  · intro e t ih x r h
    rw [strP_esc] at h
    cases hu : unesc e with
    | none => rw [hu] at h; cases h
    | some y =>
      rw [hu] at h
      cases hs : strP t with
      | none => rw [hs] at h; cases h
      | some p =>
        rw [hs] at h
        have e1 : (y :: p.1, p.2) = (x, r) := Option.some.inj h
        cases e1
        obtain ⟨i1, i2⟩ := ih p.1 p.2 hs
        rw [esc_cons, List.all_cons]
        unfold unesc at hu
        by_cases a : e = 110
        · rw [if_pos a] at hu; cases hu
          refine ⟨?_, by rw [i2]; rfl⟩
          rw [a]; show 92 :: 110 :: t = _; rw [i1]; rfl
        · rw [if_neg a] at hu
          by_cases b : e = 92
          · rw [if_pos b] at hu; cases hu
            refine ⟨?_, by rw [i2]; rfl⟩
            rw [b]; show 92 :: 92 :: t = _; rw [i1]; rfl
          · rw [if_neg b] at hu
            by_cases d : e = 34
            · rw [if_pos d] at hu; cases hu
              refine ⟨?_, by rw [i2]; rfl⟩
              rw [d]; show 92 :: 34 :: t = _; rw [i1]; rfl
            · rw [if_neg d] at hu; cases hu
  · intro c t h1 h2 ih x r h
    rw [strP_raw t h1 h2] at h
    cases hr : rowc c with
    | false => rw [hr] at h; cases h
    | true =>
      rw [hr, if_pos rfl] at h
      cases hs : strP t with
      | none => rw [hs] at h; cases h
      | some p =>
        rw [hs] at h
        have e1 : (c :: p.1, p.2) = (x, r) := Option.some.inj h
        cases e1
        obtain ⟨i1, i2⟩ := ih p.1 p.2 hs
        rw [esc_cons, List.all_cons, escc_raw h1 h2 (row_not10 hr), i2]
        exact ⟨by rw [i1]; rfl, by unfold okc; rw [hr]; rfl⟩
theorem strP_complete (r : List Nat) : ∀ x : List Nat, x.all okc = true → strP (esc x ++ 34 :: r) = some (x, r)
  | [], _ => strP_end r
  | c :: t, h => by
    rw [List.all_cons, Bool.and_eq_true] at h
    have ih := strP_complete r t h.2
    rw [esc_cons]
    by_cases a : c = 92
    · subst a
      show strP (92 :: 92 :: (esc t ++ 34 :: r)) = _
      rw [strP_esc, ih]; rfl
    · by_cases b : c = 34
      · subst b
        show strP (92 :: 34 :: (esc t ++ 34 :: r)) = _
        rw [strP_esc, ih]; rfl
      · by_cases d : c = 10
        · subst d
          show strP (92 :: 110 :: (esc t ++ 34 :: r)) = _
          rw [strP_esc, ih]; rfl
        · rw [escc_raw b a d]
          show strP (c :: (esc t ++ 34 :: r)) = _
          have hr : rowc c = true := by
            have := h.1
            unfold okc at this
            rw [Bool.or_eq_true] at this
            rcases this with z | z
            · exact z
            · exact absurd (eq_of_beq z) d
          rw [strP_raw _ b a, ih, hr]; rfl
/-! numbers -/
open NumText
theorem dv_snoc (l : List Nat) (c : Nat) : digitsVal (l ++ [c]) = digitsVal l * 10 + (c - 48) := by
  unfold digitsVal; rw [List.foldl_append]; rfl
theorem snoc_ind {α : Type} {C : List α → Prop} (h0 : C []) (h1 : ∀ l a, C l → C (l ++ [a])) (l : List α) : C l := by
  rw [← List.reverse_reverse l]
  induction l.reverse with
  | nil => exact h0
  | cons a t ih => rw [List.reverse_cons]; exact h1 _ _ ih
theorem dv_pos : ∀ l : List Nat, l ≠ [] → AllDigits l → l.head? ≠ some 48 → 1 ≤ digitsVal l := by
  refine snoc_ind (fun h => absurd rfl h) ?_
  intro l a ih _ hd h0
  rw [dv_snoc]
  by_cases e : l = []
  · subst e
    have ha := hd a (by simp)
    have : a ≠ 48 := fun z => h0 (by rw [z]; rfl)
    omega
  · have := ih e (fun c hc => hd c (List.mem_append_left _ hc)) (fun z => h0 (by cases l with | nil => exact absurd rfl e | cons b t => simpa using z))
    omega
theorem numL_of : ∀ l : List Nat, l ≠ [] → AllDigits l → (l.head? = some 48 → l.length = 1) → TL.numL (digitsVal l) = l := by
  refine snoc_ind (fun h => absurd rfl h) ?_
  intro l a ih _ hd h0
  have ha := hd a (by simp)
  rw [dv_snoc]
  by_cases e : l = []
  · subst e
    have : digitsVal [] = 0 := rfl
    rw [this, TL.numL_lt (by omega)]
    show [48 + (0 * 10 + (a - 48))] = [a]
    congr 1; omega
  · have hne : l.head? ≠ some 48 := fun z => by
      have : (l ++ [a]).length = 1 := h0 (by cases l with | nil => exact absurd rfl e | cons b t => simpa using z)
      rw [List.length_append, List.length_singleton] at this
      have := List.length_pos_iff.mpr e
      omega
    have hdl : AllDigits l := fun c hc => hd c (List.mem_append_left _ hc)
    have hp := dv_pos l e hdl hne
    rw [TL.numL_step (by omega), show (digitsVal l * 10 + (a - 48)) / 10 = digitsVal l by omega, show 48 + (digitsVal l * 10 + (a - 48)) % 10 = a by omega, ih e hdl (fun z => absurd z hne)]
theorem dv_lt : ∀ l : List Nat, AllDigits l → digitsVal l < 10 ^ l.length := by
  refine snoc_ind (fun _ => by decide) ?_
  intro l a ih hd
  have ha := hd a (by simp)
  have := ih (fun c hc => hd c (List.mem_append_left _ hc))
  rw [dv_snoc, List.length_append, List.length_singleton, Nat.pow_succ]
  omega
theorem numL_head {n : Nat} (h : (TL.numL n).head? = some 48) : n = 0 := by
  induction n using Nat.strongRecOn with
  | _ n ih =>
    by_cases hn : n < 10
    · rw [TL.numL_lt hn] at h
      have : 48 + n = 48 := Option.some.inj h
      omega
    · rw [TL.numL_step (by omega)] at h
      have hne := TL.numL_ne (n / 10)
      have : (TL.numL (n / 10)).head? = some 48 := by
        cases e : TL.numL (n / 10) with
        | nil => exact absurd e hne
        | cons b t => rw [e] at h; simpa using h
      have := ih (n / 10) (by omega) this
      omega
theorem isDig_iff {c : Nat} : isDig c = true ↔ 48 ≤ c ∧ c ≤ 57 := by unfold isDig; exact decide_eq_true_iff
theorem tw_digits (l : List Nat) : AllDigits (l.takeWhile isDig) := fun c hc => isDig_iff.mp (by
  have : ∀ l : List Nat, ∀ c ∈ l.takeWhile isDig, isDig c = true := by
    intro l
    induction l with
    | nil => intro c h; cases h
    | cons a t ih =>
      intro c h
      rw [List.takeWhile_cons] at h
      cases ha : isDig a with
      | true => rw [ha, if_pos rfl] at h; rcases List.mem_cons.mp h with rfl | h; exact ha; exact ih c h
      | false => rw [ha] at h; cases h
  exact this l c hc)
theorem tw_app {a r : List Nat} (ha : AllDigits a) (hr : ∀ c, r.head? = some c → isDig c = false) : (a ++ r).takeWhile isDig = a ∧ (a ++ r).dropWhile isDig = r := by
  induction a with
  | nil =>
    cases r with
    | nil => exact ⟨rfl, rfl⟩
    | cons c t =>
      have := hr c rfl
      show (c :: t).takeWhile isDig = [] ∧ (c :: t).dropWhile isDig = c :: t
      rw [List.takeWhile_cons, List.dropWhile_cons, this]
      exact ⟨rfl, rfl⟩
  | cons c t ih =>
    have hc : isDig c = true := isDig_iff.mpr ha.head
    obtain ⟨i1, i2⟩ := ih ha.tail
    rw [List.cons_append, List.takeWhile_cons, List.dropWhile_cons, hc, if_pos rfl, if_pos rfl, i1]
    exact ⟨rfl, i2⟩
def negs (l : List Nat) : Bool := l.head? == some 45
def mag (l : List Nat) : List Nat := if negs l then l.tail else l
def numBad (l : List Nat) : Bool := decide (((mag l).takeWhile isDig) = []) || decide (80 < ((mag l).takeWhile isDig).length) || (decide (((mag l).takeWhile isDig).head? = some 48) && (decide (1 < ((mag l).takeWhile isDig).length) || negs l))
def numV (l : List Nat) : Int := if negs l then -((digitsVal ((mag l).takeWhile isDig) : Nat) : Int) else ((digitsVal ((mag l).takeWhile isDig) : Nat) : Int)
def numP (l : List Nat) : Option (D × List Nat) := if numBad l then none else some (.int (numV l), (mag l).dropWhile isDig)
theorem numP_sound {l : List Nat} {d : D} {r : List Nat} (h : numP l = some (d, r)) : ∃ i : Int, d = .int i ∧ i.natAbs < 10 ^ 80 ∧ l = wi i ++ r := by
  unfold numP at h
  cases hb : numBad l with
  | true => rw [hb] at h; cases h
  | false =>
    rw [hb] at h
    have e1 : (D.int (numV l), (mag l).dropWhile isDig) = (d, r) := Option.some.inj h
    cases e1
    unfold numBad at hb
    rw [Bool.or_eq_false_iff, Bool.or_eq_false_iff] at hb
    obtain ⟨⟨b1, b2⟩, b3⟩ := hb
    have b1 := of_decide_eq_false b1
    have b2 := of_decide_eq_false b2
    have hd := tw_digits (mag l)
    have hs : mag l = (mag l).takeWhile isDig ++ (mag l).dropWhile isDig := (List.takeWhile_append_dropWhile).symm
    have hlt := dv_lt _ hd
    have hlt2 : digitsVal ((mag l).takeWhile isDig) < 10 ^ 80 := Nat.lt_of_lt_of_le hlt (Nat.pow_le_pow_right (by decide) (by omega))
    have hlead : ((mag l).takeWhile isDig).head? = some 48 → ((mag l).takeWhile isDig).length = 1 := fun z => by
      rw [decide_eq_true z, Bool.true_and, Bool.or_eq_false_iff] at b3
      have := of_decide_eq_false b3.1
      have := List.length_pos_iff.mpr b1
      omega
    have hnum := numL_of _ b1 hd hlead
    refine ⟨numV l, rfl, ?_, ?_⟩
    · unfold numV; split <;> omega
    · unfold numV
      cases hn : negs l with
      | true =>
        have hl : l = 45 :: mag l := by
          unfold negs at hn
          unfold mag negs
          rw [hn]
          cases l with
          | nil => cases hn
          | cons c t =>
            have : c = 45 := by simpa using hn
            rw [this]; rfl
        have h48 : ((mag l).takeWhile isDig).head? ≠ some 48 := fun z => by
          rw [decide_eq_true z, hn] at b3
          simp at b3
        have hp := dv_pos _ b1 hd h48
        rw [if_pos rfl]
        unfold wi
        rw [if_pos (by omega), show (-((digitsVal ((mag l).takeWhile isDig) : Nat) : Int)).natAbs = digitsVal ((mag l).takeWhile isDig) by omega, hnum]
        rw [List.cons_append, ← hs]; exact hl
      | false =>
        have hl : l = mag l := by unfold mag; rw [hn]; rfl
        rw [if_neg Bool.false_ne_true]
        unfold wi
        rw [if_neg (by omega), Int.natAbs_natCast, hnum, ← hs]
        exact hl
theorem numP_complete {i : Int} {r : List Nat} (h : i.natAbs < 10 ^ 80) (hr : ∀ c, r.head? = some c → isDig c = false) : numP (wi i ++ r) = some (.int i, r) := by
  have hlen := TL.numL_len (k := 80) (by decide) h
  have hdig := TL.numL_digits i.natAbs
  have hne := TL.numL_ne i.natAbs
  obtain ⟨t1, t2⟩ := tw_app hdig hr
  by_cases hn : i < 0
  · have hw : wi i ++ r = 45 :: (TL.numL i.natAbs ++ r) := by unfold wi; rw [if_pos hn]; rfl
    rw [hw]
    have n1 : negs (45 :: (TL.numL i.natAbs ++ r)) = true := rfl
    have m1 : mag (45 :: (TL.numL i.natAbs ++ r)) = TL.numL i.natAbs ++ r := rfl
    have b : numBad (45 :: (TL.numL i.natAbs ++ r)) = false := by
      unfold numBad
      rw [m1, t1, n1, decide_eq_false hne, decide_eq_false (show ¬ 80 < (TL.numL i.natAbs).length by omega), decide_eq_false (fun z => by have := numL_head z; omega)]
      rfl
    unfold numP numV
    rw [b, m1, t1, t2, n1, if_neg Bool.false_ne_true, if_pos rfl, TL.numL_val]
    rw [show -((i.natAbs : Nat) : Int) = i by omega]
  · have hw : wi i ++ r = TL.numL i.natAbs ++ r := by unfold wi; rw [if_neg hn]
    rw [hw]
    have n1 : negs (TL.numL i.natAbs ++ r) = false := by
      unfold negs
      cases e : TL.numL i.natAbs with
      | nil => exact absurd e hne
      | cons c t =>
        have := hdig c (by rw [e]; exact List.mem_cons_self ..)
        exact beq_eq_false_iff_ne.mpr (fun z => by have : c = 45 := by simpa using z
                                                   omega)
    have m1 : mag (TL.numL i.natAbs ++ r) = TL.numL i.natAbs ++ r := by unfold mag; rw [n1]; rfl
    have b : numBad (TL.numL i.natAbs ++ r) = false := by
      unfold numBad
      rw [m1, t1, n1, decide_eq_false hne, decide_eq_false (show ¬ 80 < (TL.numL i.natAbs).length by omega), Bool.or_false, Bool.false_or, Bool.and_eq_false_iff]
      by_cases z : (TL.numL i.natAbs).head? = some 48
      · right
        have := numL_head z
        rw [this]; decide
      · left; exact decide_eq_false z
    unfold numP numV
    rw [b, m1, t1, t2, n1, if_neg Bool.false_ne_true, if_neg Bool.false_ne_true, TL.numL_val]
    rw [show ((i.natAbs : Nat) : Int) = i by omega]
/-! words, parts -/
def wordP (l : List Nat) : Option (D × List Nat) :=
  if l.take 4 = [110, 111, 110, 101] then some (.non, l.drop 4) else if l.take 4 = [116, 114, 117, 101] then some (.bl true, l.drop 4) else if l.take 5 = [102, 97, 108, 115, 101] then some (.bl false, l.drop 5) else none
def leafP (l : List Nat) : Option (D × List Nat) :=
  if l.head? = some 34 then (strP l.tail).map fun p => (.str p.1, p.2) else if l.head? = some 45 ∨ (l.take 1).any isDig = true then numP l else wordP l
def items (p : List Nat → Option (D × List Nat)) : Nat → List D → List Nat → Option (List D × List Nat)
  | 0, _, _ => none
  | n + 1, acc, l => if l.head? = some 41 then some (acc, l.tail) else if acc ≠ [] ∧ l.head? ≠ some 32 then none else
    match p (if acc = [] then l else l.tail) with
    | none => none
    | some q => items p n (acc ++ [q.1]) q.2
def part : Nat → List Nat → Option (D × List Nat)
  | 0, l => if l.head? = some 40 then none else leafP l
  | r + 1, l => if l.head? = some 40 then (items (part r) l.length [] l.tail).map fun p => (.tup p.1, p.2) else leafP l
theorem cons_of {l : List Nat} {c : Nat} (h : l.head? = some c) : l = c :: l.tail := by
  cases l with
  | nil => cases h
  | cons a t => have : a = c := by simpa using h
                rw [this]; rfl
theorem word_sound {l : List Nat} {d : D} {r : List Nat} (h : wordP l = some (d, r)) : l = wr d ++ r ∧ okd d = true ∧ dep d = 0 := by
  unfold wordP at h
  by_cases a : l.take 4 = [110, 111, 110, 101]
  · rw [if_pos a] at h; cases h
    refine ⟨?_, rfl, rfl⟩
    show l = [110, 111, 110, 101] ++ _
    rw [← a, List.take_append_drop]
  · rw [if_neg a] at h
    by_cases b : l.take 4 = [116, 114, 117, 101]
    · rw [if_pos b] at h; cases h
      refine ⟨?_, rfl, rfl⟩
      show l = [116, 114, 117, 101] ++ _
      rw [← b, List.take_append_drop]
    · rw [if_neg b] at h
      by_cases c : l.take 5 = [102, 97, 108, 115, 101]
      · rw [if_pos c] at h; cases h
        refine ⟨?_, rfl, rfl⟩
        show l = [102, 97, 108, 115, 101] ++ _
        rw [← c, List.take_append_drop]
      · rw [if_neg c] at h; cases h
theorem leaf_sound {l : List Nat} {d : D} {r : List Nat} (h : leafP l = some (d, r)) : l = wr d ++ r ∧ okd d = true ∧ dep d = 0 := by
  unfold leafP at h
  by_cases a : l.head? = some 34
  · rw [if_pos a] at h
    cases hs : strP l.tail with
    | none => rw [hs] at h; cases h
    | some p =>
      rw [hs] at h
      have e1 : (D.str p.1, p.2) = (d, r) := Option.some.inj h
      cases e1
      obtain ⟨i1, i2⟩ := strP_sound _ _ _ hs
      refine ⟨?_, i2, rfl⟩
      rw [cons_of a, i1]
      show _ = 34 :: (esc p.1 ++ [34]) ++ p.2
      simp
  · rw [if_neg a] at h
    by_cases b : l.head? = some 45 ∨ (l.take 1).any isDig = true
    · rw [if_pos b] at h
      obtain ⟨i, rfl, h1, h2⟩ := numP_sound h
      exact ⟨h2, decide_eq_true h1, rfl⟩
    · rw [if_neg b] at h
      exact word_sound h
theorem items_sound {p : List Nat → Option (D × List Nat)} {m : Nat} (hp : ∀ l d r, p l = some (d, r) → l = wr d ++ r ∧ okd d = true ∧ dep d ≤ m) :
    ∀ (n : Nat) (acc : List D) (l : List Nat) (ds : List D) (r : List Nat), items p n acc l = some (ds, r) →
      ∃ new, ds = acc ++ new ∧ okds new = true ∧ deps new ≤ m ∧ l = (if acc = [] then wrs new else wrt new) ++ 41 :: r
  | 0, _, _, _, _, h => by unfold items at h; cases h
  | n + 1, acc, l, ds, r, h => by
    unfold items at h
    by_cases a : l.head? = some 41
    · rw [if_pos a] at h; cases h
      refine ⟨[], by simp, by unfold okds; rfl, by unfold deps; omega, ?_⟩
      rw [cons_of a]
      split <;> first | (unfold wrs; rfl) | (unfold wrt; rfl)
    · rw [if_neg a] at h
      by_cases b : acc ≠ [] ∧ l.head? ≠ some 32
      · rw [if_pos b] at h; cases h
      · rw [if_neg b] at h
        cases hq : p (if acc = [] then l else l.tail) with
        | none => rw [hq] at h; cases h
        | some q =>
          rw [hq] at h
          obtain ⟨new, e1, e2, e3, e4⟩ := items_sound hp n _ _ _ _ h
          obtain ⟨f1, f2, f3⟩ := hp _ q.1 q.2 hq
          refine ⟨q.1 :: new, by rw [e1, List.append_assoc]; rfl, by unfold okds; rw [f2, e2]; rfl, by unfold deps; omega, ?_⟩
          rw [if_neg (by simp)] at e4
          by_cases c : acc = []
          · rw [if_pos c] at f1 ⊢
            rw [f1, e4]
            rw [wrs_cons, List.append_assoc]
          · rw [if_neg c] at f1 ⊢
            have h32 : l.head? = some 32 := Classical.byContradiction fun z => b ⟨c, z⟩
            rw [cons_of h32, f1, e4]
            rw [wrt_cons]
            simp
theorem part_sound : ∀ (m : Nat) (l : List Nat) (d : D) (r : List Nat), part m l = some (d, r) → l = wr d ++ r ∧ okd d = true ∧ dep d ≤ m
  | 0, l, d, r, h => by
    unfold part at h
    by_cases a : l.head? = some 40
    · rw [if_pos a] at h; cases h
    · rw [if_neg a] at h
      obtain ⟨h1, h2, h3⟩ := leaf_sound h
      exact ⟨h1, h2, by omega⟩
  | m + 1, l, d, r, h => by
    unfold part at h
    by_cases a : l.head? = some 40
    · rw [if_pos a] at h
      cases hi : items (part m) l.length [] l.tail with
      | none => rw [hi] at h; cases h
      | some p =>
        rw [hi] at h
        have e1 : (D.tup p.1, p.2) = (d, r) := Option.some.inj h
        cases e1
        obtain ⟨new, e1, e2, e3, e4⟩ := items_sound (part_sound m) _ _ _ _ _ hi
        rw [List.nil_append] at e1
        refine ⟨?_, by rw [e1]; exact e2, by rw [e1]; unfold dep; omega⟩
        rw [cons_of a, e4, if_pos rfl, e1]
        show _ = 40 :: (wrs new ++ [41]) ++ p.2
        simp
    · rw [if_neg a] at h
      obtain ⟨h1, h2, h3⟩ := leaf_sound h
      exact ⟨h1, h2, by omega⟩
/-- what may stand behind a part -/
def Behind (r : List Nat) : Prop := ∀ c, r.head? = some c → isDig c = false
theorem wi_head (i : Int) : ∃ c t, wi i = c :: t ∧ (c = 45 ∨ isDig c = true) := by
  unfold wi
  split
  · exact ⟨45, _, rfl, .inl rfl⟩
  · cases e : TL.numL i.natAbs with
    | nil => exact absurd e (TL.numL_ne _)
    | cons c t => exact ⟨c, t, rfl, .inr (isDig_iff.mpr (TL.numL_digits i.natAbs c (by rw [e]; exact List.mem_cons_self ..)))⟩
theorem leaf_complete {d : D} {r : List Nat} (ho : okd d = true) (hd : dep d = 0) (hb : Behind r) : leafP (wr d ++ r) = some (d, r) ∧ (wr d ++ r).head? ≠ some 40 := by
  cases d with
  | non => exact ⟨rfl, fun z => by cases z⟩
  | bl b => cases b <;> exact ⟨rfl, fun z => by cases z⟩
  | int i =>
    have ho : i.natAbs < 10 ^ 80 := of_decide_eq_true ho
    obtain ⟨c, t, e, hc⟩ := wi_head i
    have hn := numP_complete ho hb
    have ew : wr (.int i) = wi i := by unfold wr; rfl
    rw [ew]
    have hh : (wi i ++ r).head? = some c := by rw [e]; rfl
    have hc34 : c ≠ 34 ∧ c ≠ 40 := by
      rcases hc with z | z
      · omega
      · have := isDig_iff.mp z; omega
    refine ⟨?_, by rw [hh]; intro z; exact hc34.2 (Option.some.inj z)⟩
    unfold leafP
    rw [if_neg (by rw [hh]; intro z; exact hc34.1 (Option.some.inj z)), if_pos, hn]
    rcases hc with z | z
    · left; rw [hh, z]
    · right; rw [e]; show (isDig c || false) = true; rw [z]; rfl
  | str l =>
    have e : wr (.str l) ++ r = 34 :: (esc l ++ 34 :: r) := by unfold wr; simp
    rw [e]
    refine ⟨?_, fun z => by cases z⟩
    unfold leafP
    rw [if_pos (show (34 :: (esc l ++ 34 :: r)).head? = some 34 from rfl)]
    show (strP (esc l ++ 34 :: r)).map _ = _
    rw [strP_complete r l ho]; rfl
  | tup l => unfold dep at hd; omega
theorem wrt_len : ∀ ds : List D, ds.length ≤ (wrt ds).length
  | [] => by simp
  | d :: r => by rw [wrt_cons]; have := wrt_len r; simp; omega
theorem wr_ne41 (d : D) : ∃ c t, wr d = c :: t ∧ c ≠ 41 ∧ c ≠ 32 := by
  cases d with
  | non => exact ⟨_, _, by unfold wr; rfl, by decide, by decide⟩
  | bl b => cases b <;> exact ⟨_, _, by unfold wr; rfl, by decide, by decide⟩
  | int i =>
    obtain ⟨c, t, e, hc⟩ := wi_head i
    refine ⟨c, t, by unfold wr; exact e, ?_⟩
    rcases hc with z | z
    · omega
    · have := isDig_iff.mp z; omega
  | str l => exact ⟨_, _, by unfold wr; rfl, by decide, by decide⟩
  | tup l => exact ⟨_, _, by unfold wr; rfl, by decide, by decide⟩
theorem items_complete {p : List Nat → Option (D × List Nat)} {m : Nat} (hp : ∀ d r, okd d = true → dep d ≤ m → Behind r → p (wr d ++ r) = some (d, r)) (r : List Nat) :
    ∀ (new : List D) (n : Nat) (acc : List D), new.length < n → okds new = true → deps new ≤ m → items p n acc ((if acc = [] then wrs new else wrt new) ++ 41 :: r) = some (acc ++ new, r)
  | [], n + 1, acc, _, _, _ => by
    have e : (if acc = [] then wrs [] else wrt []) = [] := by split <;> first | (unfold wrs; rfl) | (unfold wrt; rfl)
    rw [e]
    unfold items
    rw [List.nil_append, if_pos (show (41 :: r).head? = some 41 from rfl), List.append_nil]; rfl
  | d :: new, n + 1, acc, hn, ho, hd => by
    unfold okds at ho
    rw [Bool.and_eq_true] at ho
    unfold deps at hd
    have hn : new.length + 1 < n + 1 := hn
    have ih := items_complete hp r new n (acc ++ [d]) (by omega) ho.2 (by omega)
    rw [if_neg (by simp)] at ih
    have hbh : Behind (wrt new ++ 41 :: r) := by
      intro c hc
      cases new with
      | nil => rw [wrt_nil] at hc; cases hc; rfl
      | cons a b => rw [wrt_cons] at hc; cases hc; rfl
    have hq := hp d _ ho.1 (by omega) hbh
    obtain ⟨c, t, e, c1, c2⟩ := wr_ne41 d
    unfold items
    by_cases a : acc = []
    · have el : (if acc = [] then wrs (d :: new) else wrt (d :: new)) ++ 41 :: r = wr d ++ (wrt new ++ 41 :: r) := by rw [if_pos a, wrs_cons]; simp
      rw [el]
      have hh : (wr d ++ (wrt new ++ 41 :: r)).head? = some c := by rw [e]; rfl
      rw [if_neg (by rw [hh]; intro z; exact c1 (Option.some.inj z)), if_neg (fun z => z.1 a), if_pos a, hq]
      show items p n (acc ++ [d]) (wrt new ++ 41 :: r) = _
      rw [ih, List.append_assoc]; rfl
    · have el : (if acc = [] then wrs (d :: new) else wrt (d :: new)) ++ 41 :: r = 32 :: (wr d ++ (wrt new ++ 41 :: r)) := by rw [if_neg a, wrt_cons]; simp
      rw [el, if_neg (by intro z; cases z), if_neg (fun z => z.2 rfl), if_neg a]
      show (match p (wr d ++ (wrt new ++ 41 :: r)) with | none => none | some q => items p n (acc ++ [q.1]) q.2) = _
      rw [hq]
      show items p n (acc ++ [d]) (wrt new ++ 41 :: r) = _
      rw [ih, List.append_assoc]; rfl
theorem part_complete : ∀ (m : Nat) (d : D) (r : List Nat), okd d = true → dep d ≤ m → Behind r → part m (wr d ++ r) = some (d, r)
  | 0, d, r, ho, hd, hb => by
    obtain ⟨h1, h2⟩ := leaf_complete ho (by omega) hb
    unfold part
    rw [if_neg h2, h1]
  | m + 1, d, r, ho, hd, hb => by
    by_cases h0 : dep d = 0
    · obtain ⟨h1, h2⟩ := leaf_complete ho h0 hb
      unfold part
      rw [if_neg h2, h1]
    · cases d with
      | tup l =>
        unfold okd at ho
        unfold dep at hd
        have e : wr (.tup l) ++ r = 40 :: (wrs l ++ 41 :: r) := by unfold wr; simp
        have hl : l.length < (40 :: (wrs l ++ 41 :: r)).length := by
          cases l with
          | nil => simp
          | cons a t => rw [wrs_cons]; have := wrt_len t; simp; omega
        have ih := items_complete (part_complete m) r l _ [] hl ho (by omega)
        rw [e]
        unfold part
        rw [if_pos (show (40 :: (wrs l ++ 41 :: r)).head? = some 40 from rfl)]
        show (items (part m) _ [] (wrs l ++ 41 :: r)).map _ = _
        rw [if_pos rfl] at ih
        rw [ih]; rfl
      | _ => exact absurd rfl h0
end D4
namespace D4
open PySem PySem.Spec PyProof.Rows L2 SX
theorem esc_ge : ∀ l : List Nat, l.length ≤ (esc l).length
  | [] => by simp
  | c :: t => by
    have := esc_ge t
    have h1 : 1 ≤ (escc c).length := by unfold escc; split; simp; split; simp; split <;> simp
    rw [esc_cons, List.length_append, List.length_cons]; omega
mutual
/-- the value v is the datum d -/
inductive Rep (H : Hp) : V → D → Prop
  | non : Rep H .non .non
  | bl (b : Bool) : Rep H (.bl b) (.bl b)
  | int (i : Int) : Rep H (.int i) (.int i)
  | str (l : List Nat) : Rep H (.str (S l)) (.str l)
  | tup {a : Addr} {vs : List V} {ds : List D} (h : H a = some (.tup vs)) (r : Reps H vs ds) : Rep H (.ref a) (.tup ds)
inductive Reps (H : Hp) : List V → List D → Prop
  | nil : Reps H [] []
  | cons {v : V} {d : D} {vs : List V} {ds : List D} (h : Rep H v d) (r : Reps H vs ds) : Reps H (v :: vs) (d :: ds)
end
mutual
theorem Rep.mono {H H' : Hp} {v : V} {d : D} (s : Same H H') : Rep H v d → Rep H' v d
  | .non => .non
  | .bl b => .bl b
  | .int i => .int i
  | .str l => .str l
  | .tup h r => .tup (s _ _ h) (Reps.mono s r)
theorem Reps.mono {H H' : Hp} {vs : List V} {ds : List D} (s : Same H H') : Reps H vs ds → Reps H' vs ds
  | .nil => .nil
  | .cons h r => .cons (Rep.mono s h) (Reps.mono s r)
end
mutual
theorem Rep.updL {H : Hp} {D : Addr} {xs ys : List V} (h : H D = some (.lst xs)) {v : V} {d : D4.D} : Rep H v d → Rep (upd H D (.lst ys)) v d
  | .non => .non
  | .bl b => .bl b
  | .int i => .int i
  | .str l => .str l
  | .tup h2 r => .tup (by rw [upd_ne (fun z => by rw [z, h] at h2; cases h2)]; exact h2) (Reps.updL h r)
theorem Reps.updL {H : Hp} {D : Addr} {xs ys : List V} (h : H D = some (.lst xs)) {vs : List V} {ds : List D4.D} : Reps H vs ds → Reps (upd H D (.lst ys)) vs ds
  | .nil => .nil
  | .cons h2 r => .cons (Rep.updL h h2) (Reps.updL h r)
end
theorem Reps.len {H : Hp} : ∀ {vs : List V} {ds : List D}, Reps H vs ds → vs.length = ds.length
  | _, _, .nil => rfl
  | _, _, .cons _ r => congrArg Nat.succ r.len
theorem Reps.get {H : Hp} : ∀ {vs : List V} {ds : List D} {i : Nat} {v : V}, Reps H vs ds → vs[i]? = some v → ∃ d, ds[i]? = some d ∧ Rep H v d
  | _, _, _, _, .nil, h => by simp at h
  | _, _, 0, v, .cons (d := d) h r, e => by simp at e; subst e; exact ⟨d, rfl, h⟩
  | _, _, i + 1, v, .cons h r, e => by obtain ⟨d, e1, e2⟩ := Reps.get (i := i) r (by simpa using e); exact ⟨d, by simpa using e1, e2⟩
theorem Reps.app {H : Hp} : ∀ {vs ws : List V} {ds es : List D}, Reps H vs ds → Reps H ws es → Reps H (vs ++ ws) (ds ++ es)
  | _, _, _, _, .nil, s => s
  | _, _, _, _, .cons h r, s => .cons h (r.app s)
def tyD : D → String
  | .non => "NoneType" | .bl _ => "bool" | .int _ => "int" | .str _ => "str" | .tup _ => "tuple"
theorem Rep.ty {K : PySem.W.Frag} {H : Hp} {v : V} {d : D} (r : Rep H v d) : TyX K H v (.type (tyD d)) := by
  cases r with
  | non => exact .base .non
  | bl b => exact .base (.bl b)
  | int i => exact .base (.int i)
  | str l => exact .base (.str _)
  | tup h r => exact .base (.tup h)
def isInt : D → Bool | .int _ => true | .bl _ => true | _ => false
def isStr : D → Bool | .str _ => true | _ => false
def isBl : D → Bool | .bl _ => true | _ => false
def isTup : D → Bool | .tup _ => true | _ => false
theorem kit_i : ∀ d : D, kitB (tyD d) "int" = some (isInt d)
  | .non => (by decide +kernel : kitB "NoneType" "int" = some false)
  | .bl _ => (by decide +kernel : kitB "bool" "int" = some true)
  | .int _ => (by decide +kernel : kitB "int" "int" = some true)
  | .str _ => (by decide +kernel : kitB "str" "int" = some false)
  | .tup _ => (by decide +kernel : kitB "tuple" "int" = some false)
theorem kit_s : ∀ d : D, kitB (tyD d) "str" = some (isStr d)
  | .non => (by decide +kernel : kitB "NoneType" "str" = some false)
  | .bl _ => (by decide +kernel : kitB "bool" "str" = some false)
  | .int _ => (by decide +kernel : kitB "int" "str" = some false)
  | .str _ => (by decide +kernel : kitB "str" "str" = some true)
  | .tup _ => (by decide +kernel : kitB "tuple" "str" = some false)
theorem kit_b : ∀ d : D, kitB (tyD d) "bool" = some (isBl d)
  | .non => (by decide +kernel : kitB "NoneType" "bool" = some false)
  | .bl _ => (by decide +kernel : kitB "bool" "bool" = some true)
  | .int _ => (by decide +kernel : kitB "int" "bool" = some false)
  | .str _ => (by decide +kernel : kitB "str" "bool" = some false)
  | .tup _ => (by decide +kernel : kitB "tuple" "bool" = some false)
theorem kit_t : ∀ d : D, kitB (tyD d) "tuple" = some (isTup d)
  | .non => (by decide +kernel : kitB "NoneType" "tuple" = some false)
  | .bl _ => (by decide +kernel : kitB "bool" "tuple" = some false)
  | .int _ => (by decide +kernel : kitB "int" "tuple" = some false)
  | .str _ => (by decide +kernel : kitB "str" "tuple" = some false)
  | .tup _ => (by decide +kernel : kitB "tuple" "tuple" = some true)
theorem int_S (i : Int) : Str.ofString (toString i) = S (wi i) := by
  unfold wi
  cases i with
  | ofNat n =>
    rw [if_neg (by show ¬ ((n : Nat) : Int) < 0; omega)]
    exact num_S n
  | negSucc n =>
    rw [if_pos (by omega)]
    refine TL.ext_tl ?_
    have e : (toString (Int.negSucc n) : String) = "-" ++ toString (n + 1) := rfl
    show (Str.ofString (toString (Int.negSucc n))).cps.toList = _
    rw [e, Str.ofString_eq_toList]
    have h := TL.tl_num (n + 1)
    show (("-" ++ toString (n + 1)).toList.map Char.toNat) = 45 :: TL.numL (Int.negSucc n).natAbs
    have h2 : (Str.ofString (toString (((n + 1 : Nat)) : Int))).cps.toList = TL.numL (n + 1) := h
    rw [Str.ofString_eq_toList] at h2
    have h3 : ((toString (n + 1)).toList.map Char.toNat) = TL.numL (n + 1) := h2
    rw [String.toList_append, List.map_append, h3]
    rfl
/-- write_datum and the law's note: a datum less than n deep -/
def spWrite (n : Nat) : Sp := fun vs H Q _ => ∃ (v : V) (d : D), vs = [v] ∧ Rep H v d ∧ okd d = true ∧ dep d < n ∧ (wr d).length ≤ big ∧ ∀ H', Same H H' → Q (.str (S (wr d))) H'
theorem log_small {i : Int} (h : i.natAbs < 10 ^ 80) : i.natAbs.log2 < 1920 := by
  by_cases z : i.natAbs = 0
  · rw [z]; decide
  · exact (Nat.log2_lt z).mpr (Nat.lt_of_lt_of_le h (by decide +kernel))
theorem lens_join (a : Nat) : ∀ l : List (List Nat), (l.map (·.length)).sum + l.length * 1 ≤ (TL.joinL [a] l).length + 1
  | [] => by simp [TL.joinL]
  | [p] => by simp [TL.joinL]
  | p :: q :: r => by
    have ih := lens_join a (q :: r)
    show _ ≤ (p ++ ([a] ++ TL.joinL [a] (q :: r))).length + 1
    simp only [List.map_cons, List.sum_cons, List.length_cons, List.length_append, List.length_nil] at ih ⊢
    omega
theorem wrs_part : ∀ {l : List D} {d : D}, d ∈ l → (wr d).length ≤ (wrs l).length := by
  have h : ∀ {l : List D} {d : D}, d ∈ l → (wr d).length ≤ (wrt l).length := by
    intro l
    induction l with
    | nil => intro d h; cases h
    | cons a r ih =>
      intro d h
      rw [wrt_cons, List.length_cons, List.length_append]
      rcases List.mem_cons.mp h with rfl | h
      · omega
      · have := ih h; omega
  intro l d hd
  cases l with
  | nil => cases hd
  | cons a r =>
    rw [wrs_cons, List.length_append]
    rcases List.mem_cons.mp hd with rfl | hd
    · omega
    · have := h hd; omega
section
variable {P : Program} {w : World} {K : PySem.W.Frag} {mg : Str → Option Value} {base : Heap}
theorem Gv.none {CX : CXT} {k : Nat} {x : Str} {st : Stmt} {ps : List Str} {sp : Sp} (G : Gv K mg x st ps) (h : ∀ vs H Q E, ¬ sp vs H Q E) : OkD P w K mg base CX k x ps sp := by
  obtain ⟨f, fd, F, hm, hb⟩ := G
  exact ⟨f, fd, hm, F.kp, hb, F.lk, ⟨fun vs H Q E z => absurd z (h vs H Q E), fun A outer s H args us vs Q E _ _ _ _ z => absurd z (h vs H Q E)⟩⟩
theorem ok_write_datum (T : Txt K mg) (Oq : OkD P w K mg base CX0 1 "quoted" p_quoted spQuoted) : ∀ n : Nat, OkD P w K mg base CX0 (n + 1) "write_datum" p_write_datum (spWrite n)
  | 0 => T.g_write_datum.none fun vs H Q E h => by obtain ⟨v, d, _, _, _, h, _⟩ := h; omega
  | n + 1 => by
    have O := ok_write_datum T Oq n
    refine T.g_write_datum.ok sc_write_datum (fun vs H Q E h => ?_) (fun f cdv A outer s H vs Q E hr h => ?_)
    · obtain ⟨v, d, rfl, _⟩ := h; rfl
    obtain ⟨v, d, rfl, r, ho, hd, hl0, q⟩ := h
    have hl : (wr d).length ≤ 1000000 := hl0
    refine ⟨_, (pss_cons (ps_if (pt_cmpR op_isN (pv 0) pe_non (nomark _)) (pss_one (ps_ret pe_str)) pss_nil)
      (pss_cons (ps_if (pt_cmpR op_isTF (pv 0) pe_bl (nomark _)) (pss_one (ps_ret pe_str)) pss_nil)
      (pss_cons (ps_if (pt_cmpR op_isTF (pv 0) pe_bl (nomark _)) (pss_one (ps_ret pe_str)) pss_nil)
      (pss_cons (ps_if (pt_val (pe_callB call_isi (by rfl) T.z_isinstance PyProof.Rows.boot_isinstance (pa_cons (pv 0) (pa_cons (pe_bltn (v := .ty "int") rfl T.z_int PyProof.Rows.boot_int rfl) pa_nil)))) (pss_one (ps_ret (pe_callTy call_str_int (by rfl) T.z_str PyProof.Rows.boot_str (pa_cons (pv 0) pa_nil)))) pss_nil)
      (pss_cons (ps_if (pt_val (pe_callB call_isi (by rfl) T.z_isinstance PyProof.Rows.boot_isinstance (pa_cons (pv 0) (pa_cons (pe_bltn (v := .ty "str") rfl T.z_str PyProof.Rows.boot_str rfl) pa_nil)))) (pss_one (ps_ret (pcall Oq hr (pa_cons (pv 0) pa_nil)))) pss_nil)
      (pss_one (ps_ret (pe_op op_add_str (pe_op op_add_str pe_str (pe_join pe_str
        (pe_lc (own := [("item", 1)]) (g := gName 1) (tt := tYes) rfl sc_write_datum.nd (pi_tup (pv 0)) (blkOk_by (own := [("item", 1)]) (N := n_write_datum) (sc := defScope s_write_datum) (by decide +kernel))
        (fun _ _ _ _ _ => (pg_name (i := 1) sc_write_datum.nd rfl (Or.inl rfl))) (fun _ _ _ _ _ => pts_nil) (fun _ _ _ _ _ => (pcall O hr (pa_cons (pv 1) pa_nil)))))) pe_str)))))))), ?_⟩
    have zs : (Str.ofString "none" = S [110, 111, 110, 101] ∧ Str.ofString "true" = S [116, 114, 117, 101] ∧ Str.ofString "false" = S [102, 97, 108, 115, 101]) := by decide +kernel
    have zp : (Str.ofString "(" = S [40] ∧ Str.ofString ")" = S [41] ∧ Str.ofString " " = S [32]) := by decide +kernel
    have q0 := q H (Same.refl H)
    cases r with
    | non =>
      refine ⟨_, rfl, rfl, _, rfl, iteT ?_⟩
      show Q (.str (Str.ofString "none")) H
      rw [zs.1]; exact q0
    | bl b =>
      cases b with
      | true =>
        refine ⟨_, rfl, rfl, _, rfl, iteF ?_⟩
        refine ⟨_, rfl, _, rfl, _, rfl, iteT ?_⟩
        show Q (.str (Str.ofString "true")) H
        rw [zs.2.1]; exact q0
      | false =>
        refine ⟨_, rfl, rfl, _, rfl, iteF ?_⟩
        refine ⟨_, rfl, _, rfl, _, rfl, iteF ?_⟩
        refine ⟨_, rfl, _, rfl, _, rfl, iteT ?_⟩
        show Q (.str (Str.ofString "false")) H
        rw [zs.2.2]; exact q0
    | int i =>
      refine ⟨_, rfl, rfl, _, rfl, iteF ?_⟩
      refine ⟨_, rfl, _, rfl, _, rfl, iteF ?_⟩
      refine ⟨_, rfl, _, rfl, _, rfl, iteF ?_⟩
      refine ⟨_, rfl, _, _, _, _, _, rfl, .ty _, (Rep.int i).ty, kit_ty (kit_i (.int i)), _, rfl, iteT ?_⟩
      refine ⟨_, rfl, i, rfl, log_small (of_decide_eq_true ho), ?_⟩
      rw [int_S]; exact q0
    | str l =>
      refine ⟨_, rfl, rfl, _, rfl, iteF ?_⟩
      refine ⟨_, rfl, _, rfl, _, rfl, iteF ?_⟩
      refine ⟨_, rfl, _, rfl, _, rfl, iteF ?_⟩
      refine ⟨_, rfl, _, _, _, _, _, rfl, .ty _, (Rep.str l).ty, kit_ty (kit_i (.str l)), _, rfl, iteF ?_⟩
      refine ⟨_, rfl, _, _, _, _, _, rfl, .ty _, (Rep.str l).ty, kit_ty (kit_s (.str l)), _, rfl, iteT ?_⟩
      refine ⟨_, rfl, l, rfl, ?_, q0⟩
      have e : (wr (.str l)).length = 1 + ((esc l).length + 1) := by unfold wr; simp; omega
      have h2 := esc_ge l
      show l.length ≤ 1000000
      omega
    | @tup a vs ds ha rs =>
      have rt : Rep H (.ref a) (.tup ds) := .tup ha rs
      refine ⟨_, rfl, rfl, _, rfl, iteF ?_⟩
      refine ⟨_, rfl, _, rfl, _, rfl, iteF ?_⟩
      refine ⟨_, rfl, _, rfl, _, rfl, iteF ?_⟩
      refine ⟨_, rfl, _, _, _, _, _, rfl, .ty _, rt.ty, kit_ty (kit_i (.tup ds)), _, rfl, iteF ?_⟩
      refine ⟨_, rfl, _, _, _, _, _, rfl, .ty _, rt.ty, kit_ty (kit_s (.tup ds)), _, rfl, iteF ?_⟩
      have ho' : okds ds = true := by unfold okd at ho; exact ho
      have hd' : deps ds < n := by unfold dep at hd; omega
      have ew : wr (.tup ds) = 40 :: (wrs ds ++ [41]) := by unfold wr; rfl
      have hlw : (wr (.tup ds)).length = (wrs ds).length + 2 := by rw [ew]; simp
      refine ⟨⟨_, rfl⟩, _, rfl, a, rfl, ⟨vs, SqT.of ha⟩, fun D hD => ?_⟩
      refine lc_it walk_tup (fun i H' => Same H H' ∧ H' D = some (.lst (((ds.take i).map fun d => V.str (S (wr d)))))) ⟨same_new hD _, upd_same⟩ (fun i H' _ h => SqT.of (h.1 _ _ ha)) ?_ ?_
      · rintro i x H1 H2 hi ⟨sm, hl1⟩ ⟨rfl, hx⟩
        obtain ⟨d, hdi, rd⟩ := rs.get hx
        have hm : d ∈ ds := List.mem_of_getElem? hdi
        refine ⟨rfl, iteT (B := True) (iteT ?_)⟩
        refine ⟨_, rfl, x, d, rfl, rd.mono sm, okds_mem ho' d hm, ?_, ?_, ?_⟩
        · have := deps_mem (Nat.le_refl _) d hm; omega
        · have := wrs_part hm
          show (wr d).length ≤ 1000000
          omega
        · intro H3 sm3
          refine ⟨_, sm3 _ _ hl1, ?_, ?_, ?_⟩
          · rw [List.length_map, List.length_take]
            have h1 : big < sizeLine := by decide
            have h2 : big = 1000000 := rfl
            have h3 : ds.length ≤ (wrs ds).length := by
              cases ds with
              | nil => simp
              | cons d r => rw [wrs_cons]; have := wrt_len r; obtain ⟨c, t, e, _⟩ := wr_ne41 d; rw [e]; simp; omega
            omega
          · intro b o e
            rw [upd_ne (ne_of_none e hD)]
            exact sm3 _ _ (sm _ _ e)
          · rw [upd_same, List.take_add_one, hdi, List.map_append]; rfl
      · rintro H1 ⟨sm, hl1⟩
        rw [rs.len, List.take_length] at hl1
        refine ⟨S [32], D, ds.map fun d => S (wr d), by rw [← zp.2.2], rfl, .inl (SqL.of (by rw [hl1, List.map_map]; rfl)), ?_, ?_⟩
        · have h := lens_join 32 (ds.map wr)
          rw [← wrs_join, List.length_map] at h
          have e2 : (ds.map fun d => S (wr d)) = (ds.map wr).map S := by rw [List.map_map]; rfl
          rw [e2, lens, List.length_map, List.length_map, S_len]
          show _ + ds.length * 1 ≤ _
          omega
        · have e2 : (ds.map fun d => S (wr d)) = (ds.map wr).map S := by rw [List.map_map]; rfl
          have ej : Txt.join (S [32]) (ds.map fun d => S (wr d)) = S (wrs ds) := by rw [e2, join_S, wrs_join]
          have hb : (2000000 : Nat) ≤ sizeLine := by decide
          refine ⟨_, _, rfl, rfl, ?_, _, _, rfl, rfl, ?_, ?_⟩
          · rw [zp.1, ej, S_len, S_len]; show 1 + _ ≤ _; omega
          · rw [zp.1, zp.2.1, ej, S_cat, S_len, S_len]; show ([40] ++ wrs ds).length + 1 ≤ _; rw [List.length_append]; show 1 + _ + 1 ≤ _; omega
          · rw [zp.1, zp.2.1, ej, S_cat, S_cat]
            have := q H1 sm
            rw [ew] at this
            exact this
end
end D4
namespace D4
open PySem PySem.Spec PyProof.Rows L2 SX
theorem str_dec (a b : List Nat) : decide (V.str (S a) = V.str (S b)) = decide (a = b) := by
  by_cases h : a = b
  · subst h; rw [decide_eq_true rfl, decide_eq_true rfl]
  · rw [decide_eq_false h, decide_eq_false]
    intro z; exact h (S_inj (V.str.inj z))
theorem one_dec (a b : Nat) : decide (V.str (S [a]) = V.str (S [b])) = decide (a = b) := by
  rw [str_dec]
  by_cases h : a = b
  · subst h; rw [decide_eq_true rfl, decide_eq_true rfl]
  · rw [decide_eq_false h, decide_eq_false]; intro z; exact h (List.cons.inj z).1
section
variable {P : Program} {w : World} {K : PySem.W.Frag} {mg : Str → Option Value} {base : Heap}
theorem ok__law_quoted (T : Txt K mg) : OkD P w K mg base CX0 1 "_law_quoted" p__law_quoted spQuoted := by
  refine T.g__law_quoted.ok sc__law_quoted (fun vs H Q E h => ?_) (fun f cdv A outer s H vs Q E hr h => ?_)
  · obtain ⟨l, rfl, _⟩ := h; rfl
  obtain ⟨l, rfl, hl0, q⟩ := h
  have hl : l.length ≤ 1000000 := hl0
  have hb : (3000000 : Nat) ≤ sizeLine := by decide
  refine ⟨_, (pss_cons (ps_set (i := 1) sc__law_quoted.nd rfl (.inl rfl) pe_str)
      (pss_cons (ps_for PassesOwn.never rfl (pi_str (pv 0)) (pg_name (i := 2) sc__law_quoted.nd rfl (Or.inl rfl)) (pss_one (ps_if (pt_cmpR op_eq (pv 2) pe_str (nomark _)) (pss_one (ps_set (i := 1) sc__law_quoted.nd rfl (.inl rfl) (pe_op op_add_str (pv 1) pe_str))) (pss_one (ps_if (PW.pt (pw_or (pt_cmpR op_eq (pv 2) pe_str (nomark _)) (pw_or1 (pt_cmpR op_eq (pv 2) pe_str (nomark _))))) (pss_one (ps_set (i := 1) sc__law_quoted.nd rfl (.inl rfl) (pe_op op_add_str (pe_op op_add_str (pv 1) pe_str) (pv 2)))) (pss_one (ps_set (i := 1) sc__law_quoted.nd rfl (.inl rfl) (pe_op op_add_str (pv 1) (pv 2)))))))))
      (pss_one (ps_ret (pe_op op_add_str (pe_op op_add_str pe_str (pv 1)) pe_str))))), ?_⟩
  have z : Str.ofString "" = S [] ∧ Str.ofString "\n" = S [10] ∧ Str.ofString "\\n" = S [92, 110] ∧ Str.ofString "\\" = S [92] ∧ Str.ofString "\"" = S [34] := by decide +kernel
  obtain ⟨z0, z1, z2, z3, z4⟩ := z
  refine ⟨_, rfl, S l, rfl, for_it walk_str (fun i σ H' => ∃ y, σ = [some (.str (S l)), some (.str (S (esc (l.take i)))), y] ∧ H' = H) ⟨none, by rw [z0]; rfl, rfl⟩ (fun _ _ _ _ _ => trivial) ?_ ?_⟩
  · rintro i x σ H1 H2 hi ⟨y, rfl, rfl⟩ ⟨rfl, c, hc, rfl⟩
    have hc' : l[i]? = some c := by simpa using hc
    have et : esc (l.take (i + 1)) = esc (l.take i) ++ escc c := by
      rw [List.take_add_one, hc']; unfold esc; rw [List.flatMap_append]; simp
    have h1 := esc_len (l.take i)
    have h2 : (l.take i).length ≤ l.length := by rw [List.length_take]; omega
    refine ⟨_, rfl, rfl, _, rfl, ?_⟩
    rw [z1]
    show if decide (V.str (S [c]) = V.str (S [10])) = true then _ else _
    rw [one_dec]
    refine ite2 (fun a => ?_) (fun a => ?_)
    · have a := of_decide_eq_true a
      refine ⟨_, rfl, _, _, rfl, rfl, ?_, some (.str (S [c])), ?_, rfl⟩
      · rw [z2, S_len, S_len]; show _ + 2 ≤ _; omega
      · rw [z2, S_cat, et, a]; rfl
    · have a : ¬ c = 10 := fun x => a (decide_eq_true x)
      refine ⟨_, rfl, rfl, _, rfl, ?_⟩
      rw [z3]
      show if decide (V.str (S [c]) = V.str (S [92])) = true then _ else _
      rw [one_dec]
      have more : (esc (l.take i)).length + 2 ≤ sizeLine := by omega
      by_cases b : c = 92
      · rw [decide_eq_true b]
        refine iteT (iteT ?_)
        refine ⟨_, rfl, _, _, rfl, rfl, ?_, _, rfl, _, _, rfl, rfl, ?_, some (.str (S [c])), ?_, rfl⟩
        · rw [S_len, S_len]; show _ + 1 ≤ _; omega
        · rw [S_cat]; show (S _).length + (S [c]).length ≤ _; rw [S_len, S_len, List.length_append]; show _ + 1 + 1 ≤ _; omega
        · show [_, some (V.str (S (esc (l.take i)) ++ S [92] ++ S [c])), _] = _
          rw [S_cat, S_cat, et, b, List.append_assoc]; rfl
      · rw [decide_eq_false b]
        refine iteF ⟨_, rfl, rfl, _, rfl, ?_⟩
        rw [z4]
        show if decide (V.str (S [c]) = V.str (S [34])) = true then _ else _
        rw [one_dec]
        by_cases d : c = 34
        · rw [decide_eq_true d]
          refine iteT ?_
          refine ⟨_, rfl, _, _, rfl, rfl, ?_, _, rfl, _, _, rfl, rfl, ?_, some (.str (S [c])), ?_, rfl⟩
          · rw [S_len, S_len]; show _ + 1 ≤ _; omega
          · rw [S_cat]; show (S _).length + (S [c]).length ≤ _; rw [S_len, S_len, List.length_append]; show _ + 1 + 1 ≤ _; omega
          · show [_, some (V.str (S (esc (l.take i)) ++ S [92] ++ S [c])), _] = _
            rw [S_cat, S_cat, et, d, List.append_assoc]; rfl
        · rw [decide_eq_false d]
          refine iteF ?_
          refine ⟨_, rfl, _, rfl, _, _, rfl, rfl, ?_, some (.str (S [c])), ?_, rfl⟩
          · show (S _).length + (S [c]).length ≤ _; rw [S_len, S_len]; show _ + 1 ≤ _; omega
          · show [_, some (V.str (S _ ++ S [c])), _] = _
            rw [S_cat, et, escc_raw d b a]
  · rintro σ H1 ⟨y, rfl, rfl⟩
    have e : l.take (S l).cps.size = l := List.take_of_length_le (by simp)
    rw [e]
    have h3 := esc_len l
    refine ⟨_, rfl, _, _, rfl, rfl, ?_, _, _, rfl, rfl, ?_, ?_⟩
    · rw [z4, S_len, S_len]; show 1 + _ ≤ _; omega
    · rw [z4, S_cat, S_len, S_len, List.length_append]; show 1 + _ + 1 ≤ _; omega
    · rw [z4, S_cat, S_cat]; exact q
theorem ok__law_note (T : Txt K mg) (Oq : OkD P w K mg base CX0 1 "_law_quoted" p__law_quoted spQuoted) : ∀ n : Nat, OkD P w K mg base CX0 (n + 1) "_law_note" p__law_note (spWrite n)
  | 0 => T.g__law_note.none fun vs H Q E h => by obtain ⟨v, d, _, _, _, h, _⟩ := h; omega
  | n + 1 => by
    have O := ok__law_note T Oq n
    refine T.g__law_note.ok sc__law_note (fun vs H Q E h => ?_) (fun f cdv A outer s H vs Q E hr h => ?_)
    · obtain ⟨v, d, rfl, _⟩ := h; rfl
    obtain ⟨v, d, rfl, r, ho, hd, hl0, q⟩ := h
    have hl : (wr d).length ≤ 1000000 := hl0
    refine ⟨_, (pss_cons (ps_if (pt_cmpR op_isN (pv 0) pe_non (nomark _)) (pss_one (ps_ret pe_str)) pss_nil)
      (pss_cons (ps_if (pt_val (pe_callB call_isi (by rfl) T.z_isinstance PyProof.Rows.boot_isinstance (pa_cons (pv 0) (pa_cons (pe_bltn (v := .ty "bool") rfl T.z_bool PyProof.Rows.boot_bool rfl) pa_nil)))) (pss_one (ps_ret (pe_ifExp (pt_val (pv 0)) pe_str pe_str))) pss_nil)
      (pss_cons (ps_if (pt_val (pe_callB call_isi (by rfl) T.z_isinstance PyProof.Rows.boot_isinstance (pa_cons (pv 0) (pa_cons (pe_bltn (v := .ty "int") rfl T.z_int PyProof.Rows.boot_int rfl) pa_nil)))) (pss_one (ps_ret (pe_callTy call_str_int (by rfl) T.z_str PyProof.Rows.boot_str (pa_cons (pv 0) pa_nil)))) pss_nil)
      (pss_cons (ps_if (pt_val (pe_callB call_isi (by rfl) T.z_isinstance PyProof.Rows.boot_isinstance (pa_cons (pv 0) (pa_cons (pe_bltn (v := .ty "str") rfl T.z_str PyProof.Rows.boot_str rfl) pa_nil)))) (pss_one (ps_ret (pcall Oq hr (pa_cons (pv 0) pa_nil)))) pss_nil)
      (pss_one (ps_ret (pe_op op_add_str (pe_op op_add_str pe_str (pe_join pe_str
        (pe_lc (own := [("part", 1)]) (g := gName 1) (tt := tYes) rfl sc__law_note.nd (pi_tup (pv 0)) (blkOk_by (own := [("part", 1)]) (N := n__law_note) (sc := defScope s__law_note) (by decide +kernel))
        (fun _ _ _ _ _ => (pg_name (i := 1) sc__law_note.nd rfl (Or.inl rfl))) (fun _ _ _ _ _ => pts_nil) (fun _ _ _ _ _ => (pcall O hr (pa_cons (pv 1) pa_nil)))))) pe_str))))))), ?_⟩
    have zs : (Str.ofString "none" = S [110, 111, 110, 101] ∧ Str.ofString "true" = S [116, 114, 117, 101] ∧ Str.ofString "false" = S [102, 97, 108, 115, 101]) := by decide +kernel
    have zp : (Str.ofString "(" = S [40] ∧ Str.ofString ")" = S [41] ∧ Str.ofString " " = S [32]) := by decide +kernel
    have q0 := q H (Same.refl H)
    cases r with
    | non =>
      refine ⟨_, rfl, rfl, _, rfl, iteT ?_⟩
      show Q (.str (Str.ofString "none")) H
      rw [zs.1]; exact q0
    | bl b =>
      refine ⟨_, rfl, rfl, _, rfl, iteF ?_⟩
      refine ⟨_, rfl, _, _, _, _, _, rfl, .ty _, (Rep.bl b).ty, kit_ty (kit_b (.bl b)), _, rfl, iteT ?_⟩
      refine ⟨_, rfl, b, rfl, ?_⟩
      cases b with
      | true =>
        refine iteT ?_
        show Q (.str (Str.ofString "true")) H
        rw [zs.2.1]; exact q0
      | false =>
        refine iteF ?_
        show Q (.str (Str.ofString "false")) H
        rw [zs.2.2]; exact q0
    | int i =>
      refine ⟨_, rfl, rfl, _, rfl, iteF ?_⟩
      refine ⟨_, rfl, _, _, _, _, _, rfl, .ty _, (Rep.int i).ty, kit_ty (kit_b (.int i)), _, rfl, iteF ?_⟩
      refine ⟨_, rfl, _, _, _, _, _, rfl, .ty _, (Rep.int i).ty, kit_ty (kit_i (.int i)), _, rfl, iteT ?_⟩
      refine ⟨_, rfl, i, rfl, log_small (of_decide_eq_true ho), ?_⟩
      rw [int_S]; exact q0
    | str l =>
      refine ⟨_, rfl, rfl, _, rfl, iteF ?_⟩
      refine ⟨_, rfl, _, _, _, _, _, rfl, .ty _, (Rep.str l).ty, kit_ty (kit_b (.str l)), _, rfl, iteF ?_⟩
      refine ⟨_, rfl, _, _, _, _, _, rfl, .ty _, (Rep.str l).ty, kit_ty (kit_i (.str l)), _, rfl, iteF ?_⟩
      refine ⟨_, rfl, _, _, _, _, _, rfl, .ty _, (Rep.str l).ty, kit_ty (kit_s (.str l)), _, rfl, iteT ?_⟩
      refine ⟨_, rfl, l, rfl, ?_, q0⟩
      have e : (wr (.str l)).length = 1 + ((esc l).length + 1) := by unfold wr; simp; omega
      have h2 := esc_ge l
      show l.length ≤ 1000000
      omega
    | @tup a vs ds ha rs =>
      have rt : Rep H (.ref a) (.tup ds) := .tup ha rs
      refine ⟨_, rfl, rfl, _, rfl, iteF ?_⟩
      refine ⟨_, rfl, _, _, _, _, _, rfl, .ty _, rt.ty, kit_ty (kit_b (.tup ds)), _, rfl, iteF ?_⟩
      refine ⟨_, rfl, _, _, _, _, _, rfl, .ty _, rt.ty, kit_ty (kit_i (.tup ds)), _, rfl, iteF ?_⟩
      refine ⟨_, rfl, _, _, _, _, _, rfl, .ty _, rt.ty, kit_ty (kit_s (.tup ds)), _, rfl, iteF ?_⟩
      have ho' : okds ds = true := by unfold okd at ho; exact ho
      have hd' : deps ds < n := by unfold dep at hd; omega
      have ew : wr (.tup ds) = 40 :: (wrs ds ++ [41]) := by unfold wr; rfl
      have hlw : (wr (.tup ds)).length = (wrs ds).length + 2 := by rw [ew]; simp
      refine ⟨⟨_, rfl⟩, _, rfl, a, rfl, ⟨vs, SqT.of ha⟩, fun D hD => ?_⟩
      refine lc_it walk_tup (fun i H' => Same H H' ∧ H' D = some (.lst (((ds.take i).map fun d => V.str (S (wr d)))))) ⟨same_new hD _, upd_same⟩ (fun i H' _ h => SqT.of (h.1 _ _ ha)) ?_ ?_
      · rintro i x H1 H2 hi ⟨sm, hl1⟩ ⟨rfl, hx⟩
        obtain ⟨d, hdi, rd⟩ := rs.get hx
        have hm : d ∈ ds := List.mem_of_getElem? hdi
        refine ⟨rfl, iteT (B := True) (iteT ?_)⟩
        refine ⟨_, rfl, x, d, rfl, rd.mono sm, okds_mem ho' d hm, ?_, ?_, ?_⟩
        · have := deps_mem (Nat.le_refl _) d hm; omega
        · have := wrs_part hm
          show (wr d).length ≤ 1000000
          omega
        · intro H3 sm3
          refine ⟨_, sm3 _ _ hl1, ?_, ?_, ?_⟩
          · rw [List.length_map, List.length_take]
            have h1 : big < sizeLine := by decide
            have h2 : big = 1000000 := rfl
            have h3 : ds.length ≤ (wrs ds).length := by
              cases ds with
              | nil => simp
              | cons d r => rw [wrs_cons]; have := wrt_len r; obtain ⟨c, t, e, _⟩ := wr_ne41 d; rw [e]; simp; omega
            omega
          · intro b o e
            rw [upd_ne (ne_of_none e hD)]
            exact sm3 _ _ (sm _ _ e)
          · rw [upd_same, List.take_add_one, hdi, List.map_append]; rfl
      · rintro H1 ⟨sm, hl1⟩
        rw [rs.len, List.take_length] at hl1
        refine ⟨S [32], D, ds.map fun d => S (wr d), by rw [← zp.2.2], rfl, .inl (SqL.of (by rw [hl1, List.map_map]; rfl)), ?_, ?_⟩
        · have h := lens_join 32 (ds.map wr)
          rw [← wrs_join, List.length_map] at h
          have e2 : (ds.map fun d => S (wr d)) = (ds.map wr).map S := by rw [List.map_map]; rfl
          rw [e2, lens, List.length_map, List.length_map, S_len]
          show _ + ds.length * 1 ≤ _
          omega
        · have e2 : (ds.map fun d => S (wr d)) = (ds.map wr).map S := by rw [List.map_map]; rfl
          have ej : Txt.join (S [32]) (ds.map fun d => S (wr d)) = S (wrs ds) := by rw [e2, join_S, wrs_join]
          have hb : (2000000 : Nat) ≤ sizeLine := by decide
          refine ⟨_, _, rfl, rfl, ?_, _, _, rfl, rfl, ?_, ?_⟩
          · rw [zp.1, ej, S_len, S_len]; show 1 + _ ≤ _; omega
          · rw [zp.1, zp.2.1, ej, S_cat, S_len, S_len]; show ([40] ++ wrs ds).length + 1 ≤ _; rw [List.length_append]; show 1 + _ + 1 ≤ _; omega
          · rw [zp.1, zp.2.1, ej, S_cat, S_cat]
            have := q H1 sm
            rw [ew] at this
            exact this
end
end D4
namespace D4
open PySem PySem.Spec PyProof.Rows L2 SX
theorem drop_min {α : Type} (l : List α) (a : Nat) : l.drop (min a l.length) = l.drop a := by
  by_cases h : a ≤ l.length
  · rw [Nat.min_eq_left h]
  · rw [Nat.min_eq_right (by omega), List.drop_length, List.drop_eq_nil_of_le (by omega)]
theorem cut_nn (l : List Nat) (a b : Nat) (h : a ≤ b) : cutS (S l) (some (a : Int)) (some (b : Int)) = S ((l.drop a).take (b - a)) := by
  unfold cutS
  rw [HT.sIx_nat, HT.sIx_nat, S_len]
  show S _ = S _
  congr 1
  show (l.drop (min a l.length)).take (min b l.length - min a l.length) = _
  rw [drop_min]
  by_cases hb : b ≤ l.length
  · rw [Nat.min_eq_left hb, Nat.min_eq_left (by omega)]
  · rw [List.take_of_length_le (by rw [List.length_drop]; omega), List.take_of_length_le (by rw [List.length_drop]; omega)]
theorem cut_n (l : List Nat) (a : Nat) : cutS (S l) (some (a : Int)) none = S (l.drop a) := by
  unfold cutS
  rw [HT.sIx_nat, HT.sIx_none, S_len]
  show S _ = S _
  congr 1
  show (l.drop (min a l.length)).take (l.length - min a l.length) = _
  rw [drop_min, List.take_of_length_le (by rw [List.length_drop]; omega)]
theorem cut_0 (l : List Nat) (b : Nat) : cutS (S l) none (some (b : Int)) = S (l.take b) := by
  unfold cutS
  rw [HT.sIx_nat, HT.sIx_none, S_len]
  show S _ = S _
  congr 1
  show (l.drop 0).take (min b l.length - 0) = _
  rw [List.drop_zero, Nat.sub_zero]
  by_cases hb : b ≤ l.length
  · rw [Nat.min_eq_left hb]
  · rw [List.take_of_length_le (by omega), List.take_of_length_le (by omega)]
/-- the sign at i, or nothing -/
def at1 (l : List Nat) (i : Nat) : List Nat := (l.drop i).take 1
theorem at1_cut (l : List Nat) (i : Nat) : cutS (S l) (some (i : Int)) (some ((i : Int) + 1)) = S (at1 l i) := by
  have := cut_nn l i (i + 1) (by omega)
  rw [Nat.add_sub_cancel_left] at this
  exact this
theorem at1_eq (l : List Nat) (i c : Nat) : decide (V.str (S (at1 l i)) = V.str (S [c])) = decide ((l.drop i).head? = some c) := by
  rw [str_dec]
  unfold at1
  cases h : l.drop i with
  | nil => rfl
  | cons a t =>
    show decide ([a] = [c]) = decide (some a = some c)
    by_cases e : a = c
    · subst e; rw [decide_eq_true rfl, decide_eq_true rfl]
    · rw [decide_eq_false (fun z => e (List.cons.inj z).1), decide_eq_false (fun z => e (Option.some.inj z))]
def spBehindSpace (CB : Addr) : Sp := fun vs H Q E => ∃ (l : List Nat) (i : Nat), vs = [.str (S l), .int i] ∧ l.length ≤ big ∧
  ((l.drop i).head? = some 32 → Q (.int ((i + 1 : Nat) : Int)) H) ∧ ((l.drop i).head? ≠ some 32 → E (.ref CB) none H)
section
variable {P : Program} {w : World} {K : PySem.W.Frag} {mg : Str → Option Value} {base : Heap} {CB : Addr}
theorem ok_behind_space (T : Txt K mg) (B : ExcT K mg CB) : OkD P w K mg base (L2.CX P w) 2 "behind_space" p_behind_space (spBehindSpace CB) := by
  refine T.g_behind_space.okX sc_behind_space (fun vs H Q E h => ?_) (fun f cdv A outer s H vs Q E hr h => ?_)
  · obtain ⟨l, i, rfl, _⟩ := h; rfl
  obtain ⟨l, i, rfl, hl, q1, q2⟩ := h
  refine ⟨_, (pss_cons (ps_if (pt_cmpR op_ne (pe_slice sl_str (pv 0) (po_some (pv 1)) (po_some (pe_op op_add (pv 1) pe_int))) pe_str (nomark _)) (pss_one (ps_raise rfl (takes_of rfl rfl rfl rfl) (pmk_own PySem.F.excBase_ValueError B.xB B.gB B.kB (raises_own B.bB B.tB) (by exact rfl)))) pss_nil)
      (pss_one (ps_ret (pe_op op_add (pv 1) pe_int)))), ?_⟩
  have z : Str.ofString " " = S [32] := by decide +kernel
  refine ⟨_, rfl, _, rfl, i, rfl, _, rfl, _, _, rfl, rfl, _, rfl, S l, rfl, S_line hl, rfl, _, rfl, ?_⟩
  rw [at1_cut, z, at1_eq]
  by_cases h : (l.drop i).head? = some 32
  · rw [decide_eq_true h]
    exact iteF ⟨_, rfl, _, _, rfl, rfl, q1 h⟩
  · rw [decide_eq_false h]
    exact iteT (q2 h)
end
end D4
namespace D4
open PySem PySem.Spec PyProof.Rows L2 SX
/-- the table of escapes, at d -/
structure EscT (K : PySem.W.Frag) (w : World) (mg : Str → Option Value) (d : Addr) : Prop where
  gD : mg "ESCAPES" = some (.ref d)
  low : (d == sysModules) = false
  tb : ∃ (es : Array DictEntry) (n : Nat) (h1 h2 h3 : Int) (t1 t2 t3 u1 u2 u3 : Tok), K.lookup d = some ⟨.type "dict", none, .dict es n, #[]⟩ ∧ PySem.W.KeysLit w.params es.toList ∧
    es = #[⟨h1, .str (S [110]) t1, .str (S [10]) u1⟩, ⟨h2, .str (S [92]) t2, .str (S [92]) u2⟩, ⟨h3, .str (S [34]) t3, .str (S [34]) u3⟩]
def escGet (z : Str) (y : V) : V := if z = S [110] then .str (S [10]) else if z = S [92] then .str (S [92]) else if z = S [34] then .str (S [34]) else y
def escV : List Nat → V → V
  | [], y => y
  | c :: _, y => match unesc c with | none => y | some x => .str (S [x])
theorem escGet_S (l : List Nat) (hl : l.length ≤ 1) (y : V) : escGet (S l) y = escV l y := by
  have k : ∀ a : Nat, (S l = S [a]) ↔ (l = [a]) := fun a => ⟨fun h => S_inj h, fun h => by rw [h]⟩
  unfold escGet
  match l, hl, k with
  | [], _, _ => rfl
  | [c], _, k =>
    show _ = (match unesc c with | none => y | some x => V.str (S [x]))
    have k2 : ∀ a : Nat, (S [c] = S [a]) ↔ (c = a) := fun a => (k a).trans ⟨fun h => (List.cons.inj h).1, fun h => by rw [h]⟩
    unfold unesc
    by_cases a : c = 110
    · subst a; rfl
    · by_cases b : c = 92
      · subst b; rfl
      · by_cases d : c = 34
        · subst d; rfl
        · rw [if_neg (fun z => a ((k2 _).mp z)), if_neg (fun z => b ((k2 _).mp z)), if_neg (fun z => d ((k2 _).mp z)), if_neg a, if_neg b, if_neg d]
  | c :: e :: t, hl, _ => exact absurd hl (by simp)
theorem escV_none {c : Nat} {t : List Nat} {y : V} (h : unesc c = none) : escV (c :: t) y = y := by
  show (match unesc c with | none => y | some x => V.str (S [x])) = y
  rw [h]
theorem escV_some {c x : Nat} {t : List Nat} {y : V} (h : unesc c = some x) : escV (c :: t) y = .str (S [x]) := by
  show (match unesc c with | none => y | some x => V.str (S [x])) = _
  rw [h]
def tEscGet (d : Addr) (ty tx : TE) : TE := fun σ H Q => ty σ H fun y H2 => tx σ H2 fun v H3 => ∃ z, y = .str z ∧ Q (escGet z v) H3
theorem pe_escGet {X : Cx} {d : Addr} {e f : Expr} {apos cpos p : Pos} {ty tx : TE} (D : EscT X.K X.w X.mg d) (he : PE X e ty) (hf : PE X f tx) (hg : Gl X "ESCAPES" := by rfl)
    (m : M2 X (.Name "ESCAPES" p) "get" apos e f cpos := by exact ⟨rfl, rfl, rfl, rfl⟩) : PE X (.Call (.Attribute (.Name "ESCAPES" p) "get" apos) [e, f] [] cpos) (tEscGet d ty tx) := by
  obtain ⟨gD, low, es, n, h1, h2, h3, t1, t2, t3, u1, u2, u3, lk, lit, hes⟩ := D
  have KD : KDict X.K X.w d es n := ⟨lk, lit, low⟩
  have ho : PE X (.Name "ESCAPES" p) (tC (.ref d)) := pe_glob hg gD (show RelV (.ref d) _ from rfl)
  refine ⟨fun pins s σ H Q I h => ?_⟩
  refine wpAny_Call_method m.base m.few m.line PySem.F.plainAttrs_dict PySem.F.slot_dict_get PySem.F.type_dict_get (thn (ho.run pins s σ H (fun x H1 => x = .ref d ∧ H1 = H) I ⟨rfl, rfl⟩) fun u s1 ⟨x, H1, I1, rx, ex, eH⟩ => ?_)
  subst ex
  subst eH
  obtain rfl : u = Value.ref d := rx
  refine ⟨kd_type KD I1, fun b q => ?_, ?_⟩
  · cases q
    exact ⟨_, I1.kIn _ _ lk, rfl⟩
  rw [m.trees]
  refine Calls.callWith_builtin rfl (Calls.evalArgs_plain (Calls.spliced_cons (thn (he.run pins s1 σ H1 _ I1 h) fun iv s2 ⟨y, H2, I2, ry, q2⟩ =>
    Calls.spliced_cons (thn (hf.run pins s2 σ H2 _ I2 q2) fun fv s3 ⟨v, H3, I3, rv, z, ey, q3⟩ => Calls.spliced_nil ?_))))
  subst ey
  obtain ⟨t, rfl⟩ := ry
  refine call_meetsIn PySem.F.slot_dict_get (kd_type KD I3) PySem.F.entry_dict_get (PySem.F.args_dict_get_3 _ _ _) (meets_dict_get_default (PySem.strKind X.prog X.w) d (PySem.strKind_is X.prog X.w z t) low fv) ⟨_, PySem.W.mapOf_K (prog := X.prog) I3.kIn lk lit, ⟨_, H3, I3.tok _, ?_, q3⟩⟩
  subst hes
  have e1 : ∀ (a : List Nat) (t : Tok), Value.isStrOf z (.str (S a) t) = decide (z = S a) := fun a t => by
    unfold Value.isStrOf
    by_cases h : z = S a
    · subst h; rw [decide_eq_true rfl]; exact beq_self_eq_true _
    · rw [decide_eq_false h]; exact beq_eq_false_iff_ne.mpr (fun q => h q.symm)
  unfold escGet PySem.findBy
  rw [List.find?_toArray, List.find?_cons, List.find?_cons, List.find?_cons, List.find?_nil]
  dsimp only
  rw [e1, e1, e1]
  by_cases a : z = S [110]
  · rw [decide_eq_true a, if_pos a]; exact ⟨u1, rfl⟩
  · rw [decide_eq_false a, if_neg a]
    by_cases b : z = S [92]
    · rw [decide_eq_true b, if_pos b]; exact ⟨u2, rfl⟩
    · rw [decide_eq_false b, if_neg b]
      by_cases c : z = S [34]
      · rw [decide_eq_true c, if_pos c]; exact ⟨u3, rfl⟩
      · rw [decide_eq_false c, if_neg c]; exact rv
end D4
namespace D4
open PySem PySem.Spec PyProof.Rows L2 SX
def spLeaf (CB : Addr) (R : List Nat → Option (D × List Nat)) (pre : List Nat → Prop) : Sp := fun vs H Q E => ∃ (l : List Nat) (i : Nat), vs = [.str (S l), .int i] ∧ l.length ≤ big ∧ i ≤ l.length ∧ l.all rowc = true ∧ pre (l.drop i) ∧
  (∀ d r, R (l.drop i) = some (d, r) → ∀ v p H', Same H H' → Rep H' v d → H' p = some (.tup [v, .int ((l.length - r.length : Nat) : Int)]) → Q (.ref p) H') ∧
  (R (l.drop i) = none → ∀ H', Same H H' → E (.ref CB) none H')
theorem sw_S (l wd : List Nat) (i : Nat) (hw : wd ≠ []) : Txt.startswith3 (S l) (S wd) (i : Int) = decide ((l.drop i).take wd.length = wd) := by
  have e : fromIndex (S l).length (i : Int) = i := by
    unfold fromIndex
    rw [if_neg (by omega)]
    omega
  have hl : (S wd).length = wd.length := S_len wd
  have hp := List.length_pos_iff.mpr hw
  unfold Txt.startswith3
  rw [e]
  by_cases h : (l.drop i).take wd.length = wd
  · rw [decide_eq_true h]
    have a := PySem.StrLaws.take_at (x := S l) (y := S wd) (k := i) (by omega) h
    rw [Bool.and_eq_true]
    exact ⟨decide_eq_true a.1, a.2⟩
  · rw [decide_eq_false h]
    cases z : (decide (i + (S wd).length ≤ (S l).length) && PySem.Builtin.Str.subAt (S l) (S wd) i) with
    | false => rfl
    | true =>
      rw [Bool.and_eq_true] at z
      exact absurd (PySem.StrLaws.at_take (x := S l) (y := S wd) (k := i) ⟨of_decide_eq_true z.1, z.2⟩) h
theorem take_room {l w : List Nat} {i : Nat} (h : (l.drop i).take w.length = w) (hi : i ≤ l.length) : i + w.length ≤ l.length := by
  have := congrArg List.length h
  rw [List.length_take, List.length_drop] at this
  omega
section
variable {P : Program} {w : World} {K : PySem.W.Frag} {mg : Str → Option Value} {base : Heap} {CB : Addr}
theorem ok_read_word (T : Txt K mg) (B : ExcT K mg CB) : OkD P w K mg base (L2.CX P w) 2 "read_word" p_read_word (spLeaf CB wordP fun _ => True) := by
  refine T.g_read_word.okX sc_read_word (fun vs H Q E h => ?_) (fun f cdv A outer s H vs Q E hr h => ?_)
  · obtain ⟨l, i, rfl, _⟩ := h; rfl
  obtain ⟨l, i, rfl, hl, hi, hrow, _, q1, q2⟩ := h
  refine ⟨_, (pss_cons (ps_if (pt_val (pe_bm PySem.F.plainAttrs_str PySem.F.slot_str_startswith PySem.F.type_str_startswith mt_startswith3 (pv 0) (pa_cons pe_str (pa_cons (pv 1) pa_nil)))) (pss_one (ps_ret (pe_tup (pa_cons pe_non (pa_cons (pe_op op_add (pv 1) pe_int) pa_nil))))) pss_nil)
      (pss_cons (ps_if (pt_val (pe_bm PySem.F.plainAttrs_str PySem.F.slot_str_startswith PySem.F.type_str_startswith mt_startswith3 (pv 0) (pa_cons pe_str (pa_cons (pv 1) pa_nil)))) (pss_one (ps_ret (pe_tup (pa_cons pe_bl (pa_cons (pe_op op_add (pv 1) pe_int) pa_nil))))) pss_nil)
      (pss_cons (ps_if (pt_val (pe_bm PySem.F.plainAttrs_str PySem.F.slot_str_startswith PySem.F.type_str_startswith mt_startswith3 (pv 0) (pa_cons pe_str (pa_cons (pv 1) pa_nil)))) (pss_one (ps_ret (pe_tup (pa_cons pe_bl (pa_cons (pe_op op_add (pv 1) pe_int) pa_nil))))) pss_nil)
      (pss_one (ps_raise rfl (takes_of rfl rfl rfl rfl) (pmk_own PySem.F.excBase_ValueError B.xB B.gB B.kB (raises_own B.bB B.tB) (by exact rfl))))))), ?_⟩
  have zs : (Str.ofString "none" = S [110, 111, 110, 101] ∧ Str.ofString "true" = S [116, 114, 117, 101] ∧ Str.ofString "false" = S [102, 97, 108, 115, 101]) := by decide +kernel
  have two : 2 ≤ sizeLine := by decide
  unfold wordP at q1 q2
  refine ⟨_, rfl, rfl, _, rfl, S l, S [110, 111, 110, 101], i, rfl, by rw [← zs.1], _, rfl, ?_⟩
  rw [sw_S l _ i (by simp)]
  by_cases a : (l.drop i).take 4 = [110, 111, 110, 101]
  · rw [decide_eq_true (show (l.drop i).take [110, 111, 110, 101].length = _ from a)]
    refine iteT ⟨_, rfl, _, _, rfl, rfl, two, fun p hp => ?_⟩
    rw [if_pos a] at q1
    have hroom := take_room (w := [110, 111, 110, 101]) a hi
    have hroom : i + 4 ≤ l.length := hroom
    refine q1 .non _ rfl .non p _ (same_new hp _) .non ?_
    rw [upd_same, List.length_drop, List.length_drop]
    show some (HO.tup [.non, .int ((i : Int) + 4)]) = _
    rw [show (l.length - (l.length - i - 4)) = i + 4 by omega]
    rfl
  · rw [decide_eq_false (show ¬ (l.drop i).take [110, 111, 110, 101].length = _ from a)]
    rw [if_neg a] at q1 q2
    refine iteF ⟨_, rfl, rfl, _, rfl, S l, S [116, 114, 117, 101], i, rfl, by rw [← zs.2.1], _, rfl, ?_⟩
    rw [sw_S l _ i (by simp)]
    by_cases b : (l.drop i).take 4 = [116, 114, 117, 101]
    · rw [decide_eq_true (show (l.drop i).take [116, 114, 117, 101].length = _ from b)]
      refine iteT ⟨_, rfl, _, _, rfl, rfl, two, fun p hp => ?_⟩
      rw [if_pos b] at q1
      have hroom := take_room (w := [116, 114, 117, 101]) b hi
      have hroom : i + 4 ≤ l.length := hroom
      refine q1 (.bl true) _ rfl (.bl true) p _ (same_new hp _) (.bl true) ?_
      rw [upd_same, List.length_drop, List.length_drop]
      show some (HO.tup [.bl true, .int ((i : Int) + 4)]) = _
      rw [show (l.length - (l.length - i - 4)) = i + 4 by omega]
      rfl
    · rw [decide_eq_false (show ¬ (l.drop i).take [116, 114, 117, 101].length = _ from b)]
      rw [if_neg b] at q1 q2
      refine iteF ⟨_, rfl, rfl, _, rfl, S l, S [102, 97, 108, 115, 101], i, rfl, by rw [← zs.2.2], _, rfl, ?_⟩
      rw [sw_S l _ i (by simp)]
      by_cases c : (l.drop i).take 5 = [102, 97, 108, 115, 101]
      · rw [decide_eq_true (show (l.drop i).take [102, 97, 108, 115, 101].length = _ from c)]
        refine iteT ⟨_, rfl, _, _, rfl, rfl, two, fun p hp => ?_⟩
        rw [if_pos c] at q1
        have hroom := take_room (w := [102, 97, 108, 115, 101]) c hi
        have hroom : i + 5 ≤ l.length := hroom
        refine q1 (.bl false) _ rfl (.bl false) p _ (same_new hp _) (.bl false) ?_
        rw [upd_same, List.length_drop, List.length_drop]
        show some (HO.tup [.bl false, .int ((i : Int) + 5)]) = _
        rw [show (l.length - (l.length - i - 5)) = i + 5 by omega]
        rfl
      · rw [decide_eq_false (show ¬ (l.drop i).take [102, 97, 108, 115, 101].length = _ from c)]
        rw [if_neg c] at q1 q2
        exact iteF (q2 rfl H (Same.refl H))
end
end D4
namespace D4
open PySem PySem.Spec PyProof.Rows L2 SX NumText
theorem mag_drop {l : List Nat} {i : Nat} (h : negs (l.drop i) = true) : mag (l.drop i) = l.drop (i + 1) := by
  unfold mag; rw [h, if_pos rfl, List.tail_drop]
theorem mag_drop' {l : List Nat} {i : Nat} (h : negs (l.drop i) = false) : mag (l.drop i) = l.drop i := by
  unfold mag; rw [h]; rfl
theorem negs_iff {l : List Nat} : negs l = decide (l.head? = some 45) := by
  unfold negs
  by_cases h : l.head? = some 45
  · rw [h]; rfl
  · rw [decide_eq_false h]; exact beq_eq_false_iff_ne.mpr h
theorem at_drop (l : List Nat) (i : Nat) : l[i]? = (l.drop i).head? := by
  rw [List.head?_drop]
theorem split_at {X : Cx} {body : List Stmt} (n : Nat) {F : TS → Prop} (G : TS → Prop) (h1 : ∃ t, PSs X (body.drop n) t ∧ G t) (h2 : ∀ t, PSs X (body.drop n) t → G t → ∃ u, PSs X body u ∧ F u) : ∃ u, PSs X body u ∧ F u := by
  obtain ⟨t, a, b⟩ := h1
  exact h2 t a b
theorem int_dec {a b : Nat} : decide (V.int (a : Int) = V.int (b : Int)) = decide (a = b) := by
  by_cases h : a = b
  · subst h; rw [decide_eq_true rfl, decide_eq_true rfl]
  · rw [decide_eq_false h, decide_eq_false (fun z => h (by have := V.int.inj z; omega))]
theorem lt_dec {a b : Nat} : decide ((a : Int) < (b : Int)) = decide (a < b) := by
  by_cases h : a < b
  · rw [decide_eq_true h, decide_eq_true (by omega)]
  · rw [decide_eq_false h, decide_eq_false (by omega)]
theorem tw_head {l : List Nat} {a : Nat} {t : List Nat} (h : l.takeWhile isDig = a :: t) : l.head? = some a := by
  cases l with
  | nil => cases h
  | cons b r =>
    rw [List.takeWhile_cons] at h
    split at h
    · injection h with h1 _; rw [h1]; rfl
    · cases h
section
variable {P : Program} {w : World} {K : PySem.W.Frag} {mg : Str → Option Value} {base : Heap} {CB : Addr}
theorem ok_read_number (T : Txt K mg) (B : ExcT K mg CB) (Od : OkD P w K mg base CX0 2 "digits_end" p_digits_end spDigitsEnd) :
    OkD P w K mg base (L2.CX P w) 3 "read_number" p_read_number (spLeaf CB numP fun t => ∃ c, t.head? = some c ∧ (c = 45 ∨ isDig c = true)) := by
  refine T.g_read_number.okX sc_read_number (fun vs H Q E h => ?_) (fun f cdv A outer s H vs Q E hr h => ?_)
  · obtain ⟨l, i, rfl, _⟩ := h; rfl
  obtain ⟨l, i, rfl, hl0, hi, hrow, ⟨c, hc, hcd⟩, q1, q2⟩ := h
  have hl : l.length ≤ 1000000 := hl0
  have z : Str.ofString "-" = S [45] ∧ Str.ofString "0" = S [48] := by decide +kernel
  have two : 2 ≤ sizeLine := by decide
  have hci : l[i]? = some c := by rw [at_drop]; exact hc
  have hilt : i < l.length := (List.getElem?_eq_some_iff.mp hci).1
  have dn : decide (c = 45) = negs (l.drop i) := by
    rw [negs_iff, hc]
    by_cases e : c = 45
    · subst e; rw [decide_eq_true rfl, decide_eq_true rfl]
    · rw [decide_eq_false e, decide_eq_false (fun q => e (Option.some.inj q))]
  refine split_at 2 (fun t => ∀ j : Nat, j ≤ l.length → mag (l.drop i) = l.drop j → decide (i < j) = negs (l.drop i) → i ≤ j ∧ j ≤ i + 1 → t { nx := fun _ H' => Q .non H', rt := Q } [some (.str (S l)), some (.int i), some (.int (j : Nat)), none] H) ?_ (fun t ht hg => ?_)
  rotate_left
  · refine ⟨_, pss_cons (ps_set (i := 2) sc_read_number.nd rfl (.inl rfl) (pv 1)) (pss_cons (ps_if (pt_cmpR op_eq (pe_ix ix_str (pv 0) (pv 1) (fun _ _ => rfl)) pe_str (nomark _)) (pss_one (ps_set (i := 2) sc_read_number.nd rfl (.inl rfl) (pe_op op_add (pv 1) pe_int))) pss_nil) ht), ?_⟩
    refine ⟨_, rfl, _, rfl, _, rfl, S l, i, c, rfl, rfl, S_line hl0, at_S hci, rfl, _, rfl, ?_⟩
    rw [z.1]
    show if decide (V.str (S [c]) = V.str (S [45])) = true then _ else _
    rw [one_dec, dn]
    cases hn : negs (l.drop i) with
    | true =>
      refine iteT ⟨_, rfl, _, _, rfl, rfl, ?_⟩
      exact hg (i + 1) (by omega) (mag_drop hn) (by rw [hn]; exact decide_eq_true (by omega)) ⟨by omega, by omega⟩
    | false => exact iteF (hg i hi (mag_drop' hn) (by rw [hn]; exact decide_eq_false (by omega)) ⟨by omega, by omega⟩)
  · refine split_at 3 (fun t => ∀ j : Nat, j ≤ l.length → mag (l.drop i) = l.drop j → numBad (l.drop i) = false → (negs (l.drop i) = true → j = i + 1) → (negs (l.drop i) = false → j = i) →
      t { nx := fun _ H' => Q .non H', rt := Q } [some (.str (S l)), some (.int i), some (.int (j : Nat)), some (.int ((j + ((l.drop j).takeWhile isDig).length : Nat) : Int))] H) ?_ (fun t ht hg => ?_)
    · refine ⟨_, (pss_one (ps_ret (pe_tup (pa_cons (pe_callTy call_int_str (by rfl) T.z_int PyProof.Rows.boot_int (pa_cons (pe_slice sl_str (pv 0) (po_some (pv 1)) (po_some (pv 3))) pa_nil)) (pa_cons (pv 3) pa_nil))))), ?_⟩
      intro j hj hm hb hn1 hn2
      have hdig := tw_digits (l.drop j)
      have hsum := congrArg List.length (List.takeWhile_append_dropWhile (p := isDig) (l := l.drop j))
      have happ := List.takeWhile_append_dropWhile (p := isDig) (l := l.drop j)
      rw [List.length_append, List.length_drop] at hsum
      have nr : (mag (l.drop i)).dropWhile isDig = (l.drop j).dropWhile isDig := by rw [hm]
      have nb : numBad (l.drop i) = (decide (((l.drop j).takeWhile isDig) = []) || decide (80 < ((l.drop j).takeWhile isDig).length) || (decide (((l.drop j).takeWhile isDig).head? = some 48) && (decide (1 < ((l.drop j).takeWhile isDig).length) || negs (l.drop i)))) := by unfold numBad; rw [hm]
      have nv : numV (l.drop i) = if negs (l.drop i) then -((digitsVal ((l.drop j).takeWhile isDig) : Nat) : Int) else ((digitsVal ((l.drop j).takeWhile isDig) : Nat) : Int) := by unfold numV; rw [hm]
      have q := q1 _ _ (show numP (l.drop i) = some (.int (numV (l.drop i)), (mag (l.drop i)).dropWhile isDig) by unfold numP; rw [hb]; rfl)
      rw [nr] at q
      generalize (l.drop j).takeWhile isDig = tw at *
      rw [hb] at nb
      have nb := nb.symm
      rw [Bool.or_eq_false_iff, Bool.or_eq_false_iff] at nb
      have b1 := of_decide_eq_false nb.1.1
      have b2 := of_decide_eq_false nb.1.2
      have hiv : ∃ n : Int, intText? (cutS (S l) (some (i : Int)) (some ((j + tw.length : Nat) : Int))) = some n ∧ n = numV (l.drop i) ∧ (cutS (S l) (some (i : Int)) (some ((j + tw.length : Nat) : Int))).length ≤ 640 := by
        cases hn : negs (l.drop i) with
        | true =>
          have ej := hn1 hn
          have ed : l.drop i = 45 :: l.drop j := by
            have h45 : (l.drop i).head? = some 45 := by rw [negs_iff] at hn; exact of_decide_eq_true hn
            rw [cons_of h45, List.tail_drop, ej]
          have ec : cutS (S l) (some (i : Int)) (some ((j + tw.length : Nat) : Int)) = S (45 :: tw) := by
            rw [cut_nn l i (j + tw.length) (by omega), ed, ← happ, show j + tw.length - i = tw.length + 1 by omega, List.take_succ_cons, List.take_left']
            rfl
          rw [ec, S_len]
          refine ⟨_, intText_neg (x := S (45 :: tw)) rfl hdig b1 (by rw [S_len]; show tw.length + 1 ≤ 4300; omega), ?_, by show tw.length + 1 ≤ 640; omega⟩
          rw [nv, hn, if_pos rfl]
        | false =>
          have ej := hn2 hn
          have ec : cutS (S l) (some (i : Int)) (some ((j + tw.length : Nat) : Int)) = S tw := by
            rw [cut_nn l i (j + tw.length) (by omega), ← ej, ← happ, show j + tw.length - j = tw.length by omega, List.take_left']
            rfl
          rw [ec, S_len]
          refine ⟨_, intText_digits (x := S tw) hdig b1 (by rw [S_len]; omega), ?_, by omega⟩
          rw [nv, hn]; rfl
      obtain ⟨n, hi1, hi2, hi3⟩ := hiv
      refine ⟨_, rfl, _, rfl, _, rfl, _, rfl, _, rfl, S l, rfl, S_line hl0, _, n, rfl, hi1, hi3, _, rfl, two, fun p hp => ?_⟩
      refine q (.int n) p _ (same_new hp _) (by rw [hi2]; exact .int _) ?_
      rw [upd_same, show l.length - ((l.drop j).dropWhile isDig).length = j + tw.length by omega]
    refine ⟨_, pss_cons (ps_set (i := 3) sc_read_number.nd rfl (.inl rfl) (pcall Od hr (pa_cons (pv 0) (pa_cons (pv 2) pa_nil)))) (pss_cons
    (ps_if (PW.pt (pw_or (pt_cmpR op_eq (pv 3) (pv 2) (nomark _)) (pw_or1 (pt_cmpR op_gt (pe_op op_sub (pv 3) (pv 2)) (pe_gI T.c_DIGIT_LIMIT) (nomark _))))) (pss_one (ps_raise rfl (takes_of rfl rfl rfl rfl) (pmk_own PySem.F.excBase_ValueError B.xB B.gB B.kB (raises_own B.bB B.tB) (by exact rfl)))) pss_nil) (pss_cons
    (ps_if (PW.pt (pw_and (pt_cmpR op_eq (pe_ix ix_str (pv 0) (pv 2) (fun _ _ => rfl)) pe_str (nomark _)) (pw_and1 (PW.pt (pw_or (pt_cmpR op_gt (pe_op op_sub (pv 3) (pv 2)) pe_int (nomark _)) (pw_or1 (pt_cmpR op_gt (pv 2) (pv 1) (nomark _)))))))) (pss_one (ps_raise rfl (takes_of rfl rfl rfl rfl) (pmk_own PySem.F.excBase_ValueError B.xB B.gB B.kB (raises_own B.bB B.tB) (by exact rfl)))) pss_nil) ht)), ?_⟩
    intro j hj hm hneg hij
    have hdig := tw_digits (l.drop j)
    have hsum := congrArg List.length (List.takeWhile_append_dropWhile (p := isDig) (l := l.drop j))
    rw [List.length_append, List.length_drop] at hsum
    have nb : numBad (l.drop i) = (decide (((l.drop j).takeWhile isDig) = []) || decide (80 < ((l.drop j).takeWhile isDig).length) || (decide (((l.drop j).takeWhile isDig).head? = some 48) && (decide (1 < ((l.drop j).takeWhile isDig).length) || negs (l.drop i)))) := by unfold numBad; rw [hm]
    have nv : numV (l.drop i) = if negs (l.drop i) then -((digitsVal ((l.drop j).takeWhile isDig) : Nat) : Int) else ((digitsVal ((l.drop j).takeWhile isDig) : Nat) : Int) := by unfold numV; rw [hm]
    have nr : (mag (l.drop i)).dropWhile isDig = (l.drop j).dropWhile isDig := by rw [hm]
    have npn : numBad (l.drop i) = true → E (.ref CB) none H := fun h => q2 (by unfold numP; rw [h]; rfl) H (Same.refl H)
    generalize htw : (l.drop j).takeWhile isDig = tw at *
    refine ⟨_, rfl, _, rfl, l, j, rfl, hl0, hj, ?_⟩
    rw [htw]
    refine ⟨_, rfl, _, rfl, rfl, _, rfl, ?_⟩
    rw [int_dec]
    by_cases e1 : tw = []
    · rw [e1, decide_eq_true (by simp)]
      refine iteT (iteT (npn ?_))
      rw [nb, e1]; rfl
    · have hpos := List.length_pos_iff.mpr e1
      rw [decide_eq_false (show ¬ j + tw.length = j by omega)]
      refine iteF ⟨_, rfl, _, rfl, _, _, rfl, rfl, _, _, rfl, rfl, _, rfl, ?_⟩
      rw [show ((j + tw.length : Nat) : Int) - (j : Int) = ((tw.length : Nat) : Int) by omega, show (80 : Int) = ((80 : Nat) : Int) from rfl, lt_dec]
      by_cases e2 : 80 < tw.length
      · rw [decide_eq_true e2]
        refine iteT (npn ?_)
        rw [nb, decide_eq_true e2]; simp
      · rw [decide_eq_false e2]
        refine iteF ?_
        obtain ⟨a, t, et⟩ : ∃ a t, tw = a :: t := by cases tw with | nil => exact absurd rfl e1 | cons a t => exact ⟨a, t, rfl⟩
        have hja : l[j]? = some a := by rw [at_drop]; exact tw_head (htw.trans et)
        have hfin := hg j hj hm
        rw [htw] at hfin
        have hgo : numBad (l.drop i) = false → _ := fun h => hfin h (fun hn => ?_) (fun hn => ?_)
        rotate_left
        · rw [hn] at hneg; have := of_decide_eq_true hneg; omega
        · rw [hn] at hneg; have := of_decide_eq_false hneg; omega
        refine ⟨_, rfl, _, rfl, S l, j, a, rfl, rfl, S_line hl0, at_S hja, rfl, _, rfl, ?_⟩
        rw [z.2]
        show if decide (V.str (S [a]) = V.str (S [48])) = true then _ else _
        rw [one_dec]
        have e48 : decide (tw.head? = some 48) = decide (a = 48) := by
          rw [et]
          show decide (some a = some 48) = _
          by_cases e : a = 48
          · subst e; rw [decide_eq_true rfl, decide_eq_true rfl]
          · rw [decide_eq_false e, decide_eq_false (fun q => e (Option.some.inj q))]
        rw [decide_eq_false e1, decide_eq_false e2, Bool.false_or, Bool.false_or, e48] at nb
        by_cases e3 : a = 48
        · rw [decide_eq_true e3] at nb ⊢
          rw [Bool.true_and] at nb
          refine iteT ⟨_, rfl, _, rfl, _, _, rfl, rfl, _, _, rfl, rfl, _, rfl, ?_⟩
          rw [show ((j + tw.length : Nat) : Int) - (j : Int) = ((tw.length : Nat) : Int) by omega, show (1 : Int) = ((1 : Nat) : Int) from rfl, lt_dec]
          by_cases e4 : 1 < tw.length
          · rw [decide_eq_true e4]
            refine iteT (iteT (npn ?_))
            rw [nb, decide_eq_true e4]; rfl
          · rw [decide_eq_false e4]
            refine iteF ⟨_, rfl, _, rfl, _, _, rfl, rfl, _, rfl, ?_⟩
            rw [lt_dec, hneg]
            rw [decide_eq_false e4, Bool.false_or] at nb
            cases hn : negs (l.drop i) with
            | true =>
              refine iteT (npn ?_)
              rw [nb, hn]
            | false =>
              refine iteF (hgo ?_)
              rw [nb, hn]
        · rw [decide_eq_false e3] at nb ⊢
          exact iteF (iteF (hgo nb))
end
end D4
namespace D4
open PySem PySem.Spec PyProof.Rows L2 SX
def strD (l : List Nat) : Option (D × List Nat) := (strP l.tail).map fun p => (.str p.1, p.2)
theorem at1_nil {l : List Nat} {i : Nat} (h : l.drop i = []) : at1 l i = [] := by unfold at1; rw [h]; rfl
theorem at1_cons {l : List Nat} {i c : Nat} {t : List Nat} (h : l.drop i = c :: t) : at1 l i = [c] := by unfold at1; rw [h]; rfl
theorem drop_next {l : List Nat} {i c : Nat} {t : List Nat} (h : l.drop i = c :: t) : l.drop (i + 1) = t ∧ i < l.length := by
  have h1 : l.drop (i + 1) = (l.drop i).tail := by rw [List.tail_drop]
  refine ⟨by rw [h1, h]; rfl, ?_⟩
  have := congrArg List.length h
  rw [List.length_drop] at this
  simp at this; omega
theorem join_one (l : List Nat) : Txt.join (S []) (l.map fun c => S [c]) = S l := by
  have e : (l.map fun c => S [c]) = (l.map fun c => [c]).map S := by rw [List.map_map]; rfl
  rw [e, join_S]
  congr 1
  induction l with
  | nil => rfl
  | cons a t ih =>
    cases t with
    | nil => rfl
    | cons b r =>
      have ih := ih (by rw [List.map_map]; rfl)
      show [a] ++ ([] ++ TL.joinL [] ([b] :: r.map fun c => [c])) = a :: b :: r
      show a :: (TL.joinL [] ([b] :: r.map fun c => [c])) = a :: b :: r
      have ih' : TL.joinL [] ([b] :: r.map fun c => [c]) = b :: r := ih
      rw [ih']
section
variable {P : Program} {w : World} {K : PySem.W.Frag} {mg : Str → Option Value} {base : Heap} {CB dE : Addr}
theorem ok_read_escaped (T : Txt K mg) (B : ExcT K mg CB) (DE : EscT K w mg dE) :
    OkD P w K mg base (L2.CX P w) 2 "read_escaped" p_read_escaped (spLeaf CB strD fun t => t.head? = some 34) := by
  refine T.g_read_escaped.okX sc_read_escaped (fun vs H Q E h => ?_) (fun f cdv A outer s H vs Q E hr h => ?_)
  · obtain ⟨l, i, rfl, _⟩ := h; rfl
  obtain ⟨l, i, rfl, hl0, hi, hrow, hh, q1, q2⟩ := h
  have hl : l.length ≤ 1000000 := hl0
  have z : Str.ofString "" = S [] ∧ Str.ofString "\\" = S [92] ∧ Str.ofString "\"" = S [34] := by decide +kernel
  refine ⟨_, (pss_cons (ps_set (i := 2) sc_read_escaped.nd rfl (.inl rfl) (pe_lst pa_nil))
      (pss_cons (ps_set (i := 3) sc_read_escaped.nd rfl (.inl rfl) (pe_op op_add (pv 1) pe_int))
      (pss_cons (ps_while (passes_of rfl) (pt_cmpR op_ne (pe_slice sl_str (pv 0) (po_some (pv 3)) (po_some (pe_op op_add (pv 3) pe_int))) pe_str (nomark _))
      (pss_cons (ps_set (i := 4) sc_read_escaped.nd rfl (.inl rfl) (pe_slice sl_str (pv 0) (po_some (pv 3)) (po_some (pe_op op_add (pv 3) pe_int))))
      (pss_cons (ps_if (pt_cmpR op_eq (pv 4) pe_str (nomark _)) (pss_cons (ps_aug (i := 3) sc_read_escaped.nd rfl (.inl rfl) pe_int ip_add)
      (pss_one (ps_set (i := 4) sc_read_escaped.nd rfl (.inl rfl) (pe_escGet DE (pe_slice sl_str (pv 0) (po_some (pv 3)) (po_some (pe_op op_add (pv 3) pe_int))) pe_str)))) pss_nil)
      (pss_cons (ps_if (pt_cmpR op_eq (pv 4) pe_str (nomark _)) (pss_one (ps_raise rfl (takes_of rfl rfl rfl rfl) (pmk_own PySem.F.excBase_ValueError B.xB B.gB B.kB (raises_own B.bB B.tB) (by exact rfl)))) pss_nil)
      (pss_cons (ps_expr (pe_bm PySem.F.plainAttrs_list PySem.F.slot_list_append PySem.F.type_list_append mt_append (pv 2) (pa_cons (pv 4) pa_nil)))
      (pss_one (ps_aug (i := 3) sc_read_escaped.nd rfl (.inl rfl) pe_int ip_add)))))))
      (pss_one (ps_ret (pe_tup (pa_cons (pe_join pe_str (pv 2)) (pa_cons (pe_op op_add (pv 3) pe_int) pa_nil)))))))), ?_⟩
  obtain ⟨t0, ht0⟩ : ∃ t0, l.drop i = 34 :: t0 := ⟨_, cons_of hh⟩
  obtain ⟨hd0, hlt0⟩ := drop_next ht0
  have hR : strD (l.drop i) = (strP (l.drop (i + 1))).map fun p => (.str p.1, p.2) := by unfold strD; rw [List.tail_drop]
  refine ⟨Nat.zero_le _, fun D hD => ?_⟩
  refine ⟨_, rfl, _, _, rfl, rfl, ?_⟩
  refine ⟨fun m σ H' => ∃ (k : Nat) (acc : List Nat) (y : Option V), σ = [some (.str (S l)), some (.int i), some (.ref D), some (.int k), y] ∧ m = l.length + 1 - k ∧ k ≤ l.length ∧ acc.length + (i + 1) ≤ k ∧ Same H H' ∧
      H' D = some (.lst (acc.map fun c => V.str (S [c]))) ∧ strP (l.drop (i + 1)) = (strP (l.drop k)).map fun p => (acc ++ p.1, p.2),
    ⟨_, i + 1, [], none, rfl, rfl, by omega, by simp, same_new hD _, upd_same, ?_⟩, ?_⟩
  · cases strP (l.drop (i + 1)) <;> rfl
  rintro m σ H' ⟨k, acc, y, rfl, rfl, hk, hacc, sm, hD', he⟩
  refine ⟨_, rfl, _, rfl, k, rfl, _, rfl, _, _, rfl, rfl, _, rfl, S l, rfl, S_line hl0, rfl, _, rfl, ?_⟩
  have noneE : strP (l.drop k) = none → E (.ref CB) none H' := fun h => q2 (by rw [hR, he, h]; rfl) H' sm
  rw [at1_cut, z.2.2, at1_eq]
  -- sign = text[at:at + 1]
  have two : 2 ≤ sizeLine := by decide
  have lim : (1000000 : Nat) < sizeLine := by decide
  cases hcs : l.drop k with
  | nil =>
    rw [decide_eq_false (show ¬ ([] : List Nat).head? = some 34 from fun z => by cases z)]
    refine iteT ⟨_, fun _ _ h => h, ?_⟩
    refine ⟨_, rfl, _, rfl, k, rfl, _, rfl, _, _, rfl, rfl, _, rfl, S l, rfl, S_line hl0, ?_⟩
    rw [at1_cut, at1_nil hcs]
    refine ⟨_, rfl, rfl, _, rfl, ?_⟩
    rw [z.2.1, str_dec]
    refine iteF ⟨_, rfl, rfl, _, rfl, ?_⟩
    rw [z.1, str_dec]
    exact iteT (noneE (by rw [hcs, strP_nil]))
  | cons c t =>
    obtain ⟨hd1, hlt1⟩ := drop_next hcs
    by_cases c34 : c = 34
    · rw [c34] at hcs
      rw [c34, decide_eq_true (show (34 :: t).head? = some 34 from rfl)]
      refine iteF ?_
      have hs : strP (l.drop (i + 1)) = some (acc, t) := by rw [he, hcs, strP_end]; show some (acc ++ [], t) = _; rw [List.append_nil]
      refine ⟨⟨S [], by rw [← z.1]⟩, _, rfl, S [], D, acc.map fun c => S [c], by rw [← z.1], rfl, .inl (SqL.of (by rw [hD', List.map_map]; rfl)), ?_, _, rfl, _, _, rfl, rfl, two, fun p hp => ?_⟩
      · have e : ((acc.map fun c => S [c]).map (·.length)).sum = acc.length := by
          clear he hs hD' hacc
          induction acc with
          | nil => rfl
          | cons a t ih => rw [List.map_cons, List.map_cons, List.sum_cons, ih, List.length_cons]; show 1 + _ = _; omega
        rw [e]
        show _ + _ * 0 ≤ _
        omega
      · refine q1 (.str acc) t (by rw [hR, hs]; rfl) _ p _ (sm.trans (same_new hp _)) (.str acc) ?_
        rw [upd_same, join_one]
        have hlen := congrArg List.length hcs
        rw [List.length_drop, List.length_cons] at hlen
        show some (HO.tup [.str (S acc), .int ((k : Int) + 1)]) = _
        rw [show (l.length - t.length) = k + 1 by omega]
        rfl
    · rw [decide_eq_false (show ¬ (c :: t).head? = some 34 from fun z => c34 (Option.some.inj z))]
      refine iteT ⟨_, fun _ _ h => h, ?_⟩
      refine ⟨_, rfl, _, rfl, k, rfl, _, rfl, _, _, rfl, rfl, _, rfl, S l, rfl, S_line hl0, ?_⟩
      rw [at1_cut, at1_cons hcs]
      refine ⟨_, rfl, rfl, _, rfl, ?_⟩
      rw [z.2.1]
      show if decide (V.str (S [c]) = V.str (S [92])) = true then _ else _
      rw [one_dec]
      by_cases c92 : c = 92
      · rw [decide_eq_true c92]
        have hcs' := hcs
        rw [c92] at hcs'
        refine iteT ⟨_, rfl, _, _, rfl, rfl, ?_⟩
        refine ⟨_, rfl, _, rfl, (k : Int) + 1, rfl, _, rfl, _, _, rfl, rfl, _, rfl, S l, rfl, S_line hl0, _, rfl, ?_⟩
        have ec := at1_cut l (k + 1)
        rw [show (((k + 1 : Nat)) : Int) = (k : Int) + 1 by omega] at ec
        rw [ec, escGet_S _ (by unfold at1; rw [List.length_take]; omega), z.1]
        cases t with
        | nil =>
          rw [at1_nil hd1, show escV [] (.str (S [])) = .str (S []) from rfl]
          refine ⟨_, rfl, rfl, _, rfl, ?_⟩
          show if decide (V.str (S []) = V.str (S [])) = true then _ else _
          rw [str_dec]
          exact iteT (noneE (by rw [hcs', strP_esc0]))
        | cons e t' =>
          rw [at1_cons hd1]
          obtain ⟨hd2, hlt2⟩ := drop_next hd1
          cases hu : unesc e with
          | none =>
            have ev : escV [e] (.str (S [])) = .str (S []) := escV_none hu
            rw [ev]
            refine ⟨_, rfl, rfl, _, rfl, ?_⟩
            exact ite2 (fun _ => noneE (by rw [hcs', strP_esc, hu])) (fun n => absurd (decide_eq_true rfl) n)
          | some x =>
            have ev : escV [e] (.str (S [])) = .str (S [x]) := escV_some hu
            rw [ev]
            refine ⟨_, rfl, rfl, _, rfl, ?_⟩
            refine ite2 (fun y => absurd (S_inj (V.str.inj (of_decide_eq_true y))) (by simp)) (fun _ => ?_)
            refine ⟨_, rfl, .inl ⟨rfl, _, SqL.of hD'⟩, _, rfl, D, _, _, rfl, rfl, hD', by rw [List.length_map]; omega, ?_⟩
            refine ⟨_, rfl, _, _, rfl, rfl, ?_⟩
            refine ⟨l.length + 1 - (k + 2), by omega, k + 2, acc ++ [x], some (.str (S [x])), ?_, rfl, by omega, by rw [List.length_append]; show _ + 1 + _ ≤ _; omega, ?_, ?_, ?_⟩
            · show [_, _, _, some (V.int ((k : Int) + 1 + 1)), _] = _
              rw [show (((k + 2 : Nat)) : Int) = (k : Int) + 1 + 1 by omega]
            · intro b o ee
              rw [upd_ne (ne_of_none ee hD)]; exact sm _ _ ee
            · rw [upd_same, List.map_append]; rfl
            · rw [he, hcs', strP_esc, hu, hd2]
              show ((strP t').map _).map _ = _
              rw [Option.map_map]
              congr 1
              funext p
              show (acc ++ x :: p.1, p.2) = (acc ++ [x] ++ p.1, p.2)
              rw [List.append_assoc]; rfl
      · rw [decide_eq_false c92]
        have hrc : rowc c = true := by
          have hm : c ∈ l := List.mem_of_mem_drop (by rw [hcs]; exact List.mem_cons_self ..)
          exact List.all_eq_true.mp hrow c hm
        refine iteF ⟨_, rfl, rfl, _, rfl, ?_⟩
        rw [z.1, str_dec]
        refine iteF ⟨_, rfl, .inl ⟨rfl, _, SqL.of hD'⟩, _, rfl, D, _, _, rfl, rfl, hD', by rw [List.length_map]; omega, ?_⟩
        refine ⟨_, rfl, _, _, rfl, rfl, ?_⟩
        refine ⟨l.length + 1 - (k + 1), by omega, k + 1, acc ++ [c], some (.str (S [c])), ?_, rfl, by omega, by rw [List.length_append]; show _ + 1 + _ ≤ _; omega, ?_, ?_, ?_⟩
        · rfl
        · intro b o ee
          rw [upd_ne (ne_of_none ee hD)]; exact sm _ _ ee
        · rw [upd_same, List.map_append]; rfl
        · rw [he, hcs, strP_raw _ c34 c92, hrc, if_pos rfl, hd1, Option.map_map]
          congr 1
          funext p
          show (acc ++ c :: p.1, p.2) = (acc ++ [c] ++ p.1, p.2)
          rw [List.append_assoc]; rfl
end
end D4
namespace D4
open PySem PySem.Spec PyProof.Rows L2 SX
theorem strP_no : ∀ l : List Nat, 34 ∉ l → strP l = none := by
  refine strP_ind ?_ ?_ ?_ ?_ ?_
  · intro _; exact strP_nil
  · intro t h; exact absurd (List.mem_cons_self ..) h
  · intro _; exact strP_esc0
  · intro e t ih h
    rw [strP_esc, ih (fun z => h (List.mem_cons_of_mem _ (List.mem_cons_of_mem _ z)))]
    cases unesc e <;> rfl
  · intro c t h1 h2 ih h
    rw [strP_raw _ h1 h2, ih (fun z => h (List.mem_cons_of_mem _ z))]
    split <;> rfl
theorem strP_plain (t : List Nat) : ∀ u : List Nat, 34 ∉ u → 92 ∉ u → u.all rowc = true → strP (u ++ 34 :: t) = some (u, t)
  | [], _, _, _ => strP_end t
  | c :: u, h1, h2, h3 => by
    rw [List.all_cons, Bool.and_eq_true] at h3
    have ih := strP_plain t u (fun z => h1 (List.mem_cons_of_mem _ z)) (fun z => h2 (List.mem_cons_of_mem _ z)) h3.2
    show strP (c :: (u ++ 34 :: t)) = _
    rw [strP_raw _ (fun z => h1 (by rw [z]; exact List.mem_cons_self ..)) (fun z => h2 (by rw [z]; exact List.mem_cons_self ..)), ih, h3.1]
    rfl
section
variable {P : Program} {w : World} {K : PySem.W.Frag} {mg : Str → Option Value} {base : Heap} {CB dE : Addr}
theorem ok_read_text (T : Txt K mg) (B : ExcT K mg CB) (Oe : OkD P w K mg base (L2.CX P w) 2 "read_escaped" p_read_escaped (spLeaf CB strD fun t => t.head? = some 34)) :
    OkD P w K mg base (L2.CX P w) 3 "read_text" p_read_text (spLeaf CB strD fun t => t.head? = some 34) := by
  refine T.g_read_text.okX sc_read_text (fun vs H Q E h => ?_) (fun f cdv A outer s H vs Q E hr h => ?_)
  · obtain ⟨l, i, rfl, _⟩ := h; rfl
  obtain ⟨l, i, rfl, hl0, hi, hrow, hh, q1, q2⟩ := h
  have hl : l.length ≤ 1000000 := hl0
  have z : Str.ofString "\"" = S [34] ∧ Str.ofString "\\" = S [92] := by decide +kernel
  have two : 2 ≤ sizeLine := by decide
  refine ⟨_, (pss_cons (ps_set (i := 2) sc_read_text.nd rfl (.inl rfl) (pe_bm PySem.F.plainAttrs_str PySem.F.slot_str_find PySem.F.type_str_find mt_find3 (pv 0) (pa_cons pe_str (pa_cons (pe_op op_add (pv 1) pe_int) pa_nil))))
      (pss_cons (ps_if (pt_cmpR op_lt (pv 2) pe_int (nomark _)) (pss_one (ps_raise rfl (takes_of rfl rfl rfl rfl) (pmk_own PySem.F.excBase_ValueError B.xB B.gB B.kB (raises_own B.bB B.tB) (by exact rfl)))) pss_nil)
      (pss_cons (ps_set (i := 3) sc_read_text.nd rfl (.inl rfl) (pe_slice sl_str (pv 0) (po_some (pe_op op_add (pv 1) pe_int)) (po_some (pv 2))))
      (pss_cons (ps_if (pt_cmpR op_notIn_sign pe_str (pv 3) (by rfl)) (pss_one (ps_ret (pe_tup (pa_cons (pv 3) (pa_cons (pe_op op_add (pv 2) pe_int) pa_nil))))) pss_nil)
      (pss_one (ps_ret (pcallE Oe hr (passes_call (takes_of rfl rfl rfl rfl) (fun _ _ _ _ h => h)) (pa_cons (pv 0) (pa_cons (pv 1) pa_nil))))))))), ?_⟩
  obtain ⟨t0, ht0⟩ : ∃ t0, l.drop i = 34 :: t0 := ⟨_, cons_of hh⟩
  obtain ⟨hd0, hlt0⟩ := drop_next ht0
  have hR : strD (l.drop i) = (strP (l.drop (i + 1))).map fun p => (.str p.1, p.2) := by unfold strD; rw [List.tail_drop]
  have hfi : fromIndex (S l).length ((i : Int) + 1) = i + 1 := by unfold fromIndex; rw [if_neg (by omega)]; omega
  have hsp := PySem.StrLaws.find3_spec (S l) 34 ((i : Int) + 1)
  rw [hfi] at hsp
  have ez : Str.ofString "\"" = ⟨#[34]⟩ := z.1
  refine ⟨_, rfl, rfl, _, rfl, _, _, rfl, rfl, S l, _, (i : Int) + 1, rfl, rfl, ?_⟩
  rw [ez]
  rcases hsp with ⟨e, hn⟩ | ⟨k, e, h1, h2, h3, h4⟩
  · rw [e]
    refine ⟨_, rfl, _, _, rfl, rfl, _, rfl, iteT (q2 ?_ H (Same.refl H))⟩
    rw [hR, strP_no _ ?_]; rfl
    intro hm
    obtain ⟨v, hv, hv2⟩ := List.getElem_of_mem hm
    rw [List.length_drop] at hv
    rw [List.getElem_drop] at hv2
    refine hn (i + 1 + v) (by omega) (by rw [S_len]; omega) ?_
    refine PySem.StrLaws.getD_of_getElem? ?_
    show l[i + 1 + v]? = some 34
    rw [List.getElem?_eq_getElem (by omega), hv2]
  · rw [e]
    refine ⟨_, rfl, _, _, rfl, rfl, _, rfl, iteF ?_⟩
    have h2 : k < l.length := by rw [S_len] at h2; exact h2
    have hk34 : l[k]? = some 34 := by
      have := PySem.StrLaws.getElem?_of_getD (x := S l) (by rw [S_len]; exact h2) h3
      exact this
    refine ⟨_, rfl, _, rfl, _, _, rfl, rfl, _, rfl, _, rfl, k, rfl, S l, rfl, S_line hl0, ?_⟩
    have ec := cut_nn l (i + 1) k h1
    rw [show (((i + 1 : Nat)) : Int) = (i : Int) + 1 by omega] at ec
    rw [ec]
    have hsplit : l.drop (i + 1) = (l.drop (i + 1)).take (k - (i + 1)) ++ 34 :: l.drop (k + 1) := by
      have e1 : (l.drop (i + 1)).drop (k - (i + 1)) = 34 :: l.drop (k + 1) := by
        rw [List.drop_drop, show i + 1 + (k - (i + 1)) = k by omega, List.drop_eq_getElem_cons h2]
        congr 1
        rw [List.getElem?_eq_getElem h2] at hk34
        exact Option.some.inj hk34
      rw [← e1, List.take_append_drop]
    have hu34 : 34 ∉ (l.drop (i + 1)).take (k - (i + 1)) := by
      intro hm
      obtain ⟨v, hv, hv2⟩ := List.getElem_of_mem hm
      rw [List.length_take, List.length_drop] at hv
      rw [List.getElem_take, List.getElem_drop] at hv2
      refine h4 (i + 1 + v) (by omega) (by omega) ?_
      refine PySem.StrLaws.getD_of_getElem? ?_
      show l[i + 1 + v]? = some 34
      rw [List.getElem?_eq_getElem (by omega), hv2]
    have hurow : ((l.drop (i + 1)).take (k - (i + 1))).all rowc = true := List.all_eq_true.mpr fun c hc => List.all_eq_true.mp hrow c (List.mem_of_mem_drop (List.mem_of_mem_take hc))
    generalize (l.drop (i + 1)).take (k - (i + 1)) = u at *
    refine ⟨_, rfl, 92, S u, by rw [z.2], rfl, _, rfl, ?_⟩
    rw [tl_S]
    by_cases h92 : 92 ∈ u
    · rw [decide_eq_true h92]
      refine iteF ⟨_, rfl, _, rfl, l, i, rfl, hl0, hi, hrow, hh, q1, q2⟩
    · rw [decide_eq_false h92]
      refine iteT ⟨_, rfl, _, rfl, _, _, rfl, rfl, two, fun p hp => ?_⟩
      refine q1 (.str u) (l.drop (k + 1)) (by rw [hR, hsplit, strP_plain _ u hu34 h92 hurow]; rfl) _ p _ (same_new hp _) (.str u) ?_
      rw [upd_same, List.length_drop]
      show some (HO.tup [.str (S u), .int ((k : Int) + 1)]) = _
      rw [show (l.length - (l.length - (k + 1))) = k + 1 by omega]
      rfl
end
end D4
namespace D4
open PySem PySem.Spec PyProof.Rows L2 SX
def spPart (CB : Addr) (pre : List Nat → Prop) (n : Nat) : Sp := fun vs H Q E => ∃ (l : List Nat) (i r : Nat), n = r + 1 ∧ r ≤ 60 ∧ vs = [.str (S l), .int i, .int ((60 - r : Nat) : Int)] ∧ l.length ≤ big ∧ i ≤ l.length ∧ l.all rowc = true ∧ pre (l.drop i) ∧
  (∀ d rest, part r (l.drop i) = some (d, rest) → ∀ v p H', Same H H' → Rep H' v d → H' p = some (.tup [v, .int ((l.length - rest.length : Nat) : Int)]) → Q (.ref p) H') ∧
  (part r (l.drop i) = none → ∀ H', Same H H' → E (.ref CB) none H')
section
variable {P : Program} {w : World} {K : PySem.W.Frag} {mg : Str → Option Value} {base : Heap} {CB dE : Addr}
theorem ok_read_items (T : Txt K mg) (B : ExcT K mg CB) (n k0 : Nat) (hk0 : 2 ≤ k0) (Os : OkD P w K mg base (L2.CX P w) 2 "behind_space" p_behind_space (spBehindSpace CB))
    (Op : OkD P w K mg base (L2.CX P w) k0 "read_part" p_read_part (spPart CB (fun _ => True) n)) :
    OkD P w K mg base (L2.CX P w) (k0 + 1) "read_items" p_read_items (spPart CB (fun t => t.head? = some 40) (n + 1)) := by
  refine T.g_read_items.okX sc_read_items (fun vs H Q E h => ?_) (fun f cdv A outer s H vs Q E hr h => ?_)
  · obtain ⟨l, i, r, _, _, rfl, _⟩ := h; rfl
  obtain ⟨l, i, r, hn, hr60, rfl, hl0, hi, hrow, hh, q1, q2⟩ := h
  have hl : l.length ≤ 1000000 := hl0
  have z : Str.ofString ")" = S [41] := by decide +kernel
  have two : 2 ≤ sizeLine := by decide
  refine ⟨_, (pss_cons (ps_if (pt_cmpR op_eq (pv 2) (pe_gI T.c_DEPTH_LIMIT) (nomark _)) (pss_one (ps_raise rfl (takes_of rfl rfl rfl rfl) (pmk_own PySem.F.excBase_ValueError B.xB B.gB B.kB (raises_own B.bB B.tB) (by exact rfl)))) pss_nil)
      (pss_cons (ps_set (i := 3) sc_read_items.nd rfl (.inl rfl) (pe_lst pa_nil))
      (pss_cons (ps_set (i := 4) sc_read_items.nd rfl (.inl rfl) (pe_op op_add (pv 1) pe_int))
      (pss_cons (ps_while (passes_of rfl) (pt_cmpR op_ne (pe_slice sl_str (pv 0) (po_some (pv 4)) (po_some (pe_op op_add (pv 4) pe_int))) pe_str (nomark _))
      (pss_cons (ps_if (pt_truth (pv 3) (by intro _; rfl)) (pss_one (ps_set (i := 4) sc_read_items.nd rfl (.inl rfl) (pcallE Os hr (passes_call (takes_of rfl rfl rfl rfl) (fun _ _ _ _ h => h)) (pa_cons (pv 0) (pa_cons (pv 4) pa_nil))))) pss_nil)
      (pss_cons (ps_asg (pcallE Op hr (passes_call (takes_of rfl rfl rfl rfl) (fun _ _ _ _ h => h)) (pa_cons (pv 0) (pa_cons (pv 4) (pa_cons (pe_op op_add (pv 2) pe_int) pa_nil)))) (pg_tup (by rfl) (pgs_cons (pg_name (i := 5) sc_read_items.nd rfl (Or.inl rfl)) (pgs_cons (pg_name (i := 4) sc_read_items.nd rfl (Or.inl rfl)) pgs_nil))))
      (pss_one (ps_expr (pe_bm PySem.F.plainAttrs_list PySem.F.slot_list_append PySem.F.type_list_append mt_append (pv 3) (pa_cons (pv 5) pa_nil)))))))
      (pss_one (ps_ret (pe_tup (pa_cons (pe_callTy call_tuple_of (by rfl) T.z_tuple PyProof.Rows.boot_tuple (pa_cons (pv 3) pa_nil)) (pa_cons (pe_op op_add (pv 4) pe_int) pa_nil))))))))), ?_⟩
  obtain ⟨t0, ht0⟩ : ∃ t0, l.drop i = 40 :: t0 := ⟨_, cons_of hh⟩
  obtain ⟨hd0, hlt0⟩ := drop_next ht0
  refine ⟨_, rfl, rfl, _, rfl, ?_⟩
  cases r with
  | zero =>
    refine iteT (q2 ?_ H (Same.refl H))
    unfold part; rw [if_pos hh]
  | succ r =>
  have hne : decide (V.int ((60 - (r + 1) : Nat) : Int) = V.int 60) = false := decide_eq_false (fun z => by have := V.int.inj z; omega)
  rw [hne]
  have hR : part (r + 1) (l.drop i) = (items (part r) (l.drop i).length [] (l.drop (i + 1))).map fun p => (.tup p.1, p.2) := by
    show (if (l.drop i).head? = some 40 then _ else _) = _
    rw [if_pos hh, List.tail_drop]
  refine iteF ⟨Nat.zero_le _, fun D hD => ?_⟩
  refine ⟨_, rfl, _, _, rfl, rfl, ?_⟩
  refine ⟨fun m σ H' => ∃ (k nf : Nat) (acc : List D4.D) (vs : List V) (y : Option V), σ = [some (.str (S l)), some (.int i), some (.int ((60 - (r + 1) : Nat) : Int)), some (.ref D), some (.int k), y] ∧ m = l.length + 1 - k ∧ k ≤ l.length ∧ l.length + 1 ≤ k + nf ∧ acc.length + (i + 1) ≤ k ∧ Same H H' ∧
      H' D = some (.lst vs) ∧ Reps H' vs acc ∧ items (part r) (l.drop i).length [] (l.drop (i + 1)) = items (part r) nf acc (l.drop k),
    ⟨_, i + 1, (l.drop i).length, [], [], none, rfl, rfl, by omega, by rw [List.length_drop]; omega, by simp, same_new hD _, upd_same, .nil, rfl⟩, ?_⟩
  rintro m σ H' ⟨k, nf, acc, vs, y, rfl, rfl, hk, hnf, hacc, sm, hD', rs, he⟩
  refine ⟨_, rfl, _, rfl, k, rfl, _, rfl, _, _, rfl, rfl, _, rfl, S l, rfl, S_line hl0, rfl, _, rfl, ?_⟩
  rw [at1_cut, z, at1_eq]
  obtain ⟨nf, rfl⟩ : ∃ a, nf = a + 1 := ⟨nf - 1, by omega⟩
  have lim : (1000000 : Nat) < sizeLine := by decide
  have noneE : items (part r) (nf + 1) acc (l.drop k) = none → ∀ H2, Same H' H2 → E (.ref CB) none H2 := fun h H2 s2 => q2 (by rw [hR, he, h]; rfl) H2 (sm.trans s2)
  by_cases c41 : (l.drop k).head? = some 41
  · rw [decide_eq_true c41]
    refine iteF ?_
    have hs : items (part r) (nf + 1) acc (l.drop k) = some (acc, (l.drop k).tail) := by unfold items; rw [if_pos c41]
    refine ⟨_, rfl, D, vs, rfl, .inl ⟨SqL.of hD', fun a ha => ?_⟩⟩
    refine ⟨_, rfl, _, _, rfl, rfl, two, fun p hp => ?_⟩
    have s1 : Same H' (upd H' a (.tup vs)) := same_new ha _
    have s2 : Same (upd H' a (.tup vs)) (upd (upd H' a (.tup vs)) p (.tup [V.ref a, V.int ((k : Int) + 1)])) := same_new hp _
    refine q1 (.tup acc) _ (by rw [hR, he, hs]; rfl) (.ref a) p _ (sm.trans (s1.trans s2)) (.tup (s2 _ _ upd_same) (Reps.mono (s1.trans s2) rs)) ?_
    rw [upd_same]
    have hk41 : k < l.length := by
      rcases Nat.lt_or_ge k l.length with h | h
      · exact h
      · rw [List.drop_eq_nil_of_le h] at c41; cases c41
    rw [List.tail_drop, List.length_drop, show (l.length - (l.length - (k + 1))) = k + 1 by omega]
    rfl
  · rw [decide_eq_false c41]
    refine iteT ⟨_, fun _ _ h => h, ?_⟩
    -- if items:
    refine ⟨_, rfl, _, .inl ⟨vs, SqL.of hD', rfl⟩, ?_⟩
    have hitems : ∀ (hb : ¬ (acc ≠ [] ∧ (l.drop k).head? ≠ some 32)), items (part r) (nf + 1) acc (l.drop k) = (match part r (if acc = [] then l.drop k else (l.drop k).tail) with | none => none | some q => items (part r) nf (acc ++ [q.1]) q.2) := fun hb => by
      conv => lhs; unfold items
      rw [if_neg c41, if_neg hb] <;> rfl
    cases vs with
    | nil =>
      have ha0 : acc = [] := by cases rs; rfl
      refine iteF ?_
      have hit := hitems (fun z => z.1 ha0)
      rw [if_pos ha0] at hit
      refine ⟨_, rfl, _, rfl, _, rfl, _, _, rfl, rfl, l, k, r, by omega, by omega, ?_, hl0, by omega, hrow, trivial, fun d rest hp v p H2 s2 rv hp2 => ?_, fun hnone H2 s2 => noneE (by rw [hit, hnone]) H2 s2⟩
      · show [V.str (S l), V.int (k : Int), V.int (((60 - (r + 1) : Nat) : Int) + 1)] = _
        rw [show (((60 - (r + 1) : Nat) : Int) + 1) = ((60 - r : Nat) : Int) by omega]
      obtain ⟨ps1, ps2, ps3⟩ := part_sound r _ d rest hp
      obtain ⟨c, t, ew, _⟩ := wr_ne41 d
      have hlen := congrArg List.length ps1
      rw [List.length_drop, List.length_append, ew, List.length_cons] at hlen
      have hdr : l.drop (l.length - rest.length) = rest := by
        have := congrArg (List.drop (wr d).length) ps1
        rw [List.drop_left, List.drop_drop] at this
        rw [ew, List.length_cons] at this
        rw [show l.length - rest.length = k + (t.length + 1) by omega]
        exact this
      have hD2 := s2 _ _ hD'
      have hvl := rs.len
      refine ⟨p, _, rfl, SqT.of hp2, rfl, v, _, rfl, _, [], rfl, rfl, ?_⟩
      refine ⟨_, rfl, .inl ⟨rfl, _, SqL.of hD2⟩, _, rfl, D, _, _, rfl, rfl, hD2, by omega, ?_⟩
      refine ⟨l.length + 1 - (l.length - rest.length), by omega, l.length - rest.length, nf, acc ++ [d], _, some v, rfl, rfl, by omega, by omega, by rw [List.length_append]; show _ + 1 + _ ≤ _; omega, ?_, upd_same, ?_, ?_⟩
      · intro b o ee
        rw [upd_ne (ne_of_none ee hD)]; exact s2 _ _ (sm _ _ ee)
      · exact ((rs.mono s2).app (.cons rv .nil)).updL hD2
      · rw [he, hit, hp, hdr]
    | cons v0 vs0 =>
      have ha0 : acc ≠ [] := by cases rs; simp
      refine iteT ?_
      refine ⟨_, rfl, _, rfl, l, k, rfl, hl0, fun h32 => ?_, fun h32 => ?_⟩
      rotate_left
      · refine noneE ?_ H' (Same.refl H')
        unfold items
        rw [if_neg c41, if_pos ⟨ha0, h32⟩]
      · have hit := hitems (fun z => z.2 h32)
        rw [if_neg ha0, List.tail_drop] at hit
        have hklt : k < l.length := by
          rcases Nat.lt_or_ge k l.length with h | h
          · exact h
          · rw [List.drop_eq_nil_of_le h] at h32; cases h32
        refine ⟨_, rfl, _, rfl, _, rfl, _, _, rfl, rfl, l, (k + 1), r, by omega, by omega, ?_, hl0, by omega, hrow, trivial, fun d rest hp v p H2 s2 rv hp2 => ?_, fun hnone H2 s2 => noneE (by rw [hit, hnone]) H2 s2⟩
        · show [V.str (S l), V.int ((k + 1 : Nat) : Int), V.int (((60 - (r + 1) : Nat) : Int) + 1)] = _
          rw [show (((60 - (r + 1) : Nat) : Int) + 1) = ((60 - r : Nat) : Int) by omega]
        obtain ⟨ps1, ps2, ps3⟩ := part_sound r _ d rest hp
        obtain ⟨c, t, ew, _⟩ := wr_ne41 d
        have hlen := congrArg List.length ps1
        rw [List.length_drop, List.length_append, ew, List.length_cons] at hlen
        have hdr : l.drop (l.length - rest.length) = rest := by
          have := congrArg (List.drop (wr d).length) ps1
          rw [List.drop_left, List.drop_drop] at this
          rw [ew, List.length_cons] at this
          rw [show l.length - rest.length = (k + 1) + (t.length + 1) by omega]
          exact this
        have hD2 := s2 _ _ hD'
        have hvl := rs.len
        refine ⟨p, _, rfl, SqT.of hp2, rfl, v, _, rfl, _, [], rfl, rfl, ?_⟩
        refine ⟨_, rfl, .inl ⟨rfl, _, SqL.of hD2⟩, _, rfl, D, _, _, rfl, rfl, hD2, by omega, ?_⟩
        refine ⟨l.length + 1 - (l.length - rest.length), by omega, l.length - rest.length, nf, acc ++ [d], _, some v, rfl, rfl, by omega, by omega, by rw [List.length_append]; show _ + 1 + _ ≤ _; omega, ?_, upd_same, ?_, ?_⟩
        · intro b o ee
          rw [upd_ne (ne_of_none ee hD)]; exact s2 _ _ (sm _ _ ee)
        · exact ((rs.mono s2).app (.cons rv .nil)).updL hD2
        · rw [he, hit, hp, hdr]
end
end D4
namespace D4
open PySem PySem.Spec PyProof.Rows L2 SX
def spReadDatum (CB : Addr) : Sp := fun vs H Q E => ∃ (l : List Nat), vs = [.str (S l)] ∧ l.length ≤ big ∧
  (∀ d, l.all rowc = true → part 60 l = some (d, []) → ∀ v H', Same H H' → Rep H' v d → Q v H') ∧
  ((l.all rowc = false ∨ ∀ d, part 60 l ≠ some (d, [])) → ∀ H', Same H H' → E (.ref CB) none H')
section
variable {P : Program} {w : World} {K : PySem.W.Frag} {mg : Str → Option Value} {base : Heap} {CB dE : Addr}
theorem ok_read_part (T : Txt K mg) (n k0 : Nat) (hk0 : 3 ≤ k0) (Od : OkD P w K mg base CX0 1 "is_digit" p_is_digit spIsDigit)
    (Oi : OkD P w K mg base (L2.CX P w) k0 "read_items" p_read_items (spPart CB (fun t => t.head? = some 40) n))
    (Ot : OkD P w K mg base (L2.CX P w) 3 "read_text" p_read_text (spLeaf CB strD fun t => t.head? = some 34))
    (On : OkD P w K mg base (L2.CX P w) 3 "read_number" p_read_number (spLeaf CB numP fun t => ∃ c, t.head? = some c ∧ (c = 45 ∨ isDig c = true)))
    (Ow : OkD P w K mg base (L2.CX P w) 2 "read_word" p_read_word (spLeaf CB wordP fun _ => True)) :
    OkD P w K mg base (L2.CX P w) (k0 + 1) "read_part" p_read_part (spPart CB (fun _ => True) n) := by
  refine T.g_read_part.okX sc_read_part (fun vs H Q E h => ?_) (fun f cdv A outer s H vs Q E hr h => ?_)
  · obtain ⟨l, i, r, _, _, rfl, _⟩ := h; rfl
  obtain ⟨l, i, r, hn, hr60, rfl, hl0, hi, hrow, _, q1, q2⟩ := h
  have z : Str.ofString "(" = S [40] ∧ Str.ofString "\"" = S [34] ∧ Str.ofString "-" = S [45] := by decide +kernel
  refine ⟨_, (pss_cons (ps_set (i := 3) sc_read_part.nd rfl (.inl rfl) (pe_slice sl_str (pv 0) (po_some (pv 1)) (po_some (pe_op op_add (pv 1) pe_int))))
      (pss_cons (ps_if (pt_cmpR op_eq (pv 3) pe_str (nomark _)) (pss_one (ps_ret (pcallE Oi hr (passes_call (takes_of rfl rfl rfl rfl) (fun _ _ _ _ h => h)) (pa_cons (pv 0) (pa_cons (pv 1) (pa_cons (pv 2) pa_nil)))))) pss_nil)
      (pss_cons (ps_if (pt_cmpR op_eq (pv 3) pe_str (nomark _)) (pss_one (ps_ret (pcallE Ot hr (passes_call (takes_of rfl rfl rfl rfl) (fun _ _ _ _ h => h)) (pa_cons (pv 0) (pa_cons (pv 1) pa_nil))))) pss_nil)
      (pss_cons (ps_if (PW.pt (pw_or (pt_cmpR op_eq (pv 3) pe_str (nomark _)) (pw_or1 (pt_val (pcall Od hr (pa_cons (pv 3) pa_nil)))))) (pss_one (ps_ret (pcallE On hr (passes_call (takes_of rfl rfl rfl rfl) (fun _ _ _ _ h => h)) (pa_cons (pv 0) (pa_cons (pv 1) pa_nil))))) pss_nil)
      (pss_one (ps_ret (pcallE Ow hr (passes_call (takes_of rfl rfl rfl rfl) (fun _ _ _ _ h => h)) (pa_cons (pv 0) (pa_cons (pv 1) pa_nil))))))))), ?_⟩
  refine ⟨_, rfl, _, rfl, i, rfl, _, rfl, _, _, rfl, rfl, _, rfl, S l, rfl, S_line hl0, ?_⟩
  rw [at1_cut]
  refine ⟨_, rfl, rfl, _, rfl, ?_⟩
  rw [z.1]
  show if decide (V.str (S (at1 l i)) = V.str (S [40])) = true then _ else _
  rw [at1_eq]
  by_cases c40 : (l.drop i).head? = some 40
  · rw [decide_eq_true c40]
    exact iteT ⟨_, rfl, _, rfl, _, rfl, l, i, r, hn, hr60, rfl, hl0, hi, hrow, c40, q1, q2⟩
  · rw [decide_eq_false c40]
    have hp : part r (l.drop i) = leafP (l.drop i) := by
      cases r with
      | zero => show (if (l.drop i).head? = some 40 then _ else _) = _; rw [if_neg c40]
      | succ r => show (if (l.drop i).head? = some 40 then _ else _) = _; rw [if_neg c40]
    rw [hp] at q1 q2
    unfold leafP at q1 q2
    refine iteF ⟨_, rfl, rfl, _, rfl, ?_⟩
    rw [z.2.1]
    show if decide (V.str (S (at1 l i)) = V.str (S [34])) = true then _ else _
    rw [at1_eq]
    by_cases c34 : (l.drop i).head? = some 34
    · rw [decide_eq_true c34]
      rw [if_pos c34] at q1 q2
      exact iteT ⟨_, rfl, _, rfl, l, i, rfl, hl0, hi, hrow, c34, q1, q2⟩
    · rw [decide_eq_false c34]
      rw [if_neg c34] at q1 q2
      refine iteF ⟨_, rfl, rfl, _, rfl, ?_⟩
      rw [z.2.2]
      show if decide (V.str (S (at1 l i)) = V.str (S [45])) = true then _ else _
      rw [at1_eq]
      by_cases c45 : (l.drop i).head? = some 45
      · rw [decide_eq_true c45]
        rw [if_pos (.inl c45)] at q1 q2
        exact iteT (iteT ⟨_, rfl, _, rfl, l, i, rfl, hl0, hi, hrow, ⟨45, c45, .inl rfl⟩, q1, q2⟩)
      · rw [decide_eq_false c45]
        refine iteF ⟨_, rfl, at1 l i, rfl, by unfold at1; rw [List.length_take]; omega, _, rfl, ?_⟩
        cases hdg : (at1 l i).any isDig with
        | true =>
          rw [if_pos (.inr hdg)] at q1 q2
          refine iteT ⟨_, rfl, _, rfl, l, i, rfl, hl0, hi, hrow, ?_, q1, q2⟩
          unfold at1 at hdg
          cases hc : l.drop i with
          | nil => rw [hc] at hdg; cases hdg
          | cons c t =>
            rw [hc] at hdg
            have : (isDig c || false) = true := hdg
            rw [Bool.or_false] at this
            exact ⟨c, rfl, .inr this⟩
        | false =>
          have hno : ¬ ((l.drop i).head? = some 45 ∨ ((l.drop i).take 1).any isDig = true) := fun z => by
            rcases z with z | z
            · exact c45 z
            · have : (at1 l i).any isDig = true := z
              rw [hdg] at this; cases this
          rw [if_neg hno] at q1 q2
          exact iteF ⟨_, rfl, _, rfl, l, i, rfl, hl0, hi, hrow, trivial, q1, q2⟩
theorem ok_parts (T : Txt K mg) (B : ExcT K mg CB) (Od : OkD P w K mg base CX0 1 "is_digit" p_is_digit spIsDigit)
    (Os : OkD P w K mg base (L2.CX P w) 2 "behind_space" p_behind_space (spBehindSpace CB))
    (Ot : OkD P w K mg base (L2.CX P w) 3 "read_text" p_read_text (spLeaf CB strD fun t => t.head? = some 34))
    (On : OkD P w K mg base (L2.CX P w) 3 "read_number" p_read_number (spLeaf CB numP fun t => ∃ c, t.head? = some c ∧ (c = 45 ∨ isDig c = true)))
    (Ow : OkD P w K mg base (L2.CX P w) 2 "read_word" p_read_word (spLeaf CB wordP fun _ => True)) :
    ∀ n : Nat, OkD P w K mg base (L2.CX P w) (2 * n + 3) "read_part" p_read_part (spPart CB (fun _ => True) n)
  | 0 => T.g_read_part.none fun vs H Q E h => by obtain ⟨_, _, _, h, _⟩ := h; omega
  | n + 1 => by
    have O := ok_parts T B Od Os Ot On Ow n
    have Oi := ok_read_items T B n (2 * n + 3) (by omega) Os O
    exact ok_read_part T (n + 1) (2 * n + 4) (by omega) Od Oi Ot On Ow
theorem ok_read_datum (T : Txt K mg) (B : ExcT K mg CB) (Orow : OkD P w K mg base CX0 1 "is_row" p_is_row spIsRow) (Op : OkD P w K mg base (L2.CX P w) 125 "read_part" p_read_part (spPart CB (fun _ => True) 61)) :
    OkD P w K mg base (L2.CX P w) 126 "read_datum" p_read_datum (spReadDatum CB) := by
  refine T.g_read_datum.okX sc_read_datum (fun vs H Q E h => ?_) (fun f cdv A outer s H vs Q E hr h => ?_)
  · obtain ⟨l, rfl, _⟩ := h; rfl
  obtain ⟨l, rfl, hl0, q1, q2⟩ := h
  refine ⟨_, (pss_cons (ps_if (pt_not (pt_val (pcall Orow hr (pa_cons (pv 0) pa_nil)))) (pss_one (ps_raise rfl (takes_of rfl rfl rfl rfl) (pmk_own PySem.F.excBase_ValueError B.xB B.gB B.kB (raises_own B.bB B.tB) (by exact rfl)))) pss_nil)
      (pss_cons (ps_asg (pcallE Op hr (passes_call (takes_of rfl rfl rfl rfl) (fun _ _ _ _ h => h)) (pa_cons (pv 0) (pa_cons pe_int (pa_cons pe_int pa_nil)))) (pg_tup (by rfl) (pgs_cons (pg_name (i := 1) sc_read_datum.nd rfl (Or.inl rfl)) (pgs_cons (pg_name (i := 2) sc_read_datum.nd rfl (Or.inl rfl)) pgs_nil))))
      (pss_cons (ps_if (pt_cmpR op_ne (pv 2) (pe_callB call_len_str (by rfl) T.z_len PySem.boot_len (pa_cons (pv 0) pa_nil)) (nomark _)) (pss_one (ps_raise rfl (takes_of rfl rfl rfl rfl) (pmk_own PySem.F.excBase_ValueError B.xB B.gB B.kB (raises_own B.bB B.tB) (by exact rfl)))) pss_nil)
      (pss_one (ps_ret (pv 1)))))), ?_⟩
  refine ⟨_, rfl, l, rfl, hl0, fun H1 s1 => ⟨_, rfl, ?_⟩⟩
  cases hrow : l.all rowc with
  | false => exact iteT (q2 (.inl hrow) H1 s1)
  | true =>
    refine iteF ⟨_, rfl, l, 0, 60, rfl, by omega, rfl, hl0, by omega, hrow, trivial, fun d rest hp v p H2 s2 rv hp2 => ?_, fun hnone H2 s2 => q2 (.inr fun d hd => ?_) H2 (s1.trans s2)⟩
    rotate_left
    · rw [List.drop_zero] at hnone
      rw [hnone] at hd; cases hd
    rw [List.drop_zero] at hp
    refine ⟨p, _, rfl, SqT.of hp2, rfl, v, _, rfl, _, [], rfl, rfl, ?_⟩
    refine ⟨_, rfl, _, rfl, _, rfl, S_line hl0, rfl, _, rfl, ?_⟩
    show if (!decide (V.int ((l.length - rest.length : Nat) : Int) = V.int (((S l).length : Nat) : Int))) = true then _ else _
    rw [S_len, int_dec]
    have hs := part_sound 60 l d rest hp
    have hlen := congrArg List.length hs.1
    rw [List.length_append] at hlen
    obtain ⟨c, t, ew, _⟩ := wr_ne41 d
    rw [ew, List.length_cons] at hlen
    by_cases e : rest = []
    · subst e
      rw [decide_eq_true (show l.length - ([] : List Nat).length = l.length from rfl)]
      exact iteF ⟨_, rfl, q1 d hrow hp v H2 (s1.trans s2) rv⟩
    · have := List.length_pos_iff.mpr e
      rw [decide_eq_false (by omega)]
      refine iteT (q2 (.inr fun d' hd => ?_) H2 (s1.trans s2))
      rw [hp] at hd
      exact e (Prod.mk.inj (Option.some.inj hd)).2
end
end D4
namespace D4
open PySem PySem.Spec PyProof.Rows L2 SX
def spWhole : Sp := fun vs H Q _ => ∃ (v : V) (d : D), vs = [v] ∧ Rep H v d ∧ Q (.bl (isInt d && !isBl d)) H
def spSame (n : Nat) : Sp := fun vs H Q _ => ∃ (v w : V) (d : D), vs = [v, w] ∧ Rep H v d ∧ Rep H w d ∧ dep d < n ∧ (wr d).length ≤ big ∧ Q (.bl true) H
def spIsDatum (n : Nat) : Sp := fun vs H Q _ => ∃ (v : V) (d : D) (r : Nat), vs = [v, .int r] ∧ Rep H v d ∧ okd d = true ∧ dep d ≤ r ∧ r < n ∧ Q (.bl true) H
theorem tup_len {l : List D} : l.length ≤ (wr (.tup l)).length := by
  have ew : wr (.tup l) = 40 :: (wrs l ++ [41]) := by unfold wr; rfl
  rw [ew]
  cases l with
  | nil => simp
  | cons a t => rw [wrs_cons]; have := wrt_len t; obtain ⟨c, u, e, _⟩ := wr_ne41 a; rw [e]; simp; omega
section
variable {P : Program} {w : World} {K : PySem.W.Frag} {mg : Str → Option Value} {base : Heap}
theorem ok__law_whole (T : Txt K mg) : OkD P w K mg base CX0 1 "_law_whole" p__law_whole spWhole := by
  refine T.g__law_whole.ok sc__law_whole (fun vs H Q E h => ?_) (fun f cdv A outer s H vs Q E hr h => ?_)
  · obtain ⟨v, d, rfl, _⟩ := h; rfl
  obtain ⟨v, d, rfl, r, q⟩ := h
  refine ⟨_, (pss_one (ps_ret (pe_and (pe_callB call_isi (by rfl) T.z_isinstance PyProof.Rows.boot_isinstance (pa_cons (pv 0) (pa_cons (pe_bltn (v := .ty "int") rfl T.z_int PyProof.Rows.boot_int rfl) pa_nil))) (pe_one (pe_not (pe_callB call_isi (by rfl) T.z_isinstance PyProof.Rows.boot_isinstance (pa_cons (pv 0) (pa_cons (pe_bltn (v := .ty "bool") rfl T.z_bool PyProof.Rows.boot_bool rfl) pa_nil)))))))), ?_⟩
  refine ⟨_, rfl, _, _, _, _, _, rfl, .ty _, r.ty, kit_ty (kit_i d), _, rfl, ?_⟩
  cases h1 : isInt d with
  | false => rw [h1] at q; exact iteF q
  | true =>
    rw [h1, Bool.true_and] at q
    refine iteT ⟨_, rfl, _, _, _, _, _, rfl, .ty _, r.ty, kit_ty (kit_b d), _, rfl, q⟩
theorem ok__law_same (T : Txt K mg) (Ow : OkD P w K mg base CX0 1 "_law_whole" p__law_whole spWhole) : ∀ n : Nat, OkD P w K mg base CX0 (n + 1) "_law_same" p__law_same (spSame n)
  | 0 => T.g__law_same.none fun vs H Q E h => by obtain ⟨v, w, d, _, _, _, h, _⟩ := h; omega
  | n + 1 => by
    have O := ok__law_same T Ow n
    refine T.g__law_same.ok sc__law_same (fun vs H Q E h => ?_) (fun f cdv A outer s H vs Q E hr h => ?_)
    · obtain ⟨v, w, d, rfl, _⟩ := h; rfl
    obtain ⟨v, w, d, rfl, r1, r2, hd, hl0, q⟩ := h
    have hl : (wr d).length ≤ 1000000 := hl0
    refine ⟨_, (pss_cons (ps_if (pt_val (pe_callB call_isi (by rfl) T.z_isinstance PyProof.Rows.boot_isinstance (pa_cons (pv 1) (pa_cons (pe_bltn (v := .ty "tuple") rfl T.z_tuple PyProof.Rows.boot_tuple rfl) pa_nil)))) (pss_cons (ps_if (PW.pt (pw_or (pt_not (pt_val (pe_callB call_isi (by rfl) T.z_isinstance PyProof.Rows.boot_isinstance (pa_cons (pv 0) (pa_cons (pe_bltn (v := .ty "tuple") rfl T.z_tuple PyProof.Rows.boot_tuple rfl) pa_nil))))) (pw_or1 (pt_cmpR op_ne (pe_callB call_len_seq (by rfl) T.z_len PySem.boot_len (pa_cons (pv 0) pa_nil)) (pe_callB call_len_seq (by rfl) T.z_len PySem.boot_len (pa_cons (pv 1) pa_nil)) (nomark _))))) (pss_one (ps_ret pe_bl)) pss_nil)
      (pss_cons (ps_for PassesOwn.never rfl (pi_range1 rfl T.z_range (pa_cons (pe_callB call_len_seq (by rfl) T.z_len PySem.boot_len (pa_cons (pv 1) pa_nil)) pa_nil)) (pg_name (i := 2) sc__law_same.nd rfl (Or.inl rfl)) (pss_one (ps_if (pt_not (pt_val (pcall O hr (pa_cons (pe_ix ix_tup (pv 0) (pv 2) (fun _ _ => rfl)) (pa_cons (pe_ix ix_tup (pv 1) (pv 2) (fun _ _ => rfl)) pa_nil))))) (pss_one (ps_ret pe_bl)) pss_nil)))
      (pss_one (ps_ret pe_bl)))) pss_nil)
      (pss_cons (ps_if (pt_cmpR op_isN (pv 1) pe_non (nomark _)) (pss_one (ps_ret (pe_cmpR op_isN (pv 0) pe_non (nomark _)))) pss_nil)
      (pss_cons (ps_if (pt_val (pe_callB call_isi (by rfl) T.z_isinstance PyProof.Rows.boot_isinstance (pa_cons (pv 1) (pa_cons (pe_bltn (v := .ty "bool") rfl T.z_bool PyProof.Rows.boot_bool rfl) pa_nil)))) (pss_one (ps_ret (pe_and (pe_callB call_isi (by rfl) T.z_isinstance PyProof.Rows.boot_isinstance (pa_cons (pv 0) (pa_cons (pe_bltn (v := .ty "bool") rfl T.z_bool PyProof.Rows.boot_bool rfl) pa_nil))) (pe_one (pe_cmpR op_eq (pv 0) (pv 1) (nomark _)))))) pss_nil)
      (pss_cons (ps_if (pt_val (pe_callB call_isi (by rfl) T.z_isinstance PyProof.Rows.boot_isinstance (pa_cons (pv 1) (pa_cons (pe_bltn (v := .ty "int") rfl T.z_int PyProof.Rows.boot_int rfl) pa_nil)))) (pss_one (ps_ret (pe_and (pcall Ow hr (pa_cons (pv 0) pa_nil)) (pe_one (pe_cmpR op_eq (pv 0) (pv 1) (nomark _)))))) pss_nil)
      (pss_one (ps_ret (pe_and (pe_callB call_isi (by rfl) T.z_isinstance PyProof.Rows.boot_isinstance (pa_cons (pv 0) (pa_cons (pe_bltn (v := .ty "str") rfl T.z_str PyProof.Rows.boot_str rfl) pa_nil))) (pe_one (pe_cmpR op_eq (pv 0) (pv 1) (nomark _)))))))))), ?_⟩
    have isi2 := (r2.ty (K := K))
    have isi1 := (r1.ty (K := K))
    refine ⟨_, rfl, _, _, _, _, _, rfl, .ty _, r2.ty, kit_ty (kit_t d), _, rfl, ?_⟩
    cases r1 with
    | tup h1 rs1 =>
      cases r2 with
      | tup h2 rs2 =>
      rename_i a1 vs1 ds a2 vs2
      refine iteT ?_
      refine ⟨_, rfl, _, _, _, _, _, rfl, .ty _, isi1, kit_ty (kit_t (.tup ds)), _, rfl, iteF ?_⟩
      refine ⟨_, rfl, a1, _, rfl, .inr (SqT.of h1), _, rfl, a2, _, rfl, .inr (SqT.of h2), rfl, _, rfl, ?_⟩
      have hlen : vs1.length = vs2.length := by rw [rs1.len, rs2.len]
      rw [hlen]
      refine ite2 (fun c => absurd c (by simp)) (fun _ => ?_)
      have hds := tup_len (l := ds)
      have hlv : vs2.length ≤ 1000000 := by rw [rs2.len]; omega
      refine ⟨_, rfl, a2, _, rfl, .inr (SqT.of h2), (vs2.length : Int), rfl, by omega, by omega, ?_⟩
      refine for_range (lo := 0) (n := vs2.length) (fun i σ H' => ∃ y, σ = [some (.ref a1), some (.ref a2), y] ∧ H' = H) ⟨none, rfl, rfl⟩ ?_ ?_
      · rintro i σ H' hi ⟨y, rfl, rfl⟩
        have hi1 : i < vs1.length := by omega
        obtain ⟨d1, e1, x1⟩ := rs1.get (List.getElem?_eq_getElem hi1)
        obtain ⟨d2, e2, x2⟩ := rs2.get (List.getElem?_eq_getElem hi)
        have ed : d1 = d2 := Option.some.inj (e1.symm.trans e2)
        subst ed
        have hm : d1 ∈ ds := List.mem_of_getElem? e1
        have hdd : dep (.tup ds) = 1 + deps ds := by unfold dep; rfl
        have hdm := deps_mem (Nat.le_refl _) d1 hm
        have hwp := wrs_part hm
        have ew : (wr (.tup ds)).length = (wrs ds).length + 2 := by
          have : wr (.tup ds) = 40 :: (wrs ds ++ [41]) := by unfold wr; rfl
          rw [this]; simp
        refine ⟨_, rfl, _, rfl, a1, _, _, _, rfl, rfl, SqT.of h1, ?_, _, rfl, _, rfl, a2, _, _, _, rfl, rfl, SqT.of h2, ?_, _, _, d1, rfl, x1, x2, by omega, by show _ ≤ 1000000; omega, _, rfl, iteF ⟨_, rfl, rfl⟩⟩
        · rw [Int.zero_add]; exact atI_nat (List.getElem?_eq_getElem hi1)
        · rw [Int.zero_add]; exact atI_nat (List.getElem?_eq_getElem hi)
      · rintro σ H' ⟨y, rfl, rfl⟩
        exact q
    | non =>
      cases r2
      refine iteF ⟨_, rfl, rfl, _, rfl, iteT ⟨_, rfl, rfl, q⟩⟩
    | bl b =>
      cases r2
      refine iteF ⟨_, rfl, rfl, _, rfl, iteF ?_⟩
      refine ⟨_, rfl, _, _, _, _, _, rfl, .ty _, isi2, kit_ty (kit_b (.bl b)), _, rfl, iteT ?_⟩
      refine ⟨_, rfl, _, _, _, _, _, rfl, .ty _, isi1, kit_ty (kit_b (.bl b)), _, rfl, iteT ⟨_, rfl, _, rfl, rfl, ?_⟩⟩
      rw [decide_eq_true rfl]; exact q
    | int i =>
      cases r2
      refine iteF ⟨_, rfl, rfl, _, rfl, iteF ?_⟩
      refine ⟨_, rfl, _, _, _, _, _, rfl, .ty _, isi2, kit_ty (kit_b (.int i)), _, rfl, iteF ?_⟩
      refine ⟨_, rfl, _, _, _, _, _, rfl, .ty _, isi2, kit_ty (kit_i (.int i)), _, rfl, iteT ?_⟩
      refine ⟨_, rfl, _, .int i, rfl, .int i, _, rfl, iteT ⟨_, rfl, _, rfl, rfl, ?_⟩⟩
      rw [decide_eq_true rfl]; exact q
    | str x =>
      cases r2
      refine iteF ⟨_, rfl, rfl, _, rfl, iteF ?_⟩
      refine ⟨_, rfl, _, _, _, _, _, rfl, .ty _, isi2, kit_ty (kit_b (.str x)), _, rfl, iteF ?_⟩
      refine ⟨_, rfl, _, _, _, _, _, rfl, .ty _, isi2, kit_ty (kit_i (.str x)), _, rfl, iteF ?_⟩
      refine ⟨_, rfl, _, _, _, _, _, rfl, .ty _, isi1, kit_ty (kit_s (.str x)), _, rfl, iteT ⟨_, rfl, _, rfl, rfl, ?_⟩⟩
      rw [decide_eq_true rfl]; exact q
theorem ok__law_is_datum (T : Txt K mg) : ∀ n : Nat, OkD P w K mg base CX0 (n + 1) "_law_is_datum" p__law_is_datum (spIsDatum n)
  | 0 => T.g__law_is_datum.none fun vs H Q E h => by obtain ⟨v, d, r, _, _, _, _, h, _⟩ := h; omega
  | n + 1 => by
    have O := ok__law_is_datum T n
    refine T.g__law_is_datum.ok sc__law_is_datum (fun vs H Q E h => ?_) (fun f cdv A outer s H vs Q E hr h => ?_)
    · obtain ⟨v, d, r, rfl, _⟩ := h; rfl
    obtain ⟨v, d, r, rfl, rp, ho, hd, hrn, q⟩ := h
    refine ⟨_, (pss_cons (ps_if (pt_val (pe_callB call_isi (by rfl) T.z_isinstance PyProof.Rows.boot_isinstance (pa_cons (pv 0) (pa_cons (pe_bltn (v := .ty "tuple") rfl T.z_tuple PyProof.Rows.boot_tuple rfl) pa_nil)))) (pss_cons (ps_if (pt_cmpR op_eq (pv 1) pe_int (nomark _)) (pss_one (ps_ret pe_bl)) pss_nil)
      (pss_cons (ps_for PassesOwn.never rfl (pi_tup (pv 0)) (pg_name (i := 2) sc__law_is_datum.nd rfl (Or.inl rfl)) (pss_one (ps_if (pt_not (pt_val (pcall O hr (pa_cons (pv 2) (pa_cons (pe_op op_sub (pv 1) pe_int) pa_nil))))) (pss_one (ps_ret pe_bl)) pss_nil)))
      (pss_one (ps_ret pe_bl)))) pss_nil)
      (pss_cons (ps_if (PW.pt (pw_or (pt_cmpR op_isN (pv 0) pe_non (nomark _)) (pw_or (pt_val (pe_callB call_isi (by rfl) T.z_isinstance PyProof.Rows.boot_isinstance (pa_cons (pv 0) (pa_cons (pe_bltn (v := .ty "bool") rfl T.z_bool PyProof.Rows.boot_bool rfl) pa_nil)))) (pw_or1 (pt_val (pe_callB call_isi (by rfl) T.z_isinstance PyProof.Rows.boot_isinstance (pa_cons (pv 0) (pa_cons (pe_bltn (v := .ty "str") rfl T.z_str PyProof.Rows.boot_str rfl) pa_nil)))))))) (pss_one (ps_ret pe_bl)) pss_nil)
      (pss_one (ps_ret (pe_and (pe_callB call_isi (by rfl) T.z_isinstance PyProof.Rows.boot_isinstance (pa_cons (pv 0) (pa_cons (pe_bltn (v := .ty "int") rfl T.z_int PyProof.Rows.boot_int rfl) pa_nil))) (pe_one (pe_cmpR op_lt (pe_callB call_abs (by rfl) T.z_abs (by decide +kernel) (pa_cons (pv 0) pa_nil)) (pe_op op_mulW (pe_op op_pow pe_int pe_int) (pe_op op_pow pe_int pe_int)) (nomark _)))))))), ?_⟩
    have isi := (rp.ty (K := K))
    refine ⟨_, rfl, _, _, _, _, _, rfl, .ty _, isi, kit_ty (kit_t d), _, rfl, ?_⟩
    cases rp with
    | @tup a vs ds h rs =>
      have hdd : dep (.tup ds) = 1 + deps ds := by unfold dep; rfl
      have ho' : okds ds = true := by unfold okd at ho; exact ho
      refine iteT ⟨_, rfl, rfl, _, rfl, ?_⟩
      refine ite2 (fun c => absurd (V.int.inj (of_decide_eq_true c)) (by omega)) (fun _ => ?_)
      refine ⟨_, rfl, a, rfl, ⟨vs, SqT.of h⟩, for_it walk_tup (fun i σ H' => ∃ y, σ = [some (.ref a), some (.int r), y] ∧ H' = H) ⟨none, rfl, rfl⟩ (fun i σ H' _ h' => by obtain ⟨_, _, rfl⟩ := h'; exact SqT.of h) ?_ ?_⟩
      · rintro i x σ H1 H2 hi ⟨y, rfl, rfl⟩ ⟨rfl, hx⟩
        obtain ⟨d1, e1, x1⟩ := rs.get hx
        have hm : d1 ∈ ds := List.mem_of_getElem? e1
        have hdm := deps_mem (Nat.le_refl _) d1 hm
        refine ⟨_, rfl, _, rfl, _, _, rfl, rfl, x, d1, r - 1, ?_, x1, okds_mem ho' d1 hm, by omega, by omega, _, rfl, iteF ⟨some x, rfl, rfl⟩⟩
        rw [show ((r - 1 : Nat) : Int) = (r : Int) - 1 by omega]
        rfl
      · rintro σ H1 ⟨y, rfl, rfl⟩
        exact q
    | non => exact iteF ⟨_, rfl, rfl, _, rfl, iteT (iteT q)⟩
    | bl b =>
      refine iteF ⟨_, rfl, rfl, _, rfl, iteF ?_⟩
      exact ⟨_, rfl, _, _, _, _, _, rfl, .ty _, isi, kit_ty (kit_b (.bl b)), _, rfl, iteT (iteT q)⟩
    | str x =>
      refine iteF ⟨_, rfl, rfl, _, rfl, iteF ?_⟩
      refine ⟨_, rfl, _, _, _, _, _, rfl, .ty _, isi, kit_ty (kit_b (.str x)), _, rfl, iteF ?_⟩
      exact ⟨_, rfl, _, _, _, _, _, rfl, .ty _, isi, kit_ty (kit_s (.str x)), _, rfl, iteT q⟩
    | int i =>
      have hi : i.natAbs < 10 ^ 80 := of_decide_eq_true ho
      refine iteF ⟨_, rfl, rfl, _, rfl, iteF ?_⟩
      refine ⟨_, rfl, _, _, _, _, _, rfl, .ty _, isi, kit_ty (kit_b (.int i)), _, rfl, iteF ?_⟩
      refine ⟨_, rfl, _, _, _, _, _, rfl, .ty _, isi, kit_ty (kit_s (.int i)), _, rfl, iteF ?_⟩
      refine ⟨_, rfl, _, _, _, _, _, rfl, .ty _, isi, kit_ty (kit_i (.int i)), _, rfl, iteT ?_⟩
      refine ⟨_, rfl, i, rfl, _, _, rfl, rfl, ⟨by decide, by decide, by decide⟩, _, _, rfl, rfl, ⟨by decide, by decide, by decide⟩, _, _, rfl, rfl, ?_, _, _, rfl, rfl, ?_⟩
      · unfold CMulW; decide +kernel
      · show Q (.bl (decide ((if i < 0 then -i else i) < 10 ^ (40 : Int).toNat * 10 ^ (40 : Int).toNat))) H
        rw [decide_eq_true]
        · exact q
        · have e : (10 ^ (40 : Int).toNat * 10 ^ (40 : Int).toNat : Int) = ((10 ^ 80 : Nat) : Int) := by decide +kernel
          rw [e]
          split <;> omega
end
end D4
namespace D4
open PySem PySem.Spec PyProof.Rows L2 SX
def allowedL : List Nat := [32, 33, 34, 35, 36, 38, 39, 40, 41, 42, 43, 44, 45, 46, 47, 48, 49, 50, 51, 52, 53, 54, 55, 56, 57, 58, 59, 60, 61, 62, 63, 64, 65, 66, 67, 68, 69, 70, 71, 72, 73, 74, 75, 76, 77, 78, 79, 80, 81, 82, 83, 84, 85, 86, 87, 88, 89, 90, 91, 92, 93, 94, 95,
  96, 97, 98, 99, 100, 101, 102, 103, 104, 105, 106, 107, 108, 109, 110, 111, 112, 113, 114, 115, 116, 117, 118, 119, 120, 121, 122, 123, 124, 125, 126, 10]
theorem allowed_iff (c : Nat) : c ∈ allowedL ↔ okc c = true := by
  by_cases h : c < 128
  · have z : ∀ c, c < 128 → (decide (c ∈ allowedL) = okc c) := by decide +kernel
    rw [← z c h]; exact decide_eq_true_iff.symm
  · constructor
    · intro hm
      have z : ∀ c ∈ allowedL, c < 128 := by decide +kernel
      exact absurd (z c hm) h
    · intro hm
      unfold okc rowc at hm
      rw [Bool.or_eq_true] at hm
      rcases hm with hm | hm
      · have := of_decide_eq_true hm; omega
      · have := eq_of_beq hm; omega
def spAllowed : Sp := fun vs H Q _ => vs = [] ∧ Q (.str (S allowedL)) H
def strE (l : List Nat) (i : Nat) : Int := match strP (l.drop (i + 1)) with | some p => ((l.length - p.2.length : Nat) : Int) | none => -1
def spStrEnd : Sp := fun vs H Q _ => ∃ (l : List Nat) (i : Nat), vs = [.str (S l), .int i] ∧ l.length ≤ big ∧ i < l.length ∧ ∀ H', Same H H' → Q (.int (strE l i)) H'
def restO (x : Option (List Nat × List Nat)) : Option (List Nat) := x.map Prod.snd
theorem strE_some {l : List Nat} {i : Nat} {r : List Nat} (h : restO (strP (l.drop (i + 1))) = some r) : strE l i = ((l.length - r.length : Nat) : Int) := by
  unfold strE
  cases hs : strP (l.drop (i + 1)) with
  | none => rw [hs] at h; cases h
  | some p => rw [hs] at h; have : p.2 = r := Option.some.inj h; rw [← this]
theorem strE_none {l : List Nat} {i : Nat} (h : restO (strP (l.drop (i + 1))) = none) : strE l i = -1 := by
  unfold strE
  cases hs : strP (l.drop (i + 1)) with
  | none => rfl
  | some p => rw [hs] at h; cases h
theorem rest_map {x : Option (List Nat × List Nat)} {c : Nat} : restO (x.map fun p => (c :: p.1, p.2)) = restO x := by cases x <;> rfl
def escIn : List Nat → Bool
  | [] => false
  | c :: _ => (unesc c).isSome
theorem esc_in (x : List Nat) (hx : x.length ≤ 1) : inV (.str (S x)) [.str (S [92]), .str (S [34]), .str (S [110])] = escIn x := by
  have e : ∀ a : Nat, eqV (.str (S [a])) (.str (S x)) = decide ([a] = x) := fun a => S_beq_eq
  unfold inV
  rw [List.any_cons, List.any_cons, List.any_cons, List.any_nil, e, e, e]
  match x, hx with
  | [], _ => rfl
  | [c], _ =>
    show _ = (unesc c).isSome
    have k : ∀ a : Nat, decide ([a] = [c]) = decide (c = a) := fun a => by
      by_cases h : c = a
      · subst h; rw [decide_eq_true rfl, decide_eq_true rfl]
      · rw [decide_eq_false h, decide_eq_false (fun z => h (List.cons.inj z).1.symm)]
    rw [k, k, k]
    unfold unesc
    by_cases a : c = 110
    · subst a; rfl
    · by_cases b : c = 92
      · subst b; rfl
      · by_cases d : c = 34
        · subst d; rfl
        · simp [a, b, d]
section
variable {P : Program} {w : World} {K : PySem.W.Frag} {mg : Str → Option Value} {base : Heap}
theorem ok__law_allowed (T : Txt K mg) : OkD P w K mg base CX0 1 "_law_allowed" p__law_allowed spAllowed := by
  refine T.g__law_allowed.ok sc__law_allowed (fun vs H Q E h => ?_) (fun f cdv A outer s H vs Q E hr h => ?_)
  · obtain ⟨rfl, _⟩ := h; rfl
  obtain ⟨rfl, q⟩ := h
  refine ⟨_, (pss_cons (ps_set (i := 0) sc__law_allowed.nd rfl (.inl rfl) pe_str)
      (pss_one (ps_ret (pe_op op_add_str (pv 0) pe_str)))), ?_⟩
  refine ⟨_, rfl, _, _, rfl, rfl, ?_, ?_⟩
  · decide +kernel
  · have e : (Str.ofString " !\"#$&'()*+,-./0123456789:;<=>?@ABCDEFGHIJKLMNOPQRSTUVWXYZ[\\]^_") ++ (Str.ofString "`abcdefghijklmnopqrstuvwxyz{|}~\n") = S allowedL := by decide +kernel
    rw [e]; exact q
theorem ok__law_string_end (T : Txt K mg) (Oa : OkD P w K mg base CX0 1 "_law_allowed" p__law_allowed spAllowed) : OkD P w K mg base CX0 2 "_law_string_end" p__law_string_end spStrEnd := by
  refine T.g__law_string_end.ok sc__law_string_end (fun vs H Q E h => ?_) (fun f cdv A outer s H vs Q E hr h => ?_)
  · obtain ⟨l, i, rfl, _⟩ := h; rfl
  obtain ⟨l, i, rfl, hl0, hi, q⟩ := h
  have hl : l.length ≤ 1000000 := hl0
  have z : Str.ofString "\"" = S [34] ∧ Str.ofString "\n" = S [10] ∧ Str.ofString "\\" = S [92] ∧ Str.ofString "n" = S [110] := by decide +kernel
  obtain ⟨z1, z2, z3, z4⟩ := z
  refine ⟨_, (pss_cons (ps_set (i := 2) sc__law_string_end.nd rfl (.inl rfl) (pcall0 Oa hr))
      (pss_cons (ps_set (i := 3) sc__law_string_end.nd rfl (.inl rfl) (pe_op op_add (pv 1) pe_int))
      (pss_cons (ps_for PassesOwn.never rfl (pi_range2 (by rfl) T.z_range (pa_cons (pe_op op_add (pv 1) pe_int) (pa_cons (pe_callB call_len_str (by rfl) T.z_len PySem.boot_len (pa_cons (pv 0) pa_nil)) pa_nil))) (pg_name (i := 4) sc__law_string_end.nd rfl (Or.inl rfl))
      (pss_one (ps_if (pt_cmpR op_ge (pv 4) (pv 3) (nomark _)) (pss_cons (ps_set (i := 3) sc__law_string_end.nd rfl (.inl rfl) (pe_op op_add (pv 4) pe_int))
      (pss_cons (ps_if (pt_cmpR op_eq (pe_ix ix_str (pv 0) (pv 4) (fun _ _ => rfl)) pe_str (nomark _)) (pss_one (ps_ret (pe_op op_add (pv 4) pe_int))) pss_nil)
      (pss_cons (ps_if (PW.pt (pw_or (pt_cmpR op_eq (pe_ix ix_str (pv 0) (pv 4) (fun _ _ => rfl)) pe_str (nomark _)) (pw_or1 (pt_cmpR op_notIn_sign (pe_ix ix_str (pv 0) (pv 4) (fun _ _ => rfl)) (pv 2) (by rfl))))) (pss_one (ps_ret (pe_un un_neg pe_int))) pss_nil)
      (pss_one (ps_if (pt_cmpR op_eq (pe_ix ix_str (pv 0) (pv 4) (fun _ _ => rfl)) pe_str (nomark _)) (pss_cons (ps_set (i := 3) sc__law_string_end.nd rfl (.inl rfl) (pe_op op_add (pv 4) pe_int))
      (pss_one (ps_if (pt_cmpR op_notIn_seq (pe_slice sl_str (pv 0) (po_some (pe_op op_add (pv 4) pe_int)) (po_some (pe_op op_add (pv 4) pe_int))) (pe_lst (pa_cons pe_str (pa_cons pe_str (pa_cons pe_str pa_nil)))) (by rfl)) (pss_one (ps_ret (pe_un un_neg pe_int))) pss_nil))) pss_nil))))) pss_nil)))
      (pss_one (ps_ret (pe_un un_neg pe_int)))))), ?_⟩
  refine ⟨rfl, _, rfl, _, _, rfl, rfl, ?_⟩
  refine ⟨_, rfl, _, _, rfl, rfl, _, rfl, _, rfl, S_line hl0, (i : Int) + 1, ((S l).length : Int), rfl, by rw [S_len]; omega, ?_⟩
  rw [S_len]
  refine for_range (lo := (i : Int) + 1) (n := ((l.length : Int) - ((i : Int) + 1)).toNat) (fun j σ H' => ∃ (up : Nat) (y : Option V), σ = [some (.str (S l)), some (.int i), some (.str (S allowedL)), some (.int up), y] ∧ Same H H' ∧ i + 1 + j ≤ up ∧ up ≤ i + 1 + j + 1 ∧ up ≤ l.length ∧
    restO (strP (l.drop (i + 1))) = restO (strP (l.drop up))) ⟨i + 1, none, rfl, Same.refl H, by omega, by omega, by omega, rfl⟩ ?_ ?_
  · rintro j σ H' hj ⟨up, y, rfl, sm, u1, u2, u3, e⟩
    obtain ⟨k, hk⟩ : ∃ k : Nat, k = i + 1 + j := ⟨_, rfl⟩
    have hkl : k < l.length := by omega
    rw [show (i : Int) + 1 + (j : Int) = ((k : Nat) : Int) by omega]
    have gk : l[k]? = some l[k] := List.getElem?_eq_getElem hkl
    have hcs : l.drop k = l[k] :: l.drop (k + 1) := List.drop_eq_getElem_cons hkl
    generalize l[k] = c at gk hcs
    refine ⟨_, rfl, _, rfl, _, _, rfl, rfl, _, rfl, ?_⟩
    show if decide (((k : Nat) : Int) ≥ ((up : Nat) : Int)) = true then _ else _
    refine ite2 (fun a => ?_) (fun a => ?_)
    · have a := of_decide_eq_true a
      have huk : up = k := by omega
      subst huk
      refine ⟨_, rfl, _, _, rfl, rfl, ?_⟩
      refine ⟨_, rfl, _, rfl, S l, up, c, rfl, rfl, S_line hl0, at_S gk, rfl, _, rfl, ?_⟩
      rw [z1]
      show if decide (V.str (S [c]) = V.str (S [34])) = true then _ else _
      rw [one_dec]
      refine ite2 (fun b => ?_) (fun b => ?_)
      · have b := of_decide_eq_true b
        refine ⟨_, rfl, _, _, rfl, rfl, ?_⟩
        have er := q H' sm
        rw [strE_some (r := l.drop (up + 1)) (by rw [e, hcs, b, strP_end]; rfl), List.length_drop, show l.length - (l.length - (up + 1)) = up + 1 by omega] at er
        exact er
      · have b : c ≠ 34 := fun x => b (decide_eq_true x)
        refine ⟨_, rfl, _, rfl, S l, up, c, rfl, rfl, S_line hl0, at_S gk, rfl, _, rfl, ?_⟩
        rw [z2]
        show if decide (V.str (S [c]) = V.str (S [10])) = true then _ else _
        rw [one_dec]
        by_cases c10 : c = 10
        · rw [decide_eq_true c10]
          refine iteT (iteT ⟨_, rfl, ?_⟩)
          have er := q H' sm
          rw [strE_none (by rw [e, hcs, strP_raw _ b (by omega), c10]; rfl)] at er
          exact er
        · rw [decide_eq_false c10]
          refine iteF ⟨_, rfl, _, rfl, S l, up, c, rfl, rfl, S_line hl0, at_S gk, _, rfl, c, S allowedL, rfl, rfl, _, rfl, ?_⟩
          rw [tl_S]
          by_cases hal : c ∈ allowedL
          · rw [decide_eq_true hal]
            have hrc : rowc c = true := by
              have := (allowed_iff c).mp hal
              unfold okc at this
              rw [Bool.or_eq_true] at this
              rcases this with h | h
              · exact h
              · exact absurd (eq_of_beq h) c10
            refine iteF ⟨_, rfl, _, rfl, S l, up, c, rfl, rfl, S_line hl0, at_S gk, rfl, _, rfl, ?_⟩
            rw [z3]
            show if decide (V.str (S [c]) = V.str (S [92])) = true then _ else _
            rw [one_dec]
            by_cases c92 : c = 92
            · rw [decide_eq_true c92]
              refine iteT ⟨_, rfl, _, _, rfl, rfl, ?_⟩
              refine ⟨_, rfl, _, rfl, _, _, rfl, rfl, (up : Int) + 1, rfl, _, rfl, _, _, rfl, rfl, (up : Int) + 2, rfl, S l, rfl, S_line hl0, by show 3 ≤ sizeLine; decide, fun p hp => ?_⟩
              have ec := cut_nn l (up + 1) (up + 2) (by omega)
              rw [show (((up + 1 : Nat)) : Int) = (up : Int) + 1 by omega, show (((up + 2 : Nat)) : Int) = (up : Int) + 2 by omega, show up + 2 - (up + 1) = 1 by omega] at ec
              refine ⟨p, _, rfl, .inl (SqL.of upd_same), rfl, rfl, _, rfl, ?_⟩
              rw [ec, z4]
              show if (!inV (V.str (S (at1 l (up + 1)))) [V.str (S [92]), V.str (S [34]), V.str (S [110])]) = true then _ else _
              rw [esc_in _ (by unfold at1; rw [List.length_take]; omega)]
              have sm2 := sm.trans (same_new hp (.lst [V.str (S [92]), V.str (S [34]), V.str (S [110])]))
              cases hd1 : l.drop (up + 1) with
              | nil =>
                rw [at1_nil hd1]
                refine iteT ⟨_, rfl, ?_⟩
                have er := q _ sm2
                rw [strE_none (by rw [e, hcs, c92, hd1, strP_esc0]; rfl)] at er
                exact er
              | cons x t =>
                rw [at1_cons hd1]
                have ei : escIn [x] = (unesc x).isSome := rfl
                rw [ei]
                obtain ⟨hd2, hlt2⟩ := drop_next hd1
                cases hu : unesc x with
                | none =>
                  refine iteT ⟨_, rfl, ?_⟩
                  have er := q _ sm2
                  rw [strE_none (by rw [e, hcs, c92, hd1, strP_esc, hu]; rfl)] at er
                  exact er
                | some b' =>
                  refine iteF ⟨up + 2, some (.int up), rfl, sm2, by omega, by omega, by omega, ?_⟩
                  rw [e, hcs, c92, hd1, strP_esc, hu, hd2]
                  exact rest_map
            · rw [decide_eq_false c92]
              refine iteF ⟨up + 1, some (.int up), rfl, sm, by omega, by omega, by omega, ?_⟩
              rw [e, hcs, strP_raw _ b c92, hrc, if_pos rfl]
              exact rest_map
          · rw [decide_eq_false hal]
            refine iteT ⟨_, rfl, ?_⟩
            have hrc : rowc c = false := by
              cases h : rowc c with
              | false => rfl
              | true => exact absurd ((allowed_iff c).mpr (by unfold okc; rw [h]; rfl)) hal
            have c92 : c ≠ 92 := fun x => by rw [x] at hrc; exact absurd hrc (by decide)
            have er := q H' sm
            rw [strE_none (by rw [e, hcs, strP_raw _ b c92, hrc]; rfl)] at er
            exact er
    · have a : ¬ ((k : Nat) : Int) ≥ ((up : Nat) : Int) := fun x => a (decide_eq_true x)
      exact ⟨up, some (.int k), rfl, sm, by omega, by omega, u3, e⟩
  · rintro σ H' ⟨up, y, rfl, sm, u1, u2, u3, e⟩
    refine ⟨_, rfl, ?_⟩
    have hul : up = l.length := by omega
    have er := q H' sm
    rw [strE_none (by rw [e, hul, List.drop_length, strP_nil]; rfl)] at er
    exact er
end
end D4
namespace D4
open PySem PySem.Spec PyProof.Rows L2 SX
def endE (R : List Nat → Option (D × List Nat)) (l : List Nat) (i : Nat) : Int := match R (l.drop i) with | some p => ((l.length - p.2.length : Nat) : Int) | none => -1
def spLeafEnd : Sp := fun vs H Q _ => ∃ (l : List Nat) (i : Nat), vs = [.str (S l), .int i] ∧ l.length ≤ big ∧ i ≤ l.length ∧ ∀ H', Same H H' → Q (.int (endE leafP l i)) H'
theorem endE_some {R : List Nat → Option (D × List Nat)} {l : List Nat} {i : Nat} {p : D × List Nat} (h : R (l.drop i) = some p) : endE R l i = ((l.length - p.2.length : Nat) : Int) := by unfold endE; rw [h]
theorem endE_none {R : List Nat → Option (D × List Nat)} {l : List Nat} {i : Nat} (h : R (l.drop i) = none) : endE R l i = -1 := by unfold endE; rw [h]
def wds : List (List Nat) := [[110, 111, 110, 101], [116, 114, 117, 101], [102, 97, 108, 115, 101]]
theorem word_leaf {l w : List Nat} (hw : w ∈ wds) (h : l.take w.length = w) : ∃ d, leafP l = some (d, l.drop w.length) := by
  unfold wds at hw
  have hsplit : l = w ++ l.drop w.length := by conv => lhs; rw [← List.take_append_drop w.length l, h]
  rcases List.mem_cons.mp hw with rfl | hw
  · refine ⟨.non, ?_⟩
    rw [hsplit]; rfl
  · rcases List.mem_cons.mp hw with rfl | hw
    · refine ⟨.bl true, ?_⟩
      rw [hsplit]; rfl
    · rcases List.mem_cons.mp hw with rfl | hw
      · refine ⟨.bl false, ?_⟩
        rw [hsplit]; rfl
      · cases hw
theorem no_word {l : List Nat} (h : ∀ w ∈ wds, ¬ l.take w.length = w) : wordP l = none := by
  unfold wordP
  rw [if_neg (show ¬ l.take 4 = _ from h [110, 111, 110, 101] (by decide)), if_neg (show ¬ l.take 4 = _ from h [116, 114, 117, 101] (by decide)), if_neg (show ¬ l.take 5 = _ from h [102, 97, 108, 115, 101] (by decide))]
theorem leaf_num {l : List Nat} (h34 : l.head? ≠ some 34) (hw : ∀ w ∈ wds, ¬ l.take w.length = w) : leafP l = numP l := by
  unfold leafP
  rw [if_neg h34]
  by_cases b : l.head? = some 45 ∨ (l.take 1).any isDig = true
  · rw [if_pos b]
  · rw [if_neg b, no_word hw]
    have hn : negs l = false := by rw [negs_iff]; exact decide_eq_false (fun z => b (.inl z))
    have htw : (mag l).takeWhile isDig = [] := by
      unfold mag
      rw [hn]
      show l.takeWhile isDig = []
      cases l with
      | nil => rfl
      | cons c t =>
        have : isDig c = false := by
          cases h : isDig c with
          | false => rfl
          | true => exact absurd (.inr (by show (isDig c || false) = true; rw [h]; rfl)) b
        rw [List.takeWhile_cons, this]; rfl
    have hb : numBad l = true := by unfold numBad; rw [htw]; rfl
    unfold numP
    rw [hb]; rfl
theorem dig_in (c : Nat) : decide (c ∈ [48, 49, 50, 51, 52, 53, 54, 55, 56, 57]) = isDig c := by
  unfold isDig
  by_cases h : 48 ≤ c ∧ c ≤ 57
  · rw [decide_eq_true h]
    refine decide_eq_true ?_
    have z : ∀ c, c < 58 → 48 ≤ c → c ∈ [48, 49, 50, 51, 52, 53, 54, 55, 56, 57] := by decide
    exact z c (by omega) h.1
  · rw [decide_eq_false h]
    refine decide_eq_false (fun hm => h ?_)
    have z : ∀ c ∈ [48, 49, 50, 51, 52, 53, 54, 55, 56, 57], 48 ≤ c ∧ c ≤ 57 := by decide
    exact z c hm
section
variable {P : Program} {w : World} {K : PySem.W.Frag} {mg : Str → Option Value} {base : Heap}
theorem ok__law_leaf_end (T : Txt K mg) (Os : OkD P w K mg base CX0 2 "_law_string_end" p__law_string_end spStrEnd) : OkD P w K mg base CX0 3 "_law_leaf_end" p__law_leaf_end spLeafEnd := by
  refine T.g__law_leaf_end.ok sc__law_leaf_end (fun vs H Q E h => ?_) (fun f cdv A outer s H vs Q E hr h => ?_)
  · obtain ⟨l, i, rfl, _⟩ := h; rfl
  obtain ⟨l, i, rfl, hl0, hi, q⟩ := h
  have hl : l.length ≤ 1000000 := hl0
  have z : Str.ofString "none" = S [110, 111, 110, 101] ∧ Str.ofString "true" = S [116, 114, 117, 101] ∧ Str.ofString "false" = S [102, 97, 108, 115, 101] ∧ Str.ofString "\"" = S [34] ∧ Str.ofString "-" = S [45] ∧ Str.ofString "0" = S [48] ∧ Str.ofString "0123456789" = S [48, 49, 50, 51, 52, 53, 54, 55, 56, 57] := by decide +kernel
  obtain ⟨z1, z2, z3, z4, z5, z6, z7⟩ := z
  refine ⟨_, (pss_cons (ps_for PassesOwn.never rfl (pi_list (pe_lst (pa_cons pe_str (pa_cons pe_str (pa_cons pe_str pa_nil))))) (pg_name (i := 2) sc__law_leaf_end.nd rfl (Or.inl rfl))
      (pss_one (ps_if (pt_cmpR op_eq (pe_slice sl_str (pv 0) (po_some (pv 1)) (po_some (pe_op op_add (pv 1) (pe_callB call_len_str (by rfl) T.z_len PySem.boot_len (pa_cons (pv 2) pa_nil))))) (pv 2) (nomark _)) (pss_one (ps_ret (pe_op op_add (pv 1) (pe_callB call_len_str (by rfl) T.z_len PySem.boot_len (pa_cons (pv 2) pa_nil))))) pss_nil)))
      (pss_cons (ps_if (pt_cmpR op_eq (pe_slice sl_str (pv 0) (po_some (pv 1)) (po_some (pe_op op_add (pv 1) pe_int))) pe_str (nomark _)) (pss_one (ps_ret (pcall Os hr (pa_cons (pv 0) (pa_cons (pv 1) pa_nil))))) pss_nil)
      (pss_cons (ps_set (i := 3) sc__law_leaf_end.nd rfl (.inl rfl) (pe_op op_add (pv 1) (pe_callTy call_int1 (by rfl) T.z_int PyProof.Rows.boot_int (pa_cons (pe_cmpR op_eq (pe_slice sl_str (pv 0) (po_some (pv 1)) (po_some (pe_op op_add (pv 1) pe_int))) pe_str (nomark _)) pa_nil))))
      (pss_cons (ps_set (i := 4) sc__law_leaf_end.nd rfl (.inl rfl) (pv 3))
      (pss_cons (ps_while PassesOwn.never (PW.pt (pw_and (pt_cmpR op_lt (pv 4) (pe_callB call_len_str (by rfl) T.z_len PySem.boot_len (pa_cons (pv 0) pa_nil)) (nomark _)) (pw_and1 (pt_cmpR op_in_sign (pe_ix ix_str (pv 0) (pv 4) (fun _ _ => rfl)) pe_str (by rfl))))) (pss_one (ps_set (i := 4) sc__law_leaf_end.nd rfl (.inl rfl) (pe_op op_add (pv 4) pe_int))))
      (pss_cons (ps_if (PW.pt (pw_or (pt_cmpR op_eq (pv 4) (pv 3) (nomark _)) (pw_or1 (pt_cmpR op_gt (pe_op op_sub (pv 4) (pv 3)) pe_int (nomark _))))) (pss_one (ps_ret (pe_un un_neg pe_int))) pss_nil)
      (pss_cons (ps_if (PW.pt (pw_and (pt_cmpR op_eq (pe_ix ix_str (pv 0) (pv 3) (fun _ _ => rfl)) pe_str (nomark _)) (pw_and1 (PW.pt (pw_or (pt_cmpR op_gt (pe_op op_sub (pv 4) (pv 3)) pe_int (nomark _)) (pw_or1 (pt_cmpR op_gt (pv 3) (pv 1) (nomark _)))))))) (pss_one (ps_ret (pe_un un_neg pe_int))) pss_nil)
      (pss_one (ps_ret (pv 4)))))))))), ?_⟩
  refine ⟨by show 3 ≤ sizeLine; decide, fun p hp => ⟨p, rfl, ⟨_, SqL.of upd_same⟩, ?_⟩⟩
  rw [z1, z2, z3]
  have sm0 : Same H (upd H p (.lst (wds.map fun w => V.str (S w)))) := same_new hp _
  show ∃ W, _
  refine for_it (walk_list (xs := wds.map fun w => V.str (S w))) (fun j σ H' => ∃ y, σ = [some (.str (S l)), some (.int i), y, none, none] ∧ Same H H' ∧ H' p = some (.lst (wds.map fun w => V.str (S w))) ∧ ∀ w ∈ wds.take j, ¬ (l.drop i).take w.length = w)
    ⟨none, rfl, sm0, upd_same, fun w hw => by cases hw⟩ (fun j σ H' _ h => by obtain ⟨_, _, _, h, _⟩ := h; exact SqL.of h) ?_ ?_
  · rintro j x σ H1 H2 hj ⟨y, rfl, sm, hp1, hno⟩ ⟨rfl, hx⟩
    rw [List.getElem?_map] at hx
    cases hwj : wds[j]? with
    | none => rw [hwj] at hx; cases hx
    | some wd =>
      rw [hwj] at hx
      have hx : V.str (S wd) = x := Option.some.inj hx
      subst hx
      have hm : wd ∈ wds := List.mem_of_getElem? hwj
      have hwl : wd.length ≤ 5 := by
        have z : ∀ w ∈ wds, w.length ≤ 5 := by decide
        exact z wd hm
      have five : 5 ≤ sizeLine := by decide
      refine ⟨_, rfl, _, rfl, i, rfl, _, rfl, _, rfl, _, rfl, by rw [S_len]; omega, _, _, rfl, rfl, _, rfl, S l, rfl, S_line hl0, _, rfl, rfl, _, rfl, ?_⟩
      rw [S_len]
      have ec := cut_nn l i (i + wd.length) (by omega)
      rw [show (((i + wd.length : Nat)) : Int) = (i : Int) + (wd.length : Int) by omega, show i + wd.length - i = wd.length by omega] at ec
      show if decide (V.str (cutS (S l) (some (i : Int)) (some ((i : Int) + (wd.length : Int)))) = V.str (S wd)) = true then _ else _
      rw [ec, str_dec]
      refine ite2 (fun a => ?_) (fun a => ?_)
      · have a := of_decide_eq_true a
        refine ⟨_, rfl, _, rfl, _, rfl, by rw [S_len]; omega, _, _, rfl, rfl, ?_⟩
        rw [S_len]
        obtain ⟨d, hd⟩ := word_leaf hm a
        have er := q H2 sm
        have hroom := take_room a hi
        rw [endE_some hd, List.length_drop, List.length_drop, show l.length - (l.length - i - wd.length) = i + wd.length by omega] at er
        exact er
      · have a : ¬ (l.drop i).take wd.length = wd := fun x => a (decide_eq_true x)
        refine ⟨some (.str (S wd)), rfl, sm, hp1, fun w hw => ?_⟩
        rw [List.take_add_one, hwj] at hw
        rcases List.mem_append.mp hw with h | h
        · exact hno w h
        · have : w = wd := by simpa using h
          rw [this]; exact a
  · rintro σ H1 ⟨y, rfl, sm, hp1, hno⟩
    have hno : ∀ w ∈ wds, ¬ (l.drop i).take w.length = w := fun w hw => hno w (by rw [List.take_of_length_le (by simp)]; exact hw)
    refine ⟨_, rfl, _, rfl, i, rfl, _, rfl, _, _, rfl, rfl, _, rfl, S l, rfl, S_line hl0, rfl, _, rfl, ?_⟩
    rw [at1_cut, z4]
    show if decide (V.str (S (at1 l i)) = V.str (S [34])) = true then _ else _
    rw [at1_eq]
    by_cases c34 : (l.drop i).head? = some 34
    · rw [decide_eq_true c34]
      have hlt : i < l.length := by
        rcases Nat.lt_or_ge i l.length with h | h
        · exact h
        · rw [List.drop_eq_nil_of_le h] at c34; cases c34
      refine iteT ⟨_, rfl, _, rfl, l, i, rfl, hl0, hlt, fun H' s' => ?_⟩
      have er := q H' (sm.trans s')
      have e : endE leafP l i = strE l i := by
        unfold endE strE leafP
        rw [if_pos c34, List.tail_drop]
        cases strP (l.drop (i + 1)) <;> rfl
      rw [e] at er
      exact er
    · rw [decide_eq_false c34]
      have en : endE leafP l i = endE numP l i := by unfold endE; rw [leaf_num c34 hno]
      rw [en] at q
      have jx : ∃ j : Nat, (i : Int) + (if negs (l.drop i) = true then 1 else 0) = (j : Int) ∧ j ≤ l.length ∧ mag (l.drop i) = l.drop j ∧ decide (i < j) = negs (l.drop i) := by
        cases hn : negs (l.drop i) with
        | true =>
          have hlt : i < l.length := by
            rw [negs_iff] at hn
            have hn := of_decide_eq_true hn
            rcases Nat.lt_or_ge i l.length with h | h
            · exact h
            · rw [List.drop_eq_nil_of_le h] at hn; cases hn
          exact ⟨i + 1, by rw [if_pos rfl]; omega, by omega, mag_drop hn, decide_eq_true (by omega)⟩
        | false => exact ⟨i, by rw [if_neg Bool.false_ne_true]; omega, hi, mag_drop' hn, decide_eq_false (by omega)⟩
      obtain ⟨j, hj, hjl, hm, hneg⟩ := jx
      refine iteF ⟨_, rfl, _, rfl, _, rfl, i, rfl, _, rfl, _, _, rfl, rfl, _, rfl, S l, rfl, S_line hl0, rfl, .inr ⟨_, rfl, _, _, rfl, rfl, ?_⟩⟩
      have hb : decide (V.str (cutS (S l) (some (i : Int)) (some ((i : Int) + 1))) = V.str (Str.ofString "-")) = negs (l.drop i) := by rw [at1_cut, z5, at1_eq, negs_iff]
      show _
      rw [hb]
      refine ⟨_, rfl, ?_⟩
      have nb : numBad (l.drop i) = (decide (((l.drop j).takeWhile isDig) = []) || decide (80 < ((l.drop j).takeWhile isDig).length) || (decide (((l.drop j).takeWhile isDig).head? = some 48) && (decide (1 < ((l.drop j).takeWhile isDig).length) || negs (l.drop i)))) := by unfold numBad; rw [hm]
      have nr : (mag (l.drop i)).dropWhile isDig = (l.drop j).dropWhile isDig := by rw [hm]
      have hsum := congrArg List.length (List.takeWhile_append_dropWhile (p := isDig) (l := l.drop j))
      rw [List.length_append, List.length_drop] at hsum
      have badE : numBad (l.drop i) = true → Q (.int (-1)) H1 := fun h => by
        have er := q H1 sm
        rw [endE_none (by unfold numP; rw [h]; rfl)] at er
        exact er
      have goodE : numBad (l.drop i) = false → Q (.int ((j + ((l.drop j).takeWhile isDig).length : Nat) : Int)) H1 := fun h => by
        have er := q H1 sm
        rw [endE_some (p := (.int (numV (l.drop i)), (mag (l.drop i)).dropWhile isDig)) (by unfold numP; rw [h]; rfl)] at er
        rw [show ((D.int (numV (l.drop i)), (mag (l.drop i)).dropWhile isDig).2).length = ((l.drop j).dropWhile isDig).length by rw [← nr], show l.length - ((l.drop j).dropWhile isDig).length = j + ((l.drop j).takeWhile isDig).length by omega] at er
        exact er
      refine ⟨fun m σ H' => ∃ k : Nat, σ = [some (.str (S l)), some (.int i), y, some (.int (j : Nat)), some (.int k)] ∧ H' = H1 ∧ m = l.length - k ∧ k ≤ l.length ∧ j + ((l.drop j).takeWhile isDig).length = k + ((l.drop k).takeWhile isDig).length,
        ⟨_, j, ?_, rfl, rfl, hjl, rfl⟩, ?_⟩
      · rw [← hj]; rfl
      rintro m σ H' ⟨k, rfl, rfl, rfl, hk, e⟩
      refine ⟨_, rfl, _, rfl, _, rfl, S_line hl0, _, _, rfl, rfl, _, rfl, ite2 (fun c => ?_) (fun c => ?_)⟩
      · have c' : (k : Int) < ((S l).length : Int) := of_decide_eq_true c
        rw [S_len] at c'
        have hk' : k < l.length := by omega
        have g : l[k]? = some l[k] := List.getElem?_eq_getElem hk'
        generalize l[k] = ch at g
        refine ⟨_, rfl, _, rfl, S l, k, _, rfl, rfl, S_line hl0, at_S g, ch, _, rfl, rfl, _, rfl, ?_⟩
        rw [z7, tl_S, dig_in]
        cases d : isDig ch with
        | true =>
          refine iteT ⟨_, fun _ _ h => h, ?_⟩
          refine ⟨_, rfl, _, _, rfl, rfl, ?_⟩
          exact ⟨_, by omega, k + 1, rfl, rfl, rfl, by omega, by rw [e]; exact tw_step g d⟩
        | false =>
          refine iteF ?_
          have es := tw_stop g d
          rw [es, Nat.add_zero] at e
          have hk2 := e.symm
          generalize htw : (l.drop j).takeWhile isDig = tw at *
          subst hk2
          refine ⟨_, rfl, _, rfl, rfl, _, rfl, ?_⟩
          show if decide (V.int ((j + tw.length : Nat) : Int) = V.int ((j : Nat) : Int)) = true then _ else _
          rw [int_dec]
          by_cases e1 : tw = []
          · rw [e1, decide_eq_true (by simp)]
            refine iteT (iteT ⟨_, rfl, badE ?_⟩)
            rw [nb, e1]; rfl
          · have hpos := List.length_pos_iff.mpr e1
            rw [decide_eq_false (show ¬ j + tw.length = j by omega)]
            refine iteF ⟨_, rfl, _, rfl, _, _, rfl, rfl, _, _, rfl, rfl, _, rfl, ?_⟩
            rw [show ((j + tw.length : Nat) : Int) - (j : Int) = ((tw.length : Nat) : Int) by omega, show (80 : Int) = ((80 : Nat) : Int) from rfl, lt_dec]
            by_cases e2 : 80 < tw.length
            · rw [decide_eq_true e2]
              refine iteT ⟨_, rfl, badE ?_⟩
              rw [nb, decide_eq_true e2]; simp
            · rw [decide_eq_false e2]
              refine iteF ?_
              obtain ⟨a, t, et⟩ : ∃ a t, tw = a :: t := by cases tw with | nil => exact absurd rfl e1 | cons a t => exact ⟨a, t, rfl⟩
              have hja : l[j]? = some a := by rw [at_drop]; exact tw_head (htw.trans et)
              refine ⟨_, rfl, _, rfl, S l, j, a, rfl, rfl, S_line hl0, at_S hja, rfl, _, rfl, ?_⟩
              rw [z6]
              show if decide (V.str (S [a]) = V.str (S [48])) = true then _ else _
              rw [one_dec]
              have e48 : decide (tw.head? = some 48) = decide (a = 48) := by
                rw [et]
                show decide (some a = some 48) = _
                by_cases e : a = 48
                · subst e; rw [decide_eq_true rfl, decide_eq_true rfl]
                · rw [decide_eq_false e, decide_eq_false (fun q => e (Option.some.inj q))]
              rw [decide_eq_false e1, decide_eq_false e2, Bool.false_or, Bool.false_or, e48] at nb
              by_cases e3 : a = 48
              · rw [decide_eq_true e3] at nb ⊢
                rw [Bool.true_and] at nb
                refine iteT ⟨_, rfl, _, rfl, _, _, rfl, rfl, _, _, rfl, rfl, _, rfl, ?_⟩
                rw [show ((j + tw.length : Nat) : Int) - (j : Int) = ((tw.length : Nat) : Int) by omega, show (1 : Int) = ((1 : Nat) : Int) from rfl, lt_dec]
                by_cases e4 : 1 < tw.length
                · rw [decide_eq_true e4]
                  refine iteT (iteT ⟨_, rfl, badE ?_⟩)
                  rw [nb, decide_eq_true e4]; rfl
                · rw [decide_eq_false e4]
                  refine iteF ⟨_, rfl, _, rfl, _, _, rfl, rfl, _, rfl, ?_⟩
                  rw [lt_dec, hneg]
                  rw [decide_eq_false e4, Bool.false_or] at nb
                  cases hn : negs (l.drop i) with
                  | true =>
                    refine iteT ⟨_, rfl, badE ?_⟩
                    rw [nb, hn]
                  | false =>
                    refine iteF ⟨_, rfl, goodE ?_⟩
                    rw [nb, hn]
              · rw [decide_eq_false e3] at nb ⊢
                exact iteF (iteF ⟨_, rfl, goodE nb⟩)
      · have c' : ¬ (k : Int) < ((S l).length : Int) := fun x => c (decide_eq_true x)
        rw [S_len] at c'
        have hkl : k = l.length := by omega
        rw [hkl, List.drop_length] at e
        have hk2 : k = j + ((l.drop j).takeWhile isDig).length := by rw [e]; exact hkl
        clear e hkl
        generalize htw : (l.drop j).takeWhile isDig = tw at *
        subst hk2
        refine ⟨_, rfl, _, rfl, rfl, _, rfl, ?_⟩
        show if decide (V.int ((j + tw.length : Nat) : Int) = V.int ((j : Nat) : Int)) = true then _ else _
        rw [int_dec]
        by_cases e1 : tw = []
        · rw [e1, decide_eq_true (by simp)]
          refine iteT (iteT ⟨_, rfl, badE ?_⟩)
          rw [nb, e1]; rfl
        · have hpos := List.length_pos_iff.mpr e1
          rw [decide_eq_false (show ¬ j + tw.length = j by omega)]
          refine iteF ⟨_, rfl, _, rfl, _, _, rfl, rfl, _, _, rfl, rfl, _, rfl, ?_⟩
          rw [show ((j + tw.length : Nat) : Int) - (j : Int) = ((tw.length : Nat) : Int) by omega, show (80 : Int) = ((80 : Nat) : Int) from rfl, lt_dec]
          by_cases e2 : 80 < tw.length
          · rw [decide_eq_true e2]
            refine iteT ⟨_, rfl, badE ?_⟩
            rw [nb, decide_eq_true e2]; simp
          · rw [decide_eq_false e2]
            refine iteF ?_
            obtain ⟨a, t, et⟩ : ∃ a t, tw = a :: t := by cases tw with | nil => exact absurd rfl e1 | cons a t => exact ⟨a, t, rfl⟩
            have hja : l[j]? = some a := by rw [at_drop]; exact tw_head (htw.trans et)
            refine ⟨_, rfl, _, rfl, S l, j, a, rfl, rfl, S_line hl0, at_S hja, rfl, _, rfl, ?_⟩
            rw [z6]
            show if decide (V.str (S [a]) = V.str (S [48])) = true then _ else _
            rw [one_dec]
            have e48 : decide (tw.head? = some 48) = decide (a = 48) := by
              rw [et]
              show decide (some a = some 48) = _
              by_cases e : a = 48
              · subst e; rw [decide_eq_true rfl, decide_eq_true rfl]
              · rw [decide_eq_false e, decide_eq_false (fun q => e (Option.some.inj q))]
            rw [decide_eq_false e1, decide_eq_false e2, Bool.false_or, Bool.false_or, e48] at nb
            by_cases e3 : a = 48
            · rw [decide_eq_true e3] at nb ⊢
              rw [Bool.true_and] at nb
              refine iteT ⟨_, rfl, _, rfl, _, _, rfl, rfl, _, _, rfl, rfl, _, rfl, ?_⟩
              rw [show ((j + tw.length : Nat) : Int) - (j : Int) = ((tw.length : Nat) : Int) by omega, show (1 : Int) = ((1 : Nat) : Int) from rfl, lt_dec]
              by_cases e4 : 1 < tw.length
              · rw [decide_eq_true e4]
                refine iteT (iteT ⟨_, rfl, badE ?_⟩)
                rw [nb, decide_eq_true e4]; rfl
              · rw [decide_eq_false e4]
                refine iteF ⟨_, rfl, _, rfl, _, _, rfl, rfl, _, rfl, ?_⟩
                rw [lt_dec, hneg]
                rw [decide_eq_false e4, Bool.false_or] at nb
                cases hn : negs (l.drop i) with
                | true =>
                  refine iteT ⟨_, rfl, badE ?_⟩
                  rw [nb, hn]
                | false =>
                  refine iteF ⟨_, rfl, goodE ?_⟩
                  rw [nb, hn]
            · rw [decide_eq_false e3] at nb ⊢
              exact iteF (iteF ⟨_, rfl, goodE nb⟩)
end
end D4
namespace D4
open PySem PySem.Spec PyProof.Rows L2 SX
/-- the law's own reading: due 0 item, 1 first, 2 behind -/
def auto : Nat → Nat → Nat → List Nat → Bool
  | 0, _, _, _ => false
  | n + 1, due, dp, l =>
    if due = 2 ∧ dp = 0 then decide (l = [])
    else if due = 2 ∧ l.head? = some 32 then auto n 0 dp l.tail
    else if due ≠ 0 ∧ l.head? = some 41 then auto n 2 (dp - 1) l.tail
    else if due = 2 then false
    else if l.head? = some 40 then (if 60 < dp + 1 then false else auto n 1 (dp + 1) l.tail)
    else match leafP l with | none => false | some q => auto n 2 dp q.2
theorem leaf_eat {l : List Nat} {q : D × List Nat} (h : leafP l = some q) : q.2.length + 1 ≤ l.length := by
  obtain ⟨h1, _⟩ := leaf_sound (d := q.1) (r := q.2) h
  have := congrArg List.length h1
  obtain ⟨c, t, e, _⟩ := wr_ne41 q.1
  rw [List.length_append, e, List.length_cons] at this
  omega
theorem head_len {l : List Nat} {c : Nat} (h : l.head? = some c) : l.tail.length + 1 = l.length := by
  have := congrArg List.length (cons_of h)
  rw [List.length_cons] at this; omega
def Psim (r : Nat) : Prop := ∀ (l : List Nat) (n due dp : Nat), dp + r = 60 → l.length + 1 ≤ n → (due = 0 ∨ (due = 1 ∧ l.head? ≠ some 41)) →
  (part r l = none → auto n due dp l = false) ∧ (∀ d l', part r l = some (d, l') → ∃ n', l'.length + 1 ≤ n' ∧ auto n due dp l = auto n' 2 dp l')
theorem sim_leaf {r : Nat} {l : List Nat} {n due dp : Nat} (hn : l.length + 1 ≤ n) (hd : due = 0 ∨ (due = 1 ∧ l.head? ≠ some 41)) (h40 : l.head? ≠ some 40) (hp : part r l = leafP l) :
    (part r l = none → auto n due dp l = false) ∧ (∀ d l', part r l = some (d, l') → ∃ n', l'.length + 1 ≤ n' ∧ auto n due dp l = auto n' 2 dp l') := by
  obtain ⟨n, rfl⟩ : ∃ m, n = m + 1 := ⟨n - 1, by omega⟩
  have d2 : ¬ due = 2 := by omega
  have step : auto (n + 1) due dp l = (match leafP l with | none => false | some q => auto n 2 dp q.2) := by
    conv => lhs; unfold auto
    rw [if_neg (fun z => d2 z.1), if_neg (fun z => d2 z.1), if_neg, if_neg d2, if_neg h40]
    intro z
    rcases hd with h | h
    · exact z.1 h
    · exact h.2 z.2
  rw [hp, step]
  refine ⟨fun h => by rw [h], fun d l' h => ⟨n, ?_, by rw [h]⟩⟩
  have := leaf_eat h
  have : l'.length + 1 ≤ l.length := this
  omega
theorem sim_items {r : Nat} (ih : Psim r) : ∀ (m : Nat) (acc : List D) (l : List Nat) (n dp : Nat), dp + r = 60 → 1 ≤ dp → l.length + 1 ≤ n → l.length + 1 ≤ m →
    (items (part r) m acc l = none → auto n (if acc = [] then 1 else 2) dp l = false) ∧
    (∀ ds l', items (part r) m acc l = some (ds, l') → ∃ n', l'.length + 1 ≤ n' ∧ auto n (if acc = [] then 1 else 2) dp l = auto n' 2 (dp - 1) l')
  | 0, _, _, _, _, _, _, _, hm => by omega
  | m + 1, acc, l, n, dp, hdp, h1, hn, hm => by
    obtain ⟨n, rfl⟩ : ∃ k, n = k + 1 := ⟨n - 1, by omega⟩
    have dp0 : ¬ dp = 0 := by omega
    by_cases a : l.head? = some 41
    · have hi : items (part r) (m + 1) acc l = some (acc, l.tail) := by unfold items; rw [if_pos a]
      have hl := head_len a
      have step : auto (n + 1) (if acc = [] then 1 else 2) dp l = auto n 2 (dp - 1) l.tail := by
        conv => lhs; unfold auto
        rw [if_neg (fun z => dp0 z.2), if_neg (fun z => by rw [a] at z; cases z.2), if_pos ⟨by split <;> omega, a⟩]
      refine ⟨fun h => (by rw [hi] at h; cases h), fun ds l' h => ?_⟩
      rw [hi] at h
      cases h
      exact ⟨n, by omega, step⟩
    · by_cases b : acc ≠ [] ∧ l.head? ≠ some 32
      · have hi : items (part r) (m + 1) acc l = none := by unfold items; rw [if_neg a, if_pos b]
        refine ⟨fun _ => ?_, fun ds l' h => by rw [hi] at h; cases h⟩
        rw [if_neg b.1]
        unfold auto
        rw [if_neg (fun z => dp0 z.2), if_neg (fun z => b.2 z.2), if_neg (fun z => a z.2), if_pos rfl]
      · have hi : items (part r) (m + 1) acc l = (match part r (if acc = [] then l else l.tail) with | none => none | some q => items (part r) m (acc ++ [q.1]) q.2) := by
          conv => lhs; unfold items
          rw [if_neg a, if_neg b] <;> rfl
        -- the place of the next item
        have nx : ∃ n1 due, (if acc = [] then l else l.tail).length + 1 ≤ n1 ∧ (due = 0 ∨ (due = 1 ∧ (if acc = [] then l else l.tail).head? ≠ some 41)) ∧ auto (n + 1) (if acc = [] then 1 else 2) dp l = auto n1 due dp (if acc = [] then l else l.tail) ∧ (if acc = [] then l else l.tail).length ≤ l.length := by
          by_cases c : acc = []
          · rw [if_pos c, if_pos c]
            exact ⟨n + 1, 1, hn, .inr ⟨rfl, a⟩, rfl, Nat.le_refl _⟩
          · rw [if_neg c, if_neg c]
            have h32 : l.head? = some 32 := Classical.byContradiction fun z => b ⟨c, z⟩
            have hl := head_len h32
            refine ⟨n, 0, by omega, .inl rfl, ?_, by omega⟩
            conv => lhs; unfold auto
            rw [if_neg (fun z => dp0 z.2), if_pos ⟨rfl, h32⟩]
        obtain ⟨n1, due, g1, g2, g3, g4⟩ := nx
        generalize (if acc = [] then l else l.tail) = l1 at *
        obtain ⟨p1, p2⟩ := ih l1 n1 due dp hdp g1 g2
        rw [g3, hi]
        cases hq : part r l1 with
        | none => exact ⟨fun _ => p1 hq, fun ds l' h => by cases h⟩
        | some q =>
          obtain ⟨n2, k1, k2⟩ := p2 q.1 q.2 hq
          have eat : q.2.length + 1 ≤ l1.length := by
            obtain ⟨s1, _⟩ := part_sound r l1 q.1 q.2 hq
            have := congrArg List.length s1
            obtain ⟨c, t, e, _⟩ := wr_ne41 q.1
            rw [List.length_append, e, List.length_cons] at this
            omega
          have := sim_items ih m (acc ++ [q.1]) q.2 n2 dp hdp h1 k1 (by omega)
          rw [if_neg (by simp)] at this
          rw [k2]
          exact this
theorem sim : ∀ r : Nat, Psim r
  | 0 => fun l n due dp hdp hn hd => by
    by_cases h40 : l.head? = some 40
    · have hp : part 0 l = none := by unfold part; rw [if_pos h40]
      refine ⟨fun _ => ?_, fun d l' h => by rw [hp] at h; cases h⟩
      obtain ⟨n, rfl⟩ : ∃ m, n = m + 1 := ⟨n - 1, by omega⟩
      have d2 : ¬ due = 2 := by omega
      unfold auto
      rw [if_neg (fun z => d2 z.1), if_neg (fun z => d2 z.1), if_neg (fun z => by rw [h40] at z; cases z.2), if_neg d2, if_pos h40, if_pos (by omega)]
    · exact sim_leaf hn hd h40 (by conv => lhs; unfold part
                                   rw [if_neg h40])
  | r + 1 => fun l n due dp hdp hn hd => by
    by_cases h40 : l.head? = some 40
    · have hp : part (r + 1) l = (items (part r) l.length [] l.tail).map fun p => (.tup p.1, p.2) := by conv => lhs; unfold part
                                                                                                        rw [if_pos h40]
      obtain ⟨n, rfl⟩ : ∃ m, n = m + 1 := ⟨n - 1, by omega⟩
      have d2 : ¬ due = 2 := by omega
      have hl := head_len h40
      have step : auto (n + 1) due dp l = auto n 1 (dp + 1) l.tail := by
        conv => lhs; unfold auto
        rw [if_neg (fun z => d2 z.1), if_neg (fun z => d2 z.1), if_neg (fun z => by rw [h40] at z; cases z.2), if_neg d2, if_pos h40, if_neg (by omega)]
      obtain ⟨i1, i2⟩ := sim_items (sim r) l.length [] l.tail n (dp + 1) (by omega) (by omega) (by omega) (by omega)
      rw [if_pos rfl] at i1 i2
      rw [hp, step]
      cases hi : items (part r) l.length [] l.tail with
      | none => exact ⟨fun _ => i1 hi, fun d l' h => by cases h⟩
      | some p =>
        refine ⟨fun h => (by cases h), fun d l' h => ?_⟩
        have e1 : (D.tup p.1, p.2) = (d, l') := Option.some.inj h
        cases e1
        exact i2 p.1 p.2 hi
    · exact sim_leaf hn hd h40 (by conv => lhs; unfold part
                                   rw [if_neg h40])
/-- a note, by the law -/
def isNote (l : List Nat) : Bool := auto (l.length + 1) 0 0 l
theorem note_iff (l : List Nat) : isNote l = true ↔ ∃ d, part 60 l = some (d, []) := by
  obtain ⟨s1, s2⟩ := sim 60 l (l.length + 1) 0 0 (by omega) (Nat.le_refl _) (.inl rfl)
  unfold isNote
  cases hp : part 60 l with
  | none => rw [s1 hp]; exact ⟨fun h => (by cases h), fun h => by obtain ⟨d, h⟩ := h; cases h⟩
  | some p =>
    obtain ⟨n', k1, k2⟩ := s2 p.1 p.2 hp
    obtain ⟨n', rfl⟩ : ∃ m, n' = m + 1 := ⟨n' - 1, by omega⟩
    have e : auto (n' + 1) 2 0 p.2 = decide (p.2 = []) := by unfold auto; rw [if_pos ⟨rfl, rfl⟩]
    rw [k2, e]
    constructor
    · intro h; exact ⟨p.1, by rw [← of_decide_eq_true h]⟩
    · intro h
      obtain ⟨d, h⟩ := h
      have e1 : p = (d, []) := Option.some.inj h
      rw [e1]; rfl
end D4
namespace D4
open PySem PySem.Spec PyProof.Rows L2 SX
def spIsNote : Sp := fun vs H Q _ => ∃ (l : List Nat), vs = [.str (S l)] ∧ l.length ≤ big ∧ ∀ H', Same H H' → Q (.bl (isNote l)) H'
def dueL : Nat → List Nat
  | 0 => [105, 116, 101, 109]
  | 1 => [102, 105, 114, 115, 116]
  | _ => [98, 101, 104, 105, 110, 100]
theorem due_beh {k : Nat} (h : k ≤ 2) : decide (V.str (S (dueL k)) = V.str (S [98, 101, 104, 105, 110, 100])) = decide (k = 2) := by
  rw [str_dec]
  match k, h with
  | 0, _ => rfl
  | 1, _ => rfl
  | 2, _ => rfl
theorem due_item {k : Nat} (h : k ≤ 2) : decide (V.str (S (dueL k)) = V.str (S [105, 116, 101, 109])) = decide (k = 0) := by
  rw [str_dec]
  match k, h with
  | 0, _ => rfl
  | 1, _ => rfl
  | 2, _ => rfl
theorem drop_nil_iff {l : List Nat} {k : Nat} (h : k ≤ l.length) : decide (l.drop k = []) = decide (k = l.length) := by
  by_cases e : k = l.length
  · subst e; rw [List.drop_length, decide_eq_true rfl, decide_eq_true rfl]
  · rw [decide_eq_false e]
    refine decide_eq_false fun z => ?_
    have := congrArg List.length z
    rw [List.length_drop] at this
    simp at this; omega
theorem head_lt {l : List Nat} {k c : Nat} (h : (l.drop k).head? = some c) : k < l.length := by
  rcases Nat.lt_or_ge k l.length with h1 | h1
  · exact h1
  · rw [List.drop_eq_nil_of_le h1] at h; cases h
section
variable {P : Program} {w : World} {K : PySem.W.Frag} {mg : Str → Option Value} {base : Heap}
theorem ok__law_is_note (T : Txt K mg) (Ol : OkD P w K mg base CX0 3 "_law_leaf_end" p__law_leaf_end spLeafEnd) : OkD P w K mg base CX0 4 "_law_is_note" p__law_is_note spIsNote := by
  refine T.g__law_is_note.ok sc__law_is_note (fun vs H Q E h => ?_) (fun f cdv A outer s H vs Q E hr h => ?_)
  · obtain ⟨l, rfl, _⟩ := h; rfl
  obtain ⟨l, rfl, hl0, q⟩ := h
  have hl : l.length ≤ 1000000 := hl0
  have z : Str.ofString "item" = S [105, 116, 101, 109] ∧ Str.ofString "first" = S [102, 105, 114, 115, 116] ∧ Str.ofString "behind" = S [98, 101, 104, 105, 110, 100] ∧ Str.ofString " " = S [32] ∧ Str.ofString ")" = S [41] ∧ Str.ofString "(" = S [40] := by decide +kernel
  obtain ⟨z1, z2, z3, z4, z5, z6⟩ := z
  refine ⟨_, (pss_cons (ps_set (i := 1) sc__law_is_note.nd rfl (.inl rfl) pe_int)
      (pss_cons (ps_set (i := 2) sc__law_is_note.nd rfl (.inl rfl) pe_int)
      (pss_cons (ps_set (i := 3) sc__law_is_note.nd rfl (.inl rfl) pe_str)
      (pss_cons (ps_for PassesOwn.never rfl (pi_range1 rfl T.z_range (pa_cons (pe_op op_add (pe_callB call_len_str (by rfl) T.z_len PySem.boot_len (pa_cons (pv 0) pa_nil)) pe_int) pa_nil)) (pg_name (i := 4) sc__law_is_note.nd rfl (Or.inl rfl))
      (pss_cons (ps_set (i := 5) sc__law_is_note.nd rfl (.inl rfl) (pe_slice sl_str (pv 0) (po_some (pv 2)) (po_some (pe_op op_add (pv 2) pe_int))))
      (pss_cons (ps_if (PW.pt (pw_and (pt_cmpR op_eq (pv 3) pe_str (nomark _)) (pw_and1 (pt_cmpR op_eq (pv 1) pe_int (nomark _))))) (pss_one (ps_ret (pe_cmpR op_eq (pv 2) (pe_callB call_len_str (by rfl) T.z_len PySem.boot_len (pa_cons (pv 0) pa_nil)) (nomark _)))) pss_nil)
      (pss_one (ps_if (PW.pt (pw_and (pt_cmpR op_eq (pv 3) pe_str (nomark _)) (pw_and1 (pt_cmpR op_eq (pv 5) pe_str (nomark _))))) (pss_cons (ps_set (i := 3) sc__law_is_note.nd rfl (.inl rfl) pe_str)
      (pss_one (ps_set (i := 2) sc__law_is_note.nd rfl (.inl rfl) (pe_op op_add (pv 2) pe_int)))) (pss_one (ps_if (PW.pt (pw_and (pt_cmpR op_ne (pv 3) pe_str (nomark _)) (pw_and1 (pt_cmpR op_eq (pv 5) pe_str (nomark _))))) (pss_cons (ps_set (i := 1) sc__law_is_note.nd rfl (.inl rfl) (pe_op op_sub (pv 1) pe_int))
      (pss_cons (ps_set (i := 3) sc__law_is_note.nd rfl (.inl rfl) pe_str)
      (pss_one (ps_set (i := 2) sc__law_is_note.nd rfl (.inl rfl) (pe_op op_add (pv 2) pe_int))))) (pss_one (ps_if (pt_cmpR op_eq (pv 3) pe_str (nomark _)) (pss_one (ps_ret pe_bl)) (pss_one (ps_if (pt_cmpR op_eq (pv 5) pe_str (nomark _)) (pss_cons (ps_set (i := 1) sc__law_is_note.nd rfl (.inl rfl) (pe_op op_add (pv 1) pe_int))
      (pss_cons (ps_set (i := 3) sc__law_is_note.nd rfl (.inl rfl) pe_str)
      (pss_cons (ps_set (i := 2) sc__law_is_note.nd rfl (.inl rfl) (pe_op op_add (pv 2) pe_int))
      (pss_one (ps_if (pt_cmpR op_gt (pv 1) pe_int (nomark _)) (pss_one (ps_ret pe_bl)) pss_nil))))) (pss_cons (ps_set (i := 2) sc__law_is_note.nd rfl (.inl rfl) (pcall Ol hr (pa_cons (pv 0) (pa_cons (pv 2) pa_nil))))
      (pss_cons (ps_set (i := 3) sc__law_is_note.nd rfl (.inl rfl) pe_str)
      (pss_one (ps_if (pt_cmpR op_lt (pv 2) pe_int (nomark _)) (pss_one (ps_ret pe_bl)) pss_nil)))))))))))))))
      (pss_one (ps_ret pe_bl)))))), ?_⟩
  refine ⟨_, rfl, _, rfl, S_line hl0, _, _, rfl, rfl, ((S l).length : Int) + 1, rfl, by rw [S_len]; omega, by rw [S_len]; omega, ?_⟩
  rw [S_len, z1, z2, z3, z4, z5, z6]
  refine for_range (lo := 0) (n := ((l.length : Int) + 1).toNat) (fun i σ H' => ∃ (dp k due : Nat) (y4 y5 : Option V), σ = [some (.str (S l)), some (.int dp), some (.int k), some (.str (S (dueL due))), y4, y5] ∧ Same H H' ∧ k ≤ l.length ∧ due ≤ 2 ∧ (due = 1 → 1 ≤ dp) ∧
    isNote l = auto (l.length + 1 - i) due dp (l.drop k)) ⟨0, 0, 0, none, none, rfl, Same.refl H, by omega, by omega, by omega, rfl⟩ ?_ ?_
  · rintro i σ H' hi ⟨dp, k, due, y4, y5, rfl, sm, hk, hdue, hdp, e⟩
    have qq := q
    have q := q H' sm
    obtain ⟨n, hn⟩ : ∃ n, l.length + 1 - i = n + 1 := ⟨l.length - i, by omega⟩
    have hn' : l.length + 1 - (i + 1) = n := by omega
    rw [hn] at e
    unfold auto at e
    refine ⟨_, rfl, _, rfl, k, rfl, _, rfl, _, _, rfl, rfl, _, rfl, S l, rfl, S_line hl0, ?_⟩
    rw [at1_cut]
    refine ⟨_, rfl, rfl, _, rfl, ?_⟩
    show if decide (V.str (S (dueL due)) = V.str (S [98, 101, 104, 105, 110, 100])) = true then _ else _
    rw [due_beh hdue]
    by_cases hd2 : due = 2
    · subst hd2
      rw [decide_eq_true rfl]
      refine iteT ⟨_, rfl, rfl, _, rfl, ?_⟩
      show if decide (V.int (dp : Int) = V.int ((0 : Nat) : Int)) = true then _ else _
      rw [int_dec]
      by_cases h0 : dp = 0
      · rw [decide_eq_true h0]
        rw [if_pos ⟨rfl, h0⟩, drop_nil_iff hk] at e
        refine iteT ⟨_, rfl, _, rfl, _, rfl, S_line hl0, rfl, ?_⟩
        show Q (.bl (decide (V.int (k : Int) = V.int (((S l).length : Nat) : Int)))) H'
        rw [S_len, int_dec, ← e]
        exact q
      · rw [decide_eq_false h0]
        rw [if_neg (fun z => h0 z.2)] at e
        refine iteF ⟨_, rfl, rfl, _, rfl, ?_⟩
        show if decide (V.str (S (dueL 2)) = V.str (S [98, 101, 104, 105, 110, 100])) = true then _ else _
        rw [due_beh hdue, decide_eq_true rfl]
        refine iteT ⟨_, rfl, rfl, _, rfl, ?_⟩
        show if decide (V.str (S (at1 l k)) = V.str (S [32])) = true then _ else _
        rw [at1_eq]
        by_cases c32 : (l.drop k).head? = some 32
        · rw [decide_eq_true c32]
          rw [if_pos ⟨rfl, c32⟩, List.tail_drop] at e
          have hlt := head_lt c32
          refine iteT ⟨_, rfl, _, _, rfl, rfl, ?_⟩
          refine ⟨dp, k + 1, 0, _, _, rfl, sm, by omega, by omega, by omega, ?_⟩
          rw [hn', e]
        · rw [decide_eq_false c32]
          rw [if_neg (fun z => c32 z.2)] at e
          refine iteF ⟨_, rfl, rfl, _, rfl, ?_⟩
          show if (!decide (V.str (S (dueL 2)) = V.str (S [105, 116, 101, 109]))) = true then _ else _
          rw [due_item hdue]
          refine iteT ⟨_, rfl, rfl, _, rfl, ?_⟩
          show if decide (V.str (S (at1 l k)) = V.str (S [41])) = true then _ else _
          rw [at1_eq]
          by_cases c41 : (l.drop k).head? = some 41
          · rw [decide_eq_true c41]
            rw [if_pos ⟨by decide, c41⟩, List.tail_drop] at e
            have hlt := head_lt c41
            refine iteT ⟨_, rfl, _, _, rfl, rfl, _, rfl, _, _, rfl, rfl, ?_⟩
            refine ⟨dp - 1, k + 1, 2, some (.int (0 + (i : Int))), some (.str (S (at1 l k))), ?_, sm, by omega, by omega, by omega, ?_⟩
            · show [some (V.str (S l)), some (V.int ((dp : Int) - 1)), _, _, _, _] = _
              rw [show (dp : Int) - 1 = ((dp - 1 : Nat) : Int) by omega]
              rfl
            · rw [hn', e]
          · rw [decide_eq_false c41]
            rw [if_neg (fun z => c41 z.2), if_pos rfl] at e
            refine iteF ⟨_, rfl, rfl, _, rfl, ?_⟩
            show if decide (V.str (S (dueL 2)) = V.str (S [98, 101, 104, 105, 110, 100])) = true then _ else _
            rw [due_beh hdue, decide_eq_true rfl]
            rw [e] at q
            exact iteT q
    · rw [decide_eq_false hd2]
      rw [if_neg (fun z => hd2 z.1), if_neg (fun z => hd2 z.1)] at e
      refine iteF ⟨_, rfl, rfl, _, rfl, ?_⟩
      show if decide (V.str (S (dueL due)) = V.str (S [98, 101, 104, 105, 110, 100])) = true then _ else _
      rw [due_beh hdue, decide_eq_false hd2]
      refine iteF ⟨_, rfl, rfl, _, rfl, ?_⟩
      show if (!decide (V.str (S (dueL due)) = V.str (S [105, 116, 101, 109]))) = true then _ else _
      rw [due_item hdue]
      by_cases hd0 : due = 0
      · rw [decide_eq_true hd0]
        rw [if_neg (fun z => z.1 hd0), if_neg hd2] at e
        refine iteF ?_
        refine ⟨_, rfl, rfl, _, rfl, ?_⟩
        show if decide (V.str (S (dueL due)) = V.str (S [98, 101, 104, 105, 110, 100])) = true then _ else _
        rw [due_beh hdue, decide_eq_false hd2]
        refine iteF ⟨_, rfl, rfl, _, rfl, ?_⟩
        show if decide (V.str (S (at1 l k)) = V.str (S [40])) = true then _ else _
        rw [at1_eq]
        by_cases c40 : (l.drop k).head? = some 40
        · rw [decide_eq_true c40]
          rw [if_pos c40] at e
          have hlt := head_lt c40
          refine iteT ⟨_, rfl, _, _, rfl, rfl, _, rfl, _, _, rfl, rfl, ?_⟩
          refine ⟨_, rfl, _, _, rfl, rfl, _, rfl, ?_⟩
          show if decide ((60 : Int) < (dp : Int) + 1) = true then _ else _
          by_cases c60 : 60 < dp + 1
          · rw [decide_eq_true (by omega)]
            rw [if_pos c60] at e
            rw [e] at q
            exact iteT q
          · rw [decide_eq_false (by omega)]
            rw [if_neg c60, List.tail_drop] at e
            refine iteF ⟨dp + 1, k + 1, 1, _, _, rfl, sm, by omega, by omega, by omega, ?_⟩
            rw [hn', e]
        · rw [decide_eq_false c40]
          rw [if_neg c40] at e
          refine iteF ⟨_, rfl, _, rfl, l, k, rfl, hl0, hk, fun H2 s2 => ?_⟩
          refine ⟨_, rfl, _, _, rfl, rfl, _, rfl, ?_⟩
          cases hlf : leafP (l.drop k) with
          | none =>
            rw [hlf] at e
            rw [endE_none hlf]
            have q2 := qq H2 (sm.trans s2)
            rw [e] at q2
            exact iteT q2
          | some p =>
            rw [hlf] at e
            rw [endE_some hlf]
            have hs := leaf_sound (d := p.1) (r := p.2) hlf
            have hlen := congrArg List.length hs.1
            rw [List.length_append, List.length_drop] at hlen
            have hdr : l.drop (l.length - p.2.length) = p.2 := by
              have := congrArg (List.drop (wr p.1).length) hs.1
              rw [List.drop_left, List.drop_drop] at this
              obtain ⟨c, t, ew, _⟩ := wr_ne41 p.1
              rw [ew, List.length_cons] at hlen this
              rw [show l.length - p.2.length = k + (t.length + 1) by omega]
              exact this
            refine ite2 (fun c => absurd (of_decide_eq_true c) (by omega)) (fun _ => ?_)
            refine ⟨dp, l.length - p.2.length, 2, _, _, rfl, sm.trans s2, by omega, by omega, by omega, ?_⟩
            rw [hn', hdr, e]
      · rw [decide_eq_false hd0]
        refine iteT ⟨_, rfl, rfl, _, rfl, ?_⟩
        show if decide (V.str (S (at1 l k)) = V.str (S [41])) = true then _ else _
        rw [at1_eq]
        by_cases c41 : (l.drop k).head? = some 41
        · rw [decide_eq_true c41]
          rw [if_pos ⟨hd0, c41⟩, List.tail_drop] at e
          have hlt := head_lt c41
          have h1 := hdp (by omega)
          refine iteT ⟨_, rfl, _, _, rfl, rfl, _, rfl, _, _, rfl, rfl, ?_⟩
          refine ⟨dp - 1, k + 1, 2, some (.int (0 + (i : Int))), some (.str (S (at1 l k))), ?_, sm, by omega, by omega, by omega, ?_⟩
          · show [some (V.str (S l)), some (V.int ((dp : Int) - 1)), _, _, _, _] = _
            rw [show (dp : Int) - 1 = ((dp - 1 : Nat) : Int) by omega]
            rfl
          · rw [hn', e]
        · rw [decide_eq_false c41]
          rw [if_neg (fun z => c41 z.2), if_neg hd2] at e
          refine iteF ?_
          refine ⟨_, rfl, rfl, _, rfl, ?_⟩
          show if decide (V.str (S (dueL due)) = V.str (S [98, 101, 104, 105, 110, 100])) = true then _ else _
          rw [due_beh hdue, decide_eq_false hd2]
          refine iteF ⟨_, rfl, rfl, _, rfl, ?_⟩
          show if decide (V.str (S (at1 l k)) = V.str (S [40])) = true then _ else _
          rw [at1_eq]
          by_cases c40 : (l.drop k).head? = some 40
          · rw [decide_eq_true c40]
            rw [if_pos c40] at e
            have hlt := head_lt c40
            refine iteT ⟨_, rfl, _, _, rfl, rfl, _, rfl, _, _, rfl, rfl, ?_⟩
            refine ⟨_, rfl, _, _, rfl, rfl, _, rfl, ?_⟩
            show if decide ((60 : Int) < (dp : Int) + 1) = true then _ else _
            by_cases c60 : 60 < dp + 1
            · rw [decide_eq_true (by omega)]
              rw [if_pos c60] at e
              rw [e] at q
              exact iteT q
            · rw [decide_eq_false (by omega)]
              rw [if_neg c60, List.tail_drop] at e
              refine iteF ⟨dp + 1, k + 1, 1, _, _, rfl, sm, by omega, by omega, by omega, ?_⟩
              rw [hn', e]
          · rw [decide_eq_false c40]
            rw [if_neg c40] at e
            refine iteF ⟨_, rfl, _, rfl, l, k, rfl, hl0, hk, fun H2 s2 => ?_⟩
            refine ⟨_, rfl, _, _, rfl, rfl, _, rfl, ?_⟩
            cases hlf : leafP (l.drop k) with
            | none =>
              rw [hlf] at e
              rw [endE_none hlf]
              have q2 := qq H2 (sm.trans s2)
              rw [e] at q2
              exact iteT q2
            | some p =>
              rw [hlf] at e
              rw [endE_some hlf]
              have hs := leaf_sound (d := p.1) (r := p.2) hlf
              have hlen := congrArg List.length hs.1
              rw [List.length_append, List.length_drop] at hlen
              have hdr : l.drop (l.length - p.2.length) = p.2 := by
                have := congrArg (List.drop (wr p.1).length) hs.1
                rw [List.drop_left, List.drop_drop] at this
                obtain ⟨c, t, ew, _⟩ := wr_ne41 p.1
                rw [ew, List.length_cons] at hlen this
                rw [show l.length - p.2.length = k + (t.length + 1) by omega]
                exact this
              refine ite2 (fun c => absurd (of_decide_eq_true c) (by omega)) (fun _ => ?_)
              refine ⟨dp, l.length - p.2.length, 2, _, _, rfl, sm.trans s2, by omega, by omega, by omega, ?_⟩
              rw [hn', hdr, e]
  · rintro σ H' ⟨dp, k, due, y4, y5, rfl, sm, hk, hdue, hdp, e⟩
    have q := q H' sm
    rw [e, show l.length + 1 - ((l.length : Int) + 1).toNat = 0 by omega] at q
    exact q
end
end D4
namespace D4
open PySem PySem.Spec PyProof.Rows L2 SX
/-- a bag: a list of three ints -/
def Bag (H : Hp) (b : Addr) : Prop := ∃ c s n : Int, H b = some (.lst [.int c, .int s, .int n])
/-- all but the bag stays -/
structure Stp (b : Addr) (H H' : Hp) : Prop where
  b0 : Bag H b
  b1 : Bag H' b
  keep : ∀ a o, a ≠ b → H a = some o → H' a = some o
theorem Stp.trans {b : Addr} {H H1 H2 : Hp} (x : Stp b H H1) (y : Stp b H1 H2) : Stp b H H2 := ⟨x.b0, y.b1, fun a o n e => y.keep a o n (x.keep a o n e)⟩
theorem Stp.refl {b : Addr} {H : Hp} (x : Bag H b) : Stp b H H := ⟨x, x, fun _ _ _ e => e⟩
theorem Bag.same {b : Addr} {H H' : Hp} (x : Bag H b) (s : Same H H') : Bag H' b := by obtain ⟨c, t, n, e⟩ := x; exact ⟨c, t, n, s _ _ e⟩
theorem Stp.same {b : Addr} {H H' : Hp} (x : Bag H b) (s : Same H H') : Stp b H H' := ⟨x, x.same s, fun a o _ e => s a o e⟩
theorem Bag.ne {b a : Addr} {H : Hp} (x : Bag H b) (h : H a = none) : a ≠ b := by obtain ⟨c, t, n, e⟩ := x; exact (ne_of_none e h).symm
theorem Bag.ne_tup {b a : Addr} {H : Hp} {vs : List V} (x : Bag H b) (h : H a = some (.tup vs)) : a ≠ b := by
  obtain ⟨c, t, n, e⟩ := x
  intro z; rw [z, e] at h; cases h
mutual
theorem Rep.step {b : Addr} {H H' : Hp} {v : V} {d : D} (s : Stp b H H') : Rep H v d → Rep H' v d
  | .non => .non
  | .bl b => .bl b
  | .int i => .int i
  | .str l => .str l
  | .tup h r => .tup (s.keep _ _ (s.b0.ne_tup h) h) (Reps.step s r)
theorem Reps.step {b : Addr} {H H' : Hp} {vs : List V} {ds : List D} (s : Stp b H H') : Reps H vs ds → Reps H' vs ds
  | .nil => .nil
  | .cons h r => .cons (Rep.step s h) (Reps.step s r)
end
def spBag (K : PySem.W.Frag) : Sp := fun vs H Q _ => ∃ (a : Addr) (ns : List Int) (k : Nat), vs = [.ref a, .int k] ∧ SqL K H a (ns.map V.int) ∧ ns.length ≤ 63 ∧ k ≤ 1 ∧ ∀ p H', Same H H' → H p = none → Bag H' p → Q (.ref p) H'
def spTake : Sp := fun vs H Q _ => ∃ (b : Addr) (n : Int), vs = [.ref b, .int n] ∧ Bag H b ∧ 0 < n ∧ n < 1000000000 ∧ ∀ r H', 0 ≤ r → r < n → Stp b H H' → Q (.int r) H'
section
variable {P : Program} {w : World} {K : PySem.W.Frag} {mg : Str → Option Value} {base : Heap}
theorem ok__law_bag (T : Txt K mg) : OkD P w K mg base CX0 1 "_law_bag" p__law_bag (spBag K) := by
  refine T.g__law_bag.ok sc__law_bag (fun vs H Q E h => ?_) (fun f cdv A outer s H vs Q E hr h => ?_)
  · obtain ⟨a, ns, k, rfl, _⟩ := h; rfl
  obtain ⟨a, ns, k, rfl, hS, h63, hk, q⟩ := h
  refine split_at 3 (fun t => ∀ c : Int, t { nx := fun _ H' => Q .non H', rt := Q } [some (.ref a), some (.int (k : Nat)), some (.int c), none, none] H) ?_ (fun t ht hg => ?_)
  rotate_left
  · refine ⟨_, pss_cons (ps_set (i := 2) sc__law_bag.nd rfl (.inl rfl) pe_int) (pss_cons (ps_if (pt_cmpR op_lt (pv 1) (pe_callB call_len_seq (by rfl) T.z_len PySem.boot_len (pa_cons (pv 0) pa_nil)) (nomark _)) (pss_one (ps_set (i := 2) sc__law_bag.nd rfl (.inl rfl) (pe_ix ix_list (pv 0) (pv 1) (fun _ _ => rfl)))) pss_nil) (pss_cons (ps_if (pt_cmpR op_lt (pv 2) pe_int (nomark _)) (pss_one (ps_set (i := 2) sc__law_bag.nd rfl (.inl rfl) (pe_op op_sub pe_int (pv 2)))) pss_nil) ht)), ?_⟩
    refine ⟨_, rfl, _, rfl, a, _, rfl, .inl hS, _, _, rfl, rfl, _, rfl, ite2 (fun c => ?_) (fun c => ?_)⟩
    · have c := of_decide_eq_true c
      have c : (k : Int) < ((ns.map V.int).length : Int) := c
      rw [List.length_map] at c
      have hkl : k < ns.length := by omega
      refine ⟨_, rfl, _, rfl, a, _, _, .int ns[k], rfl, rfl, hS, atI_nat (by rw [List.getElem?_map, List.getElem?_eq_getElem hkl]; rfl), ?_⟩
      refine ⟨_, rfl, _, _, rfl, rfl, _, rfl, ite2 (fun c => ?_) (fun c => hg _)⟩
      refine ⟨_, rfl, _, _, rfl, rfl, hg _⟩
    · refine ⟨_, rfl, _, _, rfl, rfl, _, rfl, ite2 (fun c => ?_) (fun c => hg _)⟩
      refine ⟨_, rfl, _, _, rfl, rfl, hg _⟩
  · refine ⟨_, (pss_cons (ps_set (i := 3) sc__law_bag.nd rfl (.inl rfl) (pe_op op_mul pe_int (pe_op op_add (pv 1) pe_int)))
      (pss_cons (ps_for PassesOwn.never rfl (pi_list (pe_slice sl_list (pv 0) po_none (po_some pe_int))) (pg_name (i := 4) sc__law_bag.nd rfl (Or.inl rfl)) (pss_one (ps_set (i := 3) sc__law_bag.nd rfl (.inl rfl) (pe_op op_mod (pe_callTy call_int1 (by rfl) T.z_int PyProof.Rows.boot_int (pa_cons (pe_op op_add (pe_op op_add (pe_op op_mul (pv 3) pe_int) (pe_op op_mod (pe_callTy call_int1 (by rfl) T.z_int PyProof.Rows.boot_int (pa_cons (pv 4) pa_nil)) pe_int)) pe_int) pa_nil)) pe_int))))
      (pss_cons (ps_if (pt_cmpR op_lt (pv 2) (pe_op op_pow pe_int pe_int) (nomark _)) (pss_one (ps_set (i := 2) sc__law_bag.nd rfl (.inl rfl) pe_int)) pss_nil)
      (pss_one (ps_ret (pe_lst (pa_cons (pv 2) (pa_cons (pv 3) (pa_cons pe_int pa_nil))))))))), ?_⟩
    intro c
    refine ⟨_, rfl, _, _, rfl, rfl, _, _, rfl, rfl, .inl ⟨by decide, by decide⟩, ?_⟩
    refine ⟨_, rfl, 63, rfl, a, _, rfl, hS, fun p hp => ⟨p, rfl, ⟨_, SqL.of upd_same⟩, ?_⟩⟩
    have mem : ∀ x ∈ cutV (ns.map V.int) none (some 63), ∃ i : Int, x = V.int i := fun x hx => by
      have : x ∈ ns.map V.int := List.mem_of_mem_drop (List.mem_of_mem_take hx)
      obtain ⟨i, _, e⟩ := List.mem_map.mp this
      exact ⟨i, e.symm⟩
    generalize cutV (ns.map V.int) none (some 63) = xs at mem
    have sm : Same H (upd H p (.lst xs)) := same_new hp _
    refine for_it (walk_list (xs := xs)) (fun j σ H' => ∃ (e : Int) (y : Option V), σ = [some (.ref a), some (.int (k : Nat)), some (.int c), some (.int e), y] ∧ H' = upd H p (.lst xs)) ⟨_, none, rfl, rfl⟩ (fun j σ H' _ h => by obtain ⟨_, _, _, rfl⟩ := h; exact SqL.of upd_same) ?_ ?_
    · rintro j x σ H1 H2 hj ⟨e, y, rfl, rfl⟩ ⟨rfl, hx⟩
      obtain ⟨i, rfl⟩ := mem x (List.mem_of_getElem? hx)
      refine ⟨_, rfl, _, _, rfl, rfl, .inr ⟨by decide, by decide⟩, _, rfl, .inl ⟨_, rfl, _, _, rfl, rfl, (by show (0 : Int) < _; decide), _, _, rfl, rfl, _, _, rfl, rfl, .inl ⟨_, rfl, _, _, rfl, rfl, (by show (0 : Int) < _; decide), ?_⟩⟩⟩
      exact ⟨_, some (.int i), rfl, rfl⟩
    · rintro σ H1 ⟨e, y, rfl, rfl⟩
      refine ⟨_, rfl, _, _, rfl, rfl, ⟨by decide, by decide, by decide⟩, _, _, rfl, rfl, _, rfl, ite2 (fun c => ?_) (fun c => ?_)⟩
      · refine ⟨_, rfl, _, rfl, by show 3 ≤ sizeLine; decide, fun z hz => ?_⟩
        exact q z _ (sm.trans (same_new hz _)) (sm.free hz) ⟨_, _, _, upd_same⟩
      · refine ⟨_, rfl, _, rfl, by show 3 ≤ sizeLine; decide, fun z hz => ?_⟩
        exact q z _ (sm.trans (same_new hz _)) (sm.free hz) ⟨_, _, _, upd_same⟩
theorem ok__law_take (T : Txt K mg) : OkD P w K mg base CX0 1 "_law_take" p__law_take spTake := by
  refine T.g__law_take.ok sc__law_take (fun vs H Q E h => ?_) (fun f cdv A outer s H vs Q E hr h => ?_)
  · obtain ⟨b, n, rfl, _⟩ := h; rfl
  obtain ⟨b, n, rfl, ⟨c, sd, m, hb⟩, hn0, hn1, q⟩ := h
  refine ⟨_, (pss_cons (ps_asg (pe_op op_add (pe_ix ix_list (pv 0) pe_int (fun _ _ => rfl)) pe_int) (pg_sub (pv 0) pe_int set_list))
      (pss_cons (ps_if (pt_cmpR op_gt (pe_ix ix_list (pv 0) pe_int (fun _ _ => rfl)) pe_int (nomark _)) (pss_cons (ps_set (i := 2) sc__law_take.nd rfl (.inl rfl) (pe_op op_mod (pe_callTy call_int1 (by rfl) T.z_int PyProof.Rows.boot_int (pa_cons (pe_ix ix_list (pv 0) pe_int (fun _ _ => rfl)) pa_nil)) (pv 1)))
      (pss_cons (ps_asg (pe_op op_fdiv (pe_ix ix_list (pv 0) pe_int (fun _ _ => rfl)) (pv 1)) (pg_sub (pv 0) pe_int set_list))
      (pss_one (ps_ret (pv 2))))) pss_nil)
      (pss_cons (ps_set (i := 3) sc__law_take.nd rfl (.inl rfl) (pe_op op_mod (pe_callTy call_int1 (by rfl) T.z_int PyProof.Rows.boot_int (pa_cons (pe_op op_add (pe_op op_mul (pe_ix ix_list (pv 0) pe_int (fun _ _ => rfl)) pe_int) (pe_op op_mul (pe_ix ix_list (pv 0) pe_int (fun _ _ => rfl)) pe_int)) pa_nil)) pe_int))
      (pss_cons (ps_set (i := 4) sc__law_take.nd rfl (.inl rfl) (pe_op op_mod (pe_callTy call_int1 (by rfl) T.z_int PyProof.Rows.boot_int (pa_cons (pe_op op_add (pe_op op_add (pe_op op_mul (pe_op op_fdiv (pv 3) pe_int) (pv 3)) (pe_op op_mul (pe_ix ix_list (pv 0) pe_int (fun _ _ => rfl)) pe_int)) pe_int) pa_nil)) pe_int))
      (pss_one (ps_ret (pe_op op_mod (pe_op op_fdiv (pe_op op_mod (pe_callTy call_int1 (by rfl) T.z_int PyProof.Rows.boot_int (pa_cons (pe_op op_add (pe_op op_mul (pv 4) pe_int) (pe_ix ix_list (pv 0) pe_int (fun _ _ => rfl))) pa_nil)) pe_int) pe_int) (pv 1)))))))), ?_⟩
  have k64 : (-(2 ^ 64) : Int) < 48271 := by decide
  refine ⟨_, rfl, b, _, 2, _, rfl, rfl, SqL.of hb, rfl, _, _, rfl, rfl, ?_⟩
  refine ⟨_, rfl, b, _, 2, 2, rfl, rfl, hb, rfl, ?_⟩
  refine ⟨_, rfl, b, _, 0, _, rfl, rfl, SqL.of upd_same, rfl, _, _, rfl, rfl, _, rfl, ?_⟩
  refine ite2 (fun cc => ?_) (fun cc => ?_)
  · refine ⟨_, rfl, b, _, 0, _, rfl, rfl, SqL.of upd_same, rfl, .inl ⟨_, rfl, _, rfl, _, _, rfl, rfl, hn0, ?_⟩⟩
    refine ⟨_, rfl, b, _, 0, _, rfl, rfl, SqL.of upd_same, rfl, _, rfl, _, _, rfl, rfl, ⟨hn0, by omega⟩, ?_⟩
    refine ⟨_, rfl, b, _, 0, 0, rfl, rfl, upd_same, rfl, ?_⟩
    refine ⟨_, rfl, ?_⟩
    rw [upd_upd]
    exact q _ _ (Int.emod_nonneg _ (by omega)) (Int.emod_lt_of_pos _ hn0) ⟨⟨_, _, _, hb⟩, ⟨_, _, _, upd_same⟩, fun a o n e => by rw [upd_ne n]; exact e⟩
  · refine ⟨_, rfl, b, _, 1, _, rfl, rfl, SqL.of upd_same, rfl, _, _, rfl, rfl, .inr ⟨by decide, by decide⟩, _, rfl, b, _, 2, _, rfl, rfl, SqL.of upd_same, rfl, _, _, rfl, rfl, .inr ⟨by decide, by decide⟩, _, _, rfl, rfl, .inl ⟨_, rfl, _, _, rfl, rfl, (by show (0 : Int) < _; decide), ?_⟩⟩
    obtain ⟨f1, hf1⟩ : ∃ f1 : Int, f1 = (sd * 48271 + (m + 1) * 1299709) % 2147483647 := ⟨_, rfl⟩
    have hf0 : 0 ≤ f1 := by rw [hf1]; exact Int.emod_nonneg _ (by decide)
    have hf2 : f1 < 2147483647 := by rw [hf1]; exact Int.emod_lt_of_pos _ (by decide)
    refine ⟨_, rfl, _, _, rfl, rfl, ⟨by decide, by decide⟩, _, rfl, _, _, rfl, rfl, .inr ?_, _, rfl, b, _, 2, _, rfl, rfl, SqL.of upd_same, rfl, _, _, rfl, rfl, .inr ⟨by decide, by decide⟩, _, _, rfl, rfl, _, _, rfl, rfl, .inl ⟨_, rfl, _, _, rfl, rfl, (by show (0 : Int) < _; decide), ?_⟩⟩
    · show (-(2 ^ 64) : Int) < (sd * 48271 + (m + 1) * 1299709) % 2147483647 ∧ (sd * 48271 + (m + 1) * 1299709) % 2147483647 < 2 ^ 64
      rw [← hf1]
      omega
    refine ⟨_, rfl, _, _, rfl, rfl, .inr ⟨by decide, by decide⟩, _, rfl, b, _, 1, _, rfl, rfl, SqL.of upd_same, rfl, _, _, rfl, rfl, .inl ⟨_, rfl, _, _, rfl, rfl, (by show (0 : Int) < _; decide), _, _, rfl, rfl, ⟨by decide, by decide⟩, _, rfl, _, _, rfl, rfl, hn0, ?_⟩⟩
    exact q _ _ (Int.emod_nonneg _ (by omega)) (Int.emod_lt_of_pos _ hn0) ⟨⟨_, _, _, hb⟩, ⟨_, _, _, upd_same⟩, fun a o n e => by rw [upd_ne n]; exact e⟩
end
end D4
namespace D4
open PySem PySem.Spec PyProof.Rows L2 SX
def spInteger : Sp := fun vs H Q _ => ∃ (b : Addr), vs = [.ref b] ∧ Bag H b ∧ ∀ (i : Int) H', i.natAbs < 10 ^ 80 → Stp b H H' → Q (.int i) H'
def spString : Sp := fun vs H Q _ => ∃ (b : Addr), vs = [.ref b] ∧ Bag H b ∧ ∀ (l : List Nat) H', l.all okc = true → l.length ≤ 299 → Stp b H H' → Q (.str (S l)) H'
def spLeafD : Sp := fun vs H Q _ => ∃ (b : Addr), vs = [.ref b] ∧ Bag H b ∧ ∀ (v : V) (d : D) H', Rep H' v d → okd d = true → dep d = 0 → (wr d).length ≤ 610 → Stp b H H' → Q v H'
theorem Stp.new {b p : Addr} {H : Hp} {o : HO} (x : Bag H b) (h : H p = none) : Stp b H (upd H p o) := Stp.same x (same_new h o)
theorem Stp.of_new {b p : Addr} {H H1 H2 : Hp} (x : Stp b H H1) (y : Stp b H1 H2) : Stp b H H2 := x.trans y
section
variable {P : Program} {w : World} {K : PySem.W.Frag} {mg : Str → Option Value} {base : Heap}
theorem ok__law_integer (T : Txt K mg) (Ot : OkD P w K mg base CX0 1 "_law_take" p__law_take spTake) : OkD P w K mg base CX0 2 "_law_integer" p__law_integer spInteger := by
  refine T.g__law_integer.ok sc__law_integer (fun vs H Q E h => ?_) (fun f cdv A outer s H vs Q E hr h => ?_)
  · obtain ⟨b, rfl, _⟩ := h; rfl
  obtain ⟨b, rfl, hb, q⟩ := h
  refine ⟨_, (pss_cons (ps_set (i := 1) sc__law_integer.nd rfl (.inl rfl) (pe_ix ix_list (pe_lst (pa_cons pe_int (pa_cons pe_int (pa_cons pe_int (pa_cons pe_int (pa_cons pe_int (pa_cons pe_int (pa_cons pe_int (pa_cons pe_int pa_nil))))))))) (pcall Ot hr (pa_cons (pv 0) (pa_cons pe_int pa_nil))) (fun _ _ => rfl)))
      (pss_cons (ps_set (i := 2) sc__law_integer.nd rfl (.inl rfl) pe_int)
      (pss_cons (ps_for PassesOwn.never rfl (pi_range1 rfl T.z_range (pa_cons (pv 1) pa_nil)) (pg_name (i := 3) sc__law_integer.nd rfl (Or.inl rfl)) (pss_one (ps_set (i := 2) sc__law_integer.nd rfl (.inl rfl) (pe_op op_add (pe_op op_mul (pv 2) pe_int) (pcall Ot hr (pa_cons (pv 0) (pa_cons pe_int pa_nil)))))))
      (pss_cons (ps_if (pt_cmpR op_eq (pcall Ot hr (pa_cons (pv 0) (pa_cons pe_int pa_nil))) pe_int (nomark _)) (pss_one (ps_ret (pe_op op_sub pe_int (pv 2)))) pss_nil)
      (pss_one (ps_ret (pv 2))))))), ?_⟩
  refine ⟨by show 8 ≤ sizeLine; decide, fun p hp => ?_⟩
  have s1 : Stp b H (upd H p (.lst [.int 1, .int 1, .int 1, .int 2, .int 6, .int 19, .int 79, .int 80])) := Stp.new hb hp
  refine ⟨_, rfl, b, 8, rfl, s1.b1, by decide, by decide, fun r H1 r0 r1 st => ?_⟩
  have hp1 := st.keep p _ (s1.b0.ne hp) upd_same
  obtain ⟨k, rfl⟩ : ∃ k : Nat, r = (k : Int) := ⟨r.toNat, by omega⟩
  have hsz : ∃ n : Nat, ([.int 1, .int 1, .int 1, .int 2, .int 6, .int 19, .int 79, .int 80] : List V)[k]? = some (.int (n : Nat)) ∧ n ≤ 80 := by
    match k, r1 with
    | 0, _ => exact ⟨1, rfl, by decide⟩
    | 1, _ => exact ⟨1, rfl, by decide⟩
    | 2, _ => exact ⟨1, rfl, by decide⟩
    | 3, _ => exact ⟨2, rfl, by decide⟩
    | 4, _ => exact ⟨6, rfl, by decide⟩
    | 5, _ => exact ⟨19, rfl, by decide⟩
    | 6, _ => exact ⟨79, rfl, by decide⟩
    | 7, _ => exact ⟨80, rfl, by decide⟩
    | k + 8, h => omega
  obtain ⟨n, hn, hn80⟩ := hsz
  refine ⟨p, _, _, _, rfl, rfl, SqL.of hp1, atI_nat hn, ?_⟩
  refine ⟨_, rfl, (n : Int), rfl, by omega, by omega, ?_⟩
  refine for_range (lo := 0) (n := (n : Int).toNat) (fun i σ H' => ∃ (c : Nat) (y : Option V), σ = [some (.ref b), some (.int (n : Nat)), some (.int (c : Nat)), y] ∧ Stp b H H' ∧ c < 10 ^ i) ⟨0, none, rfl, s1.trans st, by decide⟩ ?_ ?_
  · rintro i σ H2 hi ⟨c, y, rfl, st2, hc⟩
    refine ⟨_, rfl, _, _, rfl, rfl, .inr ⟨by decide, by decide⟩, _, rfl, b, 10, rfl, st2.b1, by decide, by decide, fun r H3 r0 r1 st3 => ?_⟩
    refine ⟨_, _, rfl, rfl, ?_⟩
    refine ⟨c * 10 + r.toNat, some (.int (0 + (i : Int))), ?_, st2.trans st3, ?_⟩
    · rw [show ((c * 10 + r.toNat : Nat) : Int) = (c : Int) * 10 + r by omega]; rfl
    · rw [Nat.pow_succ]; omega
  · rintro σ H2 ⟨c, y, rfl, st2, hc⟩
    have hc80 : c < 10 ^ 80 := Nat.lt_of_lt_of_le hc (Nat.pow_le_pow_right (by decide) (by omega))
    refine ⟨_, rfl, b, 3, rfl, st2.b1, by decide, by decide, fun r H3 r0 r1 st3 => ?_⟩
    refine ⟨rfl, _, rfl, ite2 (fun _ => ?_) (fun _ => ?_)⟩
    · refine ⟨_, rfl, _, _, rfl, rfl, ?_⟩
      exact q _ H3 (by omega) (st2.trans st3)
    · refine ⟨_, rfl, ?_⟩
      exact q _ H3 (by omega) (st2.trans st3)
theorem ok__law_string (T : Txt K mg) (Ot : OkD P w K mg base CX0 1 "_law_take" p__law_take spTake) (Oa : OkD P w K mg base CX0 1 "_law_allowed" p__law_allowed spAllowed) : OkD P w K mg base CX0 2 "_law_string" p__law_string spString := by
  refine T.g__law_string.ok sc__law_string (fun vs H Q E h => ?_) (fun f cdv A outer s H vs Q E hr h => ?_)
  · obtain ⟨b, rfl, _⟩ := h; rfl
  obtain ⟨b, rfl, hb, q⟩ := h
  have z : Str.ofString "" = S [] ∧ Str.ofString "\\\"'\nn " = S [92, 34, 39, 10, 110, 32] := by decide +kernel
  refine split_at 4 (fun t => ∀ (n : Nat) H1, n ≤ 299 → Stp b H H1 → t { nx := fun _ H' => Q .non H', rt := Q } [some (.ref b), some (.str (S allowedL)), some (.int (n : Nat)), some (.str (S [])), none, none] H1) ?_ (fun t ht hg => ?_)
  rotate_left
  · refine ⟨_, pss_cons (ps_set (i := 1) sc__law_string.nd rfl (.inl rfl) (pcall0 Oa hr)) (pss_cons (ps_set (i := 2) sc__law_string.nd rfl (.inl rfl) (pcall Ot hr (pa_cons (pv 0) (pa_cons pe_int pa_nil)))) (pss_cons (ps_if (pt_cmpR op_eq (pcall Ot hr (pa_cons (pv 0) (pa_cons pe_int pa_nil))) pe_int (nomark _)) (pss_one (ps_set (i := 2) sc__law_string.nd rfl (.inl rfl) (pe_op op_add pe_int (pcall Ot hr (pa_cons (pv 0) (pa_cons pe_int pa_nil)))))) pss_nil) (pss_cons (ps_set (i := 3) sc__law_string.nd rfl (.inl rfl) pe_str) ht))), ?_⟩
    refine ⟨rfl, _, rfl, b, 7, rfl, hb, by decide, by decide, fun r H1 r0 r1 st => ?_⟩
    refine ⟨_, rfl, b, 24, rfl, st.b1, by decide, by decide, fun r' H2 _ _ st2 => ?_⟩
    refine ⟨rfl, _, rfl, ite2 (fun _ => ?_) (fun _ => ?_)⟩
    · refine ⟨_, rfl, b, 200, rfl, st2.b1, by decide, by decide, fun r2 H3 r20 r21 st3 => ?_⟩
      refine ⟨_, _, rfl, rfl, ?_⟩
      have := hg (100 + r2.toNat) H3 (by omega) (st.trans (st2.trans st3))
      rw [show ((100 + r2.toNat : Nat) : Int) = 100 + r2 by omega] at this
      rw [z.1]
      exact this
    · have := hg r.toNat H2 (by omega) (st.trans st2)
      rw [show ((r.toNat : Nat) : Int) = r by omega] at this
      rw [z.1]
      exact this
  · refine ⟨_, (pss_cons (ps_for PassesOwn.never rfl (pi_range1 rfl T.z_range (pa_cons (pv 2) pa_nil)) (pg_name (i := 4) sc__law_string.nd rfl (Or.inl rfl)) (pss_cons (ps_set (i := 5) sc__law_string.nd rfl (.inl rfl) (pe_ix ix_str (pv 1) (pcall Ot hr (pa_cons (pv 0) (pa_cons (pe_callB call_len_str (by rfl) T.z_len PySem.boot_len (pa_cons (pv 1) pa_nil)) pa_nil))) (fun _ _ => rfl)))
      (pss_cons (ps_if (pt_cmpR op_eq (pcall Ot hr (pa_cons (pv 0) (pa_cons pe_int pa_nil))) pe_int (nomark _)) (pss_one (ps_set (i := 5) sc__law_string.nd rfl (.inl rfl) (pe_ix ix_str pe_str (pcall Ot hr (pa_cons (pv 0) (pa_cons pe_int pa_nil))) (fun _ _ => rfl)))) pss_nil)
      (pss_one (ps_set (i := 3) sc__law_string.nd rfl (.inl rfl) (pe_op op_add_str (pv 3) (pv 5)))))))
      (pss_one (ps_ret (pv 3)))), ?_⟩
    intro n H1 hn st
    have ha : allowedL.length = 95 := by decide
    have hlim : (1000 : Nat) ≤ sizeLine := by decide
    refine ⟨_, rfl, (n : Int), rfl, by omega, by omega, ?_⟩
    refine for_range (lo := 0) (n := (n : Int).toNat) (fun i σ H' => ∃ (l : List Nat) (y z : Option V), σ = [some (.ref b), some (.str (S allowedL)), some (.int (n : Nat)), some (.str (S l)), y, z] ∧ Stp b H H' ∧ l.all okc = true ∧ l.length = i) ⟨[], none, none, rfl, st, rfl, rfl⟩ ?_ ?_
    · rintro i σ H2 hi ⟨l, y, z', rfl, st2, hal, hlen⟩
      refine ⟨_, rfl, _, rfl, _, rfl, _, rfl, by rw [S_len, ha]; omega, b, 95, by rw [S_len, ha]; rfl, st2.b1, by decide, by decide, fun r H3 r0 r1 st3 => ?_⟩
      obtain ⟨k, rfl⟩ : ∃ k : Nat, r = (k : Int) := ⟨r.toNat, by omega⟩
      have hk : k < allowedL.length := by rw [ha]; omega
      have gk : allowedL[k]? = some allowedL[k] := List.getElem?_eq_getElem hk
      have ok1 : okc allowedL[k] = true := (allowed_iff _).mp (List.getElem_mem hk)
      generalize allowedL[k] = c1 at gk ok1
      refine ⟨S allowedL, _, c1, rfl, rfl, by rw [S_len, ha]; omega, at_S gk, ?_⟩
      refine ⟨_, rfl, b, 5, rfl, st3.b1, by decide, by decide, fun r' H4 _ _ st4 => ?_⟩
      have fin : ∀ (c : Nat) (H5 : Hp), okc c = true → Stp b H H5 → ∃ (l' : List Nat) (y z : Option V), [some (V.ref b), some (.str (S allowedL)), some (.int (n : Nat)), some (.str (S l ++ S [c])), some (.int (0 + (i : Int))), some (.str (S [c]))] = [some (V.ref b), some (.str (S allowedL)), some (.int (n : Nat)), some (.str (S l')), y, z] ∧ Stp b H H5 ∧ l'.all okc = true ∧ l'.length = i + 1 := fun c H5 hc st5 => by
        refine ⟨l ++ [c], _, _, by rw [S_cat], st5, ?_, by rw [List.length_append, hlen]; rfl⟩
        rw [List.all_append, hal]
        show (true && (okc c && true)) = true
        rw [hc]; rfl
      refine ⟨rfl, _, rfl, ite2 (fun _ => ?_) (fun _ => ?_)⟩
      · refine ⟨_, rfl, b, 6, rfl, st4.b1, by decide, by decide, fun r2 H5 r20 r21 st5 => ?_⟩
        obtain ⟨k2, rfl⟩ : ∃ k : Nat, r2 = (k : Int) := ⟨r2.toNat, by omega⟩
        have hc2 : ∃ c, ([92, 34, 39, 10, 110, 32] : List Nat)[k2]? = some c ∧ okc c = true := by
          match k2, r21 with
          | 0, _ => exact ⟨92, rfl, rfl⟩
          | 1, _ => exact ⟨34, rfl, rfl⟩
          | 2, _ => exact ⟨39, rfl, rfl⟩
          | 3, _ => exact ⟨10, rfl, rfl⟩
          | 4, _ => exact ⟨110, rfl, rfl⟩
          | 5, _ => exact ⟨32, rfl, rfl⟩
          | k + 6, h => omega
        obtain ⟨c2, gk2, ok2⟩ := hc2
        refine ⟨S [92, 34, 39, 10, 110, 32], _, c2, by rw [← z.2], rfl, by show 6 ≤ sizeLine; decide, at_S gk2, ?_⟩
        refine ⟨_, rfl, _, rfl, _, _, rfl, rfl, ?_, ?_⟩
        · show (S l).length + (S [c2]).length ≤ _; rw [S_len, S_len]; show _ + 1 ≤ _; omega
        · exact fin c2 H5 ok2 (st2.trans (st3.trans (st4.trans st5)))
      · refine ⟨_, rfl, _, rfl, _, _, rfl, rfl, ?_, ?_⟩
        · show (S l).length + (S [c1]).length ≤ _; rw [S_len, S_len]; show _ + 1 ≤ _; omega
        · exact fin c1 H4 ok1 (st2.trans (st3.trans st4))
    · rintro σ H2 ⟨l, y, z', rfl, st2, hal, hlen⟩
      exact ⟨_, rfl, q l H2 hal (by omega) st2⟩
theorem ok__law_leaf (T : Txt K mg) (Ot : OkD P w K mg base CX0 1 "_law_take" p__law_take spTake) (Oi : OkD P w K mg base CX0 2 "_law_integer" p__law_integer spInteger) (Os : OkD P w K mg base CX0 2 "_law_string" p__law_string spString) :
    OkD P w K mg base CX0 3 "_law_leaf" p__law_leaf spLeafD := by
  refine T.g__law_leaf.ok sc__law_leaf (fun vs H Q E h => ?_) (fun f cdv A outer s H vs Q E hr h => ?_)
  · obtain ⟨b, rfl, _⟩ := h; rfl
  obtain ⟨b, rfl, hb, q⟩ := h
  refine ⟨_, (pss_cons (ps_set (i := 1) sc__law_leaf.nd rfl (.inl rfl) (pcall Ot hr (pa_cons (pv 0) (pa_cons pe_int pa_nil))))
      (pss_cons (ps_if (pt_cmpR op_eq (pv 1) pe_int (nomark _)) (pss_one (ps_ret pe_non)) pss_nil)
      (pss_cons (ps_if (pt_cmpR op_eq (pv 1) pe_int (nomark _)) (pss_one (ps_ret pe_bl)) pss_nil)
      (pss_cons (ps_if (pt_cmpR op_eq (pv 1) pe_int (nomark _)) (pss_one (ps_ret pe_bl)) pss_nil)
      (pss_cons (ps_if (pt_cmpR op_lt (pv 1) pe_int (nomark _)) (pss_one (ps_ret (pcall Oi hr (pa_cons (pv 0) pa_nil)))) pss_nil)
      (pss_one (ps_ret (pcall Os hr (pa_cons (pv 0) pa_nil))))))))), ?_⟩
  refine ⟨_, rfl, b, 9, rfl, hb, by decide, by decide, fun r H1 r0 r1 st => ?_⟩
  refine ⟨_, rfl, rfl, _, rfl, ite2 (fun _ => q .non .non H1 .non rfl rfl (by decide) st) (fun _ => ?_)⟩
  refine ⟨_, rfl, rfl, _, rfl, ite2 (fun _ => q (.bl true) (.bl true) H1 (.bl _) rfl rfl (by decide) st) (fun _ => ?_)⟩
  refine ⟨_, rfl, rfl, _, rfl, ite2 (fun _ => q (.bl false) (.bl false) H1 (.bl _) rfl rfl (by decide) st) (fun _ => ?_)⟩
  refine ⟨_, rfl, _, _, rfl, rfl, _, rfl, ite2 (fun _ => ?_) (fun _ => ?_)⟩
  · refine ⟨_, rfl, b, rfl, st.b1, fun i H2 hi st2 => q (.int i) (.int i) H2 (.int i) (decide_eq_true hi) rfl ?_ (st.trans st2)⟩
    have e : wr (.int i) = wi i := by unfold wr; rfl
    have h80 := TL.numL_len (k := 80) (by decide) hi
    rw [e]
    unfold wi
    split
    · rw [List.length_cons]; omega
    · omega
  · refine ⟨_, rfl, b, rfl, st.b1, fun l H2 hal hlen st2 => q (.str (S l)) (.str l) H2 (.str l) hal rfl ?_ (st.trans st2)⟩
    have e : wr (.str l) = 34 :: (esc l ++ [34]) := by unfold wr; rfl
    have := esc_len l
    rw [e, List.length_cons, List.length_append]
    show _ + 1 + 1 ≤ _
    omega
end
end D4
namespace D4
open PySem PySem.Spec PyProof.Rows L2 SX
/-- a part: a list of a datum and its depth -/
def PartAt (H : Hp) (x : V) (d : D) : Prop := ∃ p v, x = .ref p ∧ H p = some (.lst [v, .int (dep d : Nat)]) ∧ Rep H v d
inductive Parts (H : Hp) : List V → List D → Prop
  | nil : Parts H [] []
  | cons {v : V} {d : D} {vs : List V} {ds : List D} (h : PartAt H v d) (r : Parts H vs ds) : Parts H (v :: vs) (d :: ds)
theorem PartAt.mono {H H' : Hp} {x : V} {d : D} (s : Same H H') (h : PartAt H x d) : PartAt H' x d := by obtain ⟨p, v, e, h1, h2⟩ := h; exact ⟨p, v, e, s _ _ h1, h2.mono s⟩
theorem Parts.mono {H H' : Hp} (s : Same H H') : ∀ {vs : List V} {ds : List D}, Parts H vs ds → Parts H' vs ds
  | _, _, .nil => .nil
  | _, _, .cons h r => .cons (h.mono s) (r.mono s)
theorem Parts.len {H : Hp} : ∀ {vs : List V} {ds : List D}, Parts H vs ds → vs.length = ds.length
  | _, _, .nil => rfl
  | _, _, .cons _ r => congrArg Nat.succ r.len
theorem Parts.get {H : Hp} : ∀ {vs : List V} {ds : List D} {i : Nat} {v : V}, Parts H vs ds → vs[i]? = some v → ∃ d, ds[i]? = some d ∧ PartAt H v d
  | _, _, _, _, .nil, h => by simp at h
  | _, _, 0, v, .cons (d := d) h r, e => by simp at e; subst e; exact ⟨d, rfl, h⟩
  | _, _, i + 1, v, .cons h r, e => by obtain ⟨d, e1, e2⟩ := Parts.get (i := i) r (by simpa using e); exact ⟨d, by simpa using e1, e2⟩
theorem Parts.app {H : Hp} : ∀ {vs ws : List V} {ds es : List D}, Parts H vs ds → Parts H ws es → Parts H (vs ++ ws) (ds ++ es)
  | _, _, _, _, .nil, s => s
  | _, _, _, _, .cons h r, s => .cons h (r.app s)
theorem Parts.take {H : Hp} : ∀ (n : Nat) {vs : List V} {ds : List D}, Parts H vs ds → Parts H (vs.take n) (ds.take n)
  | 0, _, _, _ => .nil
  | _ + 1, _, _, .nil => .nil
  | n + 1, _, _, .cons h r => .cons h (r.take n)
theorem Parts.drop {H : Hp} : ∀ (n : Nat) {vs : List V} {ds : List D}, Parts H vs ds → Parts H (vs.drop n) (ds.drop n)
  | 0, _, _, r => r
  | _ + 1, _, _, .nil => .nil
  | n + 1, _, _, .cons _ r => r.drop n
theorem deps_max : ∀ (ds : List D) (m : Int), m ∈ ((ds.map fun d => (dep d : Int)) ++ [0]) → (∀ y ∈ ((ds.map fun d => (dep d : Int)) ++ [0]), y ≤ m) → m = (deps ds : Nat) := by
  have mem : ∀ ds : List D, ((deps ds : Nat) : Int) ∈ ((ds.map fun d => (dep d : Int)) ++ [0]) := by
    intro ds
    induction ds with
    | nil => simp [deps]
    | cons d r ih =>
      unfold deps
      rw [List.map_cons, List.cons_append]
      by_cases h : dep d ≤ deps r
      · rw [Nat.max_eq_right h]; exact List.mem_cons_of_mem _ ih
      · rw [Nat.max_eq_left (by omega)]; exact List.mem_cons_self ..
  intro ds m hm hle
  have h1 := hle _ (mem ds)
  have h2 : m ≤ (deps ds : Nat) := by
    rcases List.mem_append.mp hm with h | h
    · obtain ⟨d, hd, rfl⟩ := List.mem_map.mp h
      have := deps_mem (Nat.le_refl (deps ds)) d hd
      omega
    · have : m = 0 := by simpa using h
      omega
  omega
def spGrouped : Sp := fun vs H Q _ => ∃ (a : Addr) (xs : List V) (ds : List D), vs = [.ref a] ∧ H a = some (.lst xs) ∧ Parts H xs ds ∧ xs.length ≤ 100 ∧ ∀ p H', Same H H' → H p = none → PartAt H' (.ref p) (.tup ds) → Q (.ref p) H'
section
variable {P : Program} {w : World} {K : PySem.W.Frag} {mg : Str → Option Value} {base : Heap}
theorem ok__law_grouped (T : Txt K mg) : OkD P w K mg base CX0 1 "_law_grouped" p__law_grouped spGrouped := by
  refine T.g__law_grouped.ok sc__law_grouped (fun vs H Q E h => ?_) (fun f cdv A outer s H vs Q E hr h => ?_)
  · obtain ⟨a, xs, ds, rfl, _⟩ := h; rfl
  obtain ⟨a, xs, ds, rfl, ha, hp, h100, q⟩ := h
  have lim : (1000 : Nat) ≤ sizeLine := by decide
  have two : 2 ≤ sizeLine := by decide
  refine ⟨_, (pss_cons (ps_set (i := 1) sc__law_grouped.nd rfl (.inl rfl) (pe_callB (cr_max rfl) (by rfl) T.z_max (by decide +kernel) (pa_cons (pe_op op_cat
      (pe_lc (own := [("part", 2)]) (g := gName 2) (tt := tYes) rfl sc__law_grouped.nd (pi_list (pv 0)) (blkOk_by (own := [("part", 2)]) (N := n__law_grouped) (sc := defScope s__law_grouped) (by decide +kernel))
        (fun _ _ _ _ _ => (pg_name (i := 2) sc__law_grouped.nd rfl (Or.inl rfl))) (fun _ _ _ _ _ => pts_nil) (fun _ _ _ _ _ => (pe_ix (show IxR _ (rIxL K) from ix_list) (pv 2) pe_int (fun _ _ => rfl)))) (pe_lst (pa_cons pe_int pa_nil))) pa_nil)))
      (pss_one (ps_ret (pe_lst (pa_cons (pe_callTy call_tuple_of (by rfl) T.z_tuple PyProof.Rows.boot_tuple (pa_cons (pe_lc (own := [("part", 2)]) (g := gName 2) (tt := tYes) rfl sc__law_grouped.nd (pi_list (pv 0)) (blkOk_by (own := [("part", 2)]) (N := n__law_grouped) (sc := defScope s__law_grouped) (by decide +kernel))
        (fun _ _ _ _ _ => (pg_name (i := 2) sc__law_grouped.nd rfl (Or.inl rfl))) (fun _ _ _ _ _ => pts_nil) (fun _ _ _ _ _ => (pe_ix (show IxR _ (rIxL K) from ix_list) (pv 2) pe_int (fun _ _ => rfl)))) pa_nil)) (pa_cons (pe_op op_add pe_int (pv 1)) pa_nil)))))), ?_⟩
  have hlen := hp.len
  refine ⟨_, rfl, a, rfl, ⟨xs, SqL.of ha⟩, fun D1 hD1 => ?_⟩
  refine lc_it (walk_list (xs := xs)) (fun i H' => Same H H' ∧ H' D1 = some (.lst ((ds.take i).map fun d => V.int (dep d : Nat)))) ⟨same_new hD1 _, upd_same⟩ (fun i H' _ h => SqL.of (h.1 _ _ ha)) ?_ ?_
  · rintro i x H1 H2 hi ⟨sm, hl1⟩ ⟨rfl, hx⟩
    obtain ⟨d, hdi, p, v, rfl, hpp, rv⟩ := hp.get hx
    refine ⟨rfl, iteT (B := True) (iteT ?_)⟩
    refine ⟨_, rfl, p, _, 1, _, rfl, rfl, SqL.of (sm _ _ hpp), rfl, _, hl1, by rw [List.length_map, List.length_take]; omega, ?_, ?_⟩
    · intro b o e; rw [upd_ne (ne_of_none e hD1)]; exact sm _ _ e
    · rw [upd_same, List.take_add_one, hdi, List.map_append]; rfl
  · rintro H1 ⟨sm1, hl1⟩
    rw [hlen, List.take_length] at hl1
    refine ⟨by show 1 ≤ sizeLine; omega, fun l0 hl0 => ?_⟩
    refine ⟨D1, l0, _, _, rfl, rfl, same_new hl0 _ _ _ hl1, upd_same, by rw [List.length_map]; show ds.length + 1 ≤ _; omega, fun l2 hl2 => ?_⟩
    have sm2 : Same H (upd (upd H1 l0 (.lst [V.int 0])) l2 (.lst ((ds.map fun d => V.int (dep d : Nat)) ++ [V.int 0]))) := sm1.trans ((same_new hl0 _).trans (same_new hl2 _))
    refine ⟨l2, (ds.map fun d => (dep d : Int)) ++ [0], rfl, SqL.of (by rw [upd_same, List.map_append, List.map_map]; rfl), by rw [List.length_append]; show 0 < _ + 1; omega, fun m hm hle => ?_⟩
    have em := deps_max ds m hm hle
    subst em
    generalize hH2 : (upd (upd H1 l0 (.lst [V.int 0])) l2 (.lst ((ds.map fun d => V.int (dep d : Nat)) ++ [V.int 0]))) = H2 at sm2
    refine ⟨_, rfl, a, rfl, ⟨xs, SqL.of (sm2 _ _ ha)⟩, fun D2 hD2 => ?_⟩
    refine lc_it (walk_list (xs := xs)) (fun i H' => Same H2 H' ∧ ∃ vs, H' D2 = some (.lst vs) ∧ Reps H' vs (ds.take i)) ⟨same_new hD2 _, [], upd_same, .nil⟩ (fun i H' _ h => SqL.of (h.1 _ _ (sm2 _ _ ha))) ?_ ?_
    · rintro i x H3 H4 hi ⟨sm, vs, hl3, rs⟩ ⟨rfl, hx⟩
      obtain ⟨d, hdi, p, v, rfl, hpp, rv⟩ := hp.get hx
      have rvl := rs.len
      rw [List.length_take] at rvl
      refine ⟨rfl, iteT (B := True) (iteT ?_)⟩
      refine ⟨_, rfl, p, _, 0, v, rfl, rfl, SqL.of (sm _ _ (sm2 _ _ hpp)), rfl, _, hl3, by omega, ?_, vs ++ [v], upd_same, ?_⟩
      · intro b o e; rw [upd_ne (ne_of_none e hD2)]; exact sm _ _ e
      · rw [List.take_add_one, hdi]
        exact ((rs.app (.cons (rv.mono (sm2.trans sm)) .nil)).updL hl3)
    · rintro H3 ⟨sm, vs, hl3, rs⟩
      rw [hlen, List.take_length] at rs
      refine ⟨D2, vs, rfl, .inl ⟨SqL.of hl3, fun t ht => ?_⟩⟩
      refine ⟨_, rfl, _, _, rfl, rfl, two, fun p hpn => ?_⟩
      have s3 : Same H3 (upd H3 t (.tup vs)) := same_new ht _
      have s4 : Same (upd H3 t (.tup vs)) (upd (upd H3 t (.tup vs)) p (.lst [V.ref t, V.int (1 + (deps ds : Nat))])) := same_new hpn _
      refine q p _ (sm2.trans (sm.trans (s3.trans s4))) ((sm2.trans (sm.trans s3)).free hpn) ⟨p, .ref t, rfl, ?_, .tup (s4 _ _ upd_same) (Reps.mono (s3.trans s4) rs)⟩
      rw [upd_same]
      have e : dep (.tup ds) = 1 + deps ds := by unfold dep; rfl
      rw [e]
      show some (HO.lst [V.ref t, V.int (1 + ((deps ds : Nat) : Int))]) = _
      rw [show ((1 + deps ds : Nat) : Int) = 1 + ((deps ds : Nat) : Int) by omega]
end
end D4
namespace D4
open PySem PySem.Spec PyProof.Rows L2 SX
mutual
def py : D → PyData
  | .non => .none
  | .bl b => .bool b
  | .int i => .int i
  | .str l => .str (S l)
  | .tup l => .tuple (pys l)
def pys : List D → List PyData
  | [] => []
  | d :: r => py d :: pys r
end
mutual
theorem Rep.dp {K : PySem.W.Frag} {H : Hp} {v : V} {d : D} : Rep H v d → Dp K H v (py d)
  | .non => by unfold py; exact .non
  | .bl b => by unfold py; exact .bl b
  | .int i => by unfold py; exact .int i
  | .str l => by unfold py; exact .str _
  | .tup h r => by unfold py; exact .tup (SqT.of h) (Reps.dp r)
theorem Reps.dp {K : PySem.W.Frag} {H : Hp} {vs : List V} {ds : List D} : Reps H vs ds → DpAll K H vs (pys ds)
  | .nil => by unfold pys; exact .nil
  | .cons h r => by unfold pys; exact .cons (Rep.dp h) (Reps.dp r)
end
mutual
theorem py_dep : ∀ d : D, (py d).depth = dep d
  | .non => by unfold py dep PyData.depth; rfl
  | .bl _ => by unfold py dep PyData.depth; rfl
  | .int _ => by unfold py dep PyData.depth; rfl
  | .str _ => by unfold py dep PyData.depth; rfl
  | .tup l => by
    have := pys_dep l
    unfold py dep PyData.depth
    omega
theorem pys_dep : ∀ l : List D, PyData.depthAll (pys l) = deps l
  | [] => by unfold pys deps PyData.depthAll; rfl
  | d :: r => by
    have h1 := py_dep d
    have h2 := pys_dep r
    unfold pys deps PyData.depthAll
    rw [h1, h2]
end
mutual
theorem py_lay : ∀ d : D, okd d = true → (py d).canLay0 = true
  | .non, _ => by unfold py PyData.canLay0; rfl
  | .bl _, _ => by unfold py PyData.canLay0; rfl
  | .int _, _ => by unfold py PyData.canLay0; rfl
  | .str l, h => by
    have h : l.all okc = true := h
    unfold py PyData.canLay0
    show (S l).cps.all _ = true
    rw [← Array.all_toList]
    rw [List.all_eq_true] at h ⊢
    intro c hc
    have := h c hc
    unfold okc rowc at this
    rw [Bool.or_eq_true] at this
    rcases this with z | z
    · have := of_decide_eq_true z; exact decide_eq_true (by omega)
    · have := eq_of_beq z; exact decide_eq_true (by omega)
  | .tup l, h => by
    unfold okd at h
    unfold py PyData.canLay0
    exact pys_lay l h
theorem pys_lay : ∀ l : List D, okds l = true → PyData.canLayAll0 (pys l) = true
  | [], _ => by unfold pys PyData.canLayAll0; rfl
  | d :: r, h => by
    unfold okds at h
    rw [Bool.and_eq_true] at h
    unfold pys PyData.canLayAll0
    rw [py_lay d h.1, pys_lay r h.2]
    rfl
end
/-- the parts as data -/
def pyp (ds : List D) : List PyData := ds.map fun d => .list [py d, .int (dep d : Nat)]
theorem Parts.dp {K : PySem.W.Frag} {H : Hp} : ∀ {vs : List V} {ds : List D}, Parts H vs ds → DpAll K H vs (pyp ds)
  | _, _, .nil => .nil
  | _, _, .cons ⟨p, v, e, h, r⟩ t => by
    subst e
    exact .cons (.lst (SqL.of h) (.cons r.dp (.cons (.int _) .nil))) t.dp
theorem pyp_shaped : ∀ {ds : List D}, okds ds = true → deps ds ≤ 60 → PyData.canLayAll0 (pyp ds) = true ∧ PyData.depthAll (pyp ds) ≤ 62
  | [], _, _ => by unfold pyp; exact ⟨by rw [List.map_nil, PyData.canLayAll0], by rw [List.map_nil, PyData.depthAll]; omega⟩
  | d :: r, h, h2 => by
    unfold okds at h
    rw [Bool.and_eq_true] at h
    unfold deps at h2
    obtain ⟨a, b⟩ := pyp_shaped (ds := r) h.2 (by omega)
    unfold pyp at a b ⊢
    rw [List.map_cons]
    refine ⟨?_, ?_⟩
    · rw [PyData.canLayAll0, PyData.canLay0, PyData.canLayAll0, PyData.canLayAll0, PyData.canLayAll0, PyData.canLay0, py_lay d h.1, a]; rfl
    · rw [PyData.depthAll, PyData.depth, PyData.depthAll, PyData.depthAll, PyData.depthAll, PyData.depth, py_dep d]; omega
def wsum (ds : List D) : Nat := (ds.map fun d => (wr d).length + 1).sum
theorem wsum_app (a b : List D) : wsum (a ++ b) = wsum a + wsum b := by unfold wsum; rw [List.map_append, List.sum_append]
theorem wsum_one (d : D) : wsum [d] = (wr d).length + 1 := by unfold wsum; simp
theorem wsum_wrt : ∀ l : List D, (wrt l).length = wsum l
  | [] => by rw [wrt_nil]; rfl
  | d :: r => by
    have := wsum_wrt r
    rw [wrt_cons, List.length_cons, List.length_append, this]
    show _ = wsum ([d] ++ r)
    rw [wsum_app, wsum_one]; omega
theorem wsum_tup (l : List D) : (wr (.tup l)).length ≤ wsum l + 2 := by
  have ew : wr (.tup l) = 40 :: (wrs l ++ [41]) := by unfold wr; rfl
  rw [ew, List.length_cons, List.length_append]
  cases l with
  | nil => rw [wrs_nil]; simp
  | cons d r =>
    rw [wrs_cons, List.length_append, wsum_wrt]
    have : wsum (d :: r) = wsum ([d] ++ r) := rfl
    rw [this, wsum_app, wsum_one]
    show _ + 1 + 1 ≤ _
    omega
theorem okds_app {a b : List D} (ha : okds a = true) (hb : okds b = true) : okds (a ++ b) = true := okds_of fun d hd => by
  rcases List.mem_append.mp hd with h | h
  · exact okds_mem ha d h
  · exact okds_mem hb d h
theorem PartAt.step {b : Addr} {H H' : Hp} {x : V} {d : D} (s : Stp b H H') (h : PartAt H x d) : PartAt H' x d := by
  obtain ⟨p, v, e, h1, h2⟩ := h
  refine ⟨p, v, e, s.keep _ _ ?_ h1, h2.step s⟩
  obtain ⟨c, t, n, eb⟩ := s.b0
  intro z; rw [z, eb] at h1
  have h1 : HO.lst [V.int c, V.int t, V.int n] = HO.lst [v, V.int (dep d : Nat)] := Option.some.inj h1
  injection h1 with h1
  have := congrArg List.length h1
  simp at this
theorem Parts.step {b : Addr} {H H' : Hp} (s : Stp b H H') : ∀ {vs : List V} {ds : List D}, Parts H vs ds → Parts H' vs ds
  | _, _, .nil => .nil
  | _, _, .cons h r => .cons (h.step s) (r.step s)
end D4
namespace D4
open PySem PySem.Spec PyProof.Rows L2 SX
structure Pst (H H1 : Hp) (b L : Addr) (xs : List V) (ds : List D) (n : Nat) : Prop where
  st : Stp b H H1
  new : H L = none
  at_ : H1 L = some (.lst xs)
  pr : Parts H1 xs ds
  ok : okds ds = true
  dp : deps ds ≤ n
  len : xs.length ≤ n
  sum : wsum ds ≤ 700 * n
theorem Pst.neb {H H1 : Hp} {b L : Addr} {xs : List V} {ds : List D} {n : Nat} (p : Pst H H1 b L xs ds n) : L ≠ b := p.st.b0.ne p.new
theorem Pst.up {H H1 : Hp} {b L : Addr} {xs : List V} {ds : List D} {n m : Nat} (p : Pst H H1 b L xs ds n) (h : n ≤ m) : Pst H H1 b L xs ds m :=
  ⟨p.st, p.new, p.at_, p.pr, p.ok, Nat.le_trans p.dp h, Nat.le_trans p.len h, Nat.le_trans p.sum (Nat.mul_le_mul_left _ h)⟩
theorem Pst.step {H H1 H2 : Hp} {b L : Addr} {xs : List V} {ds : List D} {n : Nat} (p : Pst H H1 b L xs ds n) (s : Stp b H1 H2) : Pst H H2 b L xs ds n :=
  ⟨p.st.trans s, p.new, s.keep _ _ p.neb p.at_, p.pr.step s, p.ok, p.dp, p.len, p.sum⟩
theorem PartAt.updP {H : Hp} {L : Addr} {xs ys : List V} (h : H L = some (.lst xs)) (hr : ∀ x ∈ xs, ∃ p, x = V.ref p) {x : V} {d : D} (q : PartAt H x d) : PartAt (upd H L (.lst ys)) x d := by
  obtain ⟨p, v, e, h1, h2⟩ := q
  refine ⟨p, v, e, ?_, h2.updL h⟩
  rw [upd_ne]
  · exact h1
  · intro z
    rw [z, h] at h1
    have h1 : HO.lst xs = HO.lst [v, V.int (dep d : Nat)] := Option.some.inj h1
    injection h1 with h1
    obtain ⟨p', e'⟩ := hr (V.int (dep d : Nat)) (by rw [h1]; simp)
    cases e'
theorem Parts.refs {H : Hp} : ∀ {vs : List V} {ds : List D}, Parts H vs ds → ∀ x ∈ vs, ∃ p, x = V.ref p
  | _, _, .nil => fun x h => by cases h
  | _, _, .cons h r => fun x hx => by
    rcases List.mem_cons.mp hx with rfl | hx
    · obtain ⟨p, v, e, _⟩ := h; exact ⟨p, e⟩
    · exact r.refs x hx
theorem Parts.updP {H : Hp} {L : Addr} {xs ys : List V} (h : H L = some (.lst xs)) (hr : ∀ x ∈ xs, ∃ p, x = V.ref p) : ∀ {vs : List V} {ds : List D}, Parts H vs ds → Parts (upd H L (.lst ys)) vs ds
  | _, _, .nil => .nil
  | _, _, .cons q r => .cons (q.updP h hr) (r.updP h hr)
theorem deps_app {a b : List D} {n : Nat} (ha : deps a ≤ n) (hb : deps b ≤ n) : deps (a ++ b) ≤ n := deps_of fun d hd => by
  rcases List.mem_append.mp hd with h | h
  · exact deps_mem ha d h
  · exact deps_mem hb d h
theorem deps_one {d : D} {n : Nat} (h : dep d ≤ n) : deps [d] ≤ n := deps_of fun e he => by
  have : e = d := by simpa using he
  rw [this]; exact h
theorem okds_one {d : D} (h : okd d = true) : okds [d] = true := okds_of fun e he => by
  have : e = d := by simpa using he
  rw [this]; exact h
theorem Stp.free {b z : Addr} {H H' : Hp} (s : Stp b H H') (h : H' z = none) : H z = none := by
  cases e : H z with
  | none => rfl
  | some o =>
    by_cases n : z = b
    · obtain ⟨c, t, m, eb⟩ := s.b1
      rw [n, eb] at h; cases h
    · rw [s.keep z o n e] at h; cases h
theorem cutV_to (xs : List V) (n : Nat) : cutV xs none (some (n : Int)) = xs.take n := by
  unfold cutV
  rw [HT.sIx_none, HT.sIx_nat, List.drop_zero, Nat.sub_zero]
  by_cases h : n ≤ xs.length
  · rw [Nat.min_eq_left h]
  · rw [List.take_of_length_le (by omega), List.take_of_length_le (by omega)]
theorem cutV_from (xs : List V) (n : Nat) : cutV xs (some (n : Int)) none = xs.drop n := by
  unfold cutV
  rw [HT.sIx_none, HT.sIx_nat, drop_min, List.take_of_length_le (by rw [List.length_drop]; omega)]
theorem okds_take {l : List D} (n : Nat) (h : okds l = true) : okds (l.take n) = true := okds_of fun d hd => okds_mem h d (List.mem_of_mem_take hd)
theorem okds_drop {l : List D} (n : Nat) (h : okds l = true) : okds (l.drop n) = true := okds_of fun d hd => okds_mem h d (List.mem_of_mem_drop hd)
theorem Pst.app {H H1 : Hp} {b L : Addr} {xs : List V} {ds : List D} {n : Nat} {x : V} {d : D} (p : Pst H H1 b L xs ds n) (q : PartAt H1 x d) (ho : okd d = true) (hd : dep d ≤ n + 1) (hw : (wr d).length + 1 ≤ 700) :
    Pst H (upd H1 L (.lst (xs ++ [x]))) b L (xs ++ [x]) (ds ++ [d]) (n + 1) := by
  have rf := p.pr.refs
  refine ⟨⟨p.st.b0, ?_, fun a o na e => ?_⟩, p.new, upd_same, (p.pr.updP p.at_ rf).app (.cons (q.updP p.at_ rf) .nil), okds_app p.ok (okds_one ho), deps_app (Nat.le_trans p.dp (Nat.le_succ _)) (deps_one hd), ?_, ?_⟩
  · obtain ⟨c, t, m, e⟩ := p.st.b1
    exact ⟨c, t, m, by rw [upd_ne p.neb.symm]; exact e⟩
  · rw [upd_ne (ne_of_none e p.new)]
    exact p.st.keep a o na e
  · have := p.len; rw [List.length_append]; show _ + 1 ≤ _; omega
  · have := p.sum; rw [wsum_app, wsum_one]; omega
def spDatum : Sp := fun vs H Q _ => ∃ (b : Addr), vs = [.ref b] ∧ Bag H b ∧ ∀ (x : V) (d : D) H', PartAt H' x d → okd d = true → dep d ≤ 60 → (wr d).length ≤ 30000 → Stp b H H' → Q x H'
section
variable {P : Program} {w : World} {K : PySem.W.Frag} {mg : Str → Option Value} {base : Heap}
theorem ok__law_datum (T : Txt K mg) (Ot : OkD P w K mg base CX0 1 "_law_take" p__law_take spTake) (Og : OkD P w K mg base CX0 1 "_law_grouped" p__law_grouped spGrouped) (Ol : OkD P w K mg base CX0 3 "_law_leaf" p__law_leaf spLeafD) :
    OkD P w K mg base CX0 4 "_law_datum" p__law_datum spDatum := by
  refine T.g__law_datum.ok sc__law_datum (fun vs H Q E h => ?_) (fun f cdv A outer s H vs Q E hr h => ?_)
  · obtain ⟨b, rfl, _⟩ := h; rfl
  obtain ⟨b, rfl, hb, q⟩ := h
  have lim : (1000 : Nat) ≤ sizeLine := by decide
  have two : 2 ≤ sizeLine := by decide
  -- the last part: built is there
  refine split_at 3 (fun t => ∀ (n : Nat) H1 L, n ≤ 40 → Pst H H1 b L [] [] 0 → t { nx := fun _ H' => Q .non H', rt := Q } [some (.ref b), some (.ref L), some (.int (n : Nat)), none, none, none] H1) ?_ (fun t ht hg => ?_)
  rotate_left
  · refine ⟨_, pss_cons (ps_set (i := 1) sc__law_datum.nd rfl (.inl rfl) (pe_lst pa_nil)) (pss_cons (ps_set (i := 2) sc__law_datum.nd rfl (.inl rfl) (pcall Ot hr (pa_cons (pv 0) (pa_cons pe_int pa_nil)))) (pss_cons (ps_if (pt_cmpR op_eq (pcall Ot hr (pa_cons (pv 0) (pa_cons pe_int pa_nil))) pe_int (nomark _)) (pss_one (ps_set (i := 2) sc__law_datum.nd rfl (.inl rfl) (pcall Ot hr (pa_cons (pv 0) (pa_cons pe_int pa_nil))))) pss_nil) ht)), ?_⟩
    refine ⟨Nat.zero_le _, fun L hL => ?_⟩
    have p0 : Pst H (upd H L (.lst [])) b L [] [] 0 := ⟨Stp.new hb hL, hL, upd_same, .nil, by unfold okds; rfl, by unfold deps; omega, Nat.le_refl _, Nat.le_refl _⟩
    refine ⟨_, rfl, b, 8, rfl, p0.st.b1, by decide, by decide, fun r H1 r0 r1 st => ?_⟩
    refine ⟨_, rfl, b, 4, rfl, st.b1, by decide, by decide, fun r' H2 _ _ st2 => ?_⟩
    refine ⟨rfl, _, rfl, ite2 (fun _ => ?_) (fun _ => ?_)⟩
    · refine ⟨_, rfl, b, 41, rfl, st2.b1, by decide, by decide, fun r2 H3 r20 r21 st3 => ?_⟩
      have := hg r2.toNat H3 L (by omega) (p0.step (st.trans (st2.trans st3)))
      rw [show ((r2.toNat : Nat) : Int) = r2 by omega] at this
      exact this
    · have := hg r.toNat H2 L (by omega) (p0.step (st.trans st2))
      rw [show ((r.toNat : Nat) : Int) = r by omega] at this
      exact this
  refine split_at 1 (fun t => ∀ (n : Nat) H1 L xs ds y3 y4, Pst H H1 b L xs ds 40 → t { nx := fun _ H' => Q .non H', rt := Q } [some (.ref b), some (.ref L), some (.int (n : Nat)), y3, y4, none] H1) ?_ (fun t ht hg => ?_)
  rotate_left
  · refine ⟨_, pss_cons (ps_for PassesOwn.never rfl (pi_range1 rfl T.z_range (pa_cons (pv 2) pa_nil)) (pg_name (i := 3) sc__law_datum.nd rfl (Or.inl rfl)) (pss_one (ps_if (pt_cmpR op_eq (pcall Ot hr (pa_cons (pv 0) (pa_cons pe_int pa_nil))) pe_int (nomark _)) (pss_cons (ps_set (i := 4) sc__law_datum.nd rfl (.inl rfl) (pe_op op_sub (pe_callB call_len_seq (by rfl) T.z_len PySem.boot_len (pa_cons (pv 1) pa_nil)) (pcall Ot hr (pa_cons (pv 0) (pa_cons (pe_op op_add (pe_callB (call_min2 rfl) (by rfl) T.z_min (by decide +kernel) (pa_cons (pe_callB call_len_seq (by rfl) T.z_len PySem.boot_len (pa_cons (pv 1) pa_nil)) (pa_cons pe_int pa_nil))) pe_int) pa_nil)))))
      (pss_one (ps_set (i := 1) sc__law_datum.nd rfl (.inl rfl) (pe_op op_cat (pe_slice sl_list (pv 1) po_none (po_some (pv 4))) (pe_lst (pa_cons (pcall Og hr (pa_cons (pe_slice sl_list (pv 1) (po_some (pv 4)) po_none) pa_nil)) pa_nil)))))) (pss_one (ps_expr (pe_bm PySem.F.plainAttrs_list PySem.F.slot_list_append PySem.F.type_list_append mt_append (pv 1) (pa_cons (pe_lst (pa_cons (pcall Ol hr (pa_cons (pv 0) pa_nil)) (pa_cons pe_int pa_nil))) pa_nil))))))) ht, ?_⟩
    intro n H1 L hn p0
    refine ⟨_, rfl, (n : Int), rfl, by omega, by omega, ?_⟩
    refine for_range (lo := 0) (n := (n : Int).toNat) (fun i σ H' => ∃ L xs ds y3 y4, σ = [some (.ref b), some (.ref L), some (.int (n : Nat)), y3, y4, none] ∧ Pst H H' b L xs ds i) ⟨L, [], [], none, none, rfl, p0⟩ ?_ ?_
    · rintro i σ H2 hi ⟨L, xs, ds, y3, y4, rfl, ps⟩
      have hlen := ps.len
      refine ⟨_, rfl, b, 3, rfl, ps.st.b1, by decide, by decide, fun r H3 _ _ st => ?_⟩
      have ps3 := ps.step st
      refine ⟨rfl, _, rfl, ite2 (fun _ => ?_) (fun _ => ?_)⟩
      · refine ⟨_, rfl, L, _, rfl, .inl (SqL.of ps3.at_), _, rfl, _, rfl, L, _, rfl, .inl (SqL.of ps3.at_), _, _, rfl, _, _, rfl, rfl, b, _, rfl, ps3.st.b1, ?_, ?_, fun r2 H4 r20 r21 st4 => ?_⟩
        · split <;> omega
        · split <;> omega
        have ps4 := ps3.step st4
        have hr2 : r2 ≤ (xs.length : Int) := by
          split at r21 <;> omega
        obtain ⟨k, hk⟩ : ∃ k : Nat, (xs.length : Int) - r2 = (k : Int) := ⟨xs.length - r2.toNat, by omega⟩
        have hkl : k ≤ xs.length := by omega
        refine ⟨_, _, rfl, rfl, ?_⟩
        dsimp only
        rw [hk]
        refine ⟨_, rfl, _, rfl, k, rfl, L, xs, rfl, SqL.of ps4.at_, fun p1 hp1 => ?_⟩
        rw [cutV_to]
        have sa : Same H4 (upd H4 p1 (.lst (xs.take k))) := same_new hp1 _
        refine ⟨_, rfl, _, rfl, k, rfl, L, xs, rfl, SqL.of (sa _ _ ps4.at_), fun p2 hp2 => ?_⟩
        rw [cutV_from]
        have sb : Same (upd H4 p1 (.lst (xs.take k))) (upd (upd H4 p1 (.lst (xs.take k))) p2 (.lst (xs.drop k))) := same_new hp2 _
        refine ⟨p2, _, ds.drop k, rfl, upd_same, (ps4.pr.drop k).mono (sa.trans sb), by rw [List.length_drop]; omega, fun p3 H5 s3 n3 pa => ?_⟩
        refine ⟨by show 1 ≤ sizeLine; omega, fun l3 hl3 => ?_⟩
        have sc : Same H5 (upd H5 l3 (.lst [V.ref p3])) := same_new hl3 _
        have h1 := sc _ _ (s3 _ _ (sb _ _ upd_same))
        refine ⟨p1, l3, _, _, rfl, rfl, h1, upd_same, by rw [List.length_take]; show _ + 1 ≤ _; omega, fun z hz => ?_⟩
        have sd : Same (upd H5 l3 (.lst [V.ref p3])) (upd (upd H5 l3 (.lst [V.ref p3])) z (.lst (xs.take k ++ [V.ref p3]))) := same_new hz _
        have sAll := sa.trans (sb.trans (s3.trans (sc.trans sd)))
        have stAll := ps4.st.trans (Stp.same ps4.st.b1 sAll)
        have hnew : H z = none := (ps4.st.trans (Stp.same ps4.st.b1 (sa.trans (sb.trans (s3.trans sc))))).free hz
        have hpl := ps4.pr.len
        have hdt : deps (ds.take k) ≤ i := deps_of fun d hd => deps_mem ps4.dp d (List.mem_of_mem_take hd)
        have hdd : deps (ds.drop k) ≤ i := deps_of fun d hd => deps_mem ps4.dp d (List.mem_of_mem_drop hd)
        have hw := wsum_app (ds.take k) (ds.drop k)
        rw [List.take_append_drop] at hw
        have hwt := wsum_tup (ds.drop k)
        have hsum := ps4.sum
        refine ⟨z, _, ds.take k ++ [.tup (ds.drop k)], _, _, rfl, stAll, hnew, upd_same, ((ps4.pr.take k).mono sAll).app (.cons (pa.mono (sc.trans sd)) .nil), okds_app (okds_take k ps4.ok) (okds_one ?_), deps_app (by omega) (deps_one ?_), ?_, ?_⟩
        · unfold okd; exact okds_drop k ps4.ok
        · have e : dep (.tup (ds.drop k)) = 1 + deps (ds.drop k) := by conv => lhs; unfold dep
          omega
        · rw [List.length_append, List.length_take]; show _ + 1 ≤ _; omega
        · rw [wsum_app, wsum_one]; omega
      · refine ⟨_, rfl, .inl ⟨rfl, _, SqL.of ps3.at_⟩, ?_⟩
        refine ⟨_, rfl, b, rfl, ps3.st.b1, fun v d H4 rv hod hdd hwd st4 => ?_⟩
        have ps4 := ps3.step st4
        refine ⟨two, fun p hp => ?_⟩
        have ps5 := ps4.step (Stp.new (o := .lst [v, V.int 0]) ps4.st.b1 hp)
        refine ⟨L, xs, _, rfl, rfl, ps5.at_, by omega, ?_⟩
        refine ⟨L, xs ++ [V.ref p], ds ++ [d], _, y4, rfl, ps5.app ⟨p, v, rfl, ?_, rv.mono (same_new hp _)⟩ hod (by omega) (by omega)⟩
        rw [upd_same, hdd]
        rfl
    · rintro σ H2 ⟨L, xs, ds, y3, y4, rfl, ps⟩
      exact hg n H2 L xs ds y3 y4 (ps.up (by omega))
  refine split_at 1 (fun t => ∀ (n : Nat) H1 L xs ds y3 y4, Pst H H1 b L xs ds 41 → xs ≠ [] → t { nx := fun _ H' => Q .non H', rt := Q } [some (.ref b), some (.ref L), some (.int (n : Nat)), y3, y4, none] H1) ?_ (fun t ht hg => ?_)
  rotate_left
  · refine ⟨_, pss_cons (ps_if (pt_cmpR (op_eqD hr.units) (pv 1) (pe_lst pa_nil) (nomark _)) (pss_one (ps_expr (pe_bm PySem.F.plainAttrs_list PySem.F.slot_list_append PySem.F.type_list_append mt_append (pv 1) (pa_cons (pe_lst (pa_cons (pcall Ol hr (pa_cons (pv 0) pa_nil)) (pa_cons pe_int pa_nil))) pa_nil)))) pss_nil) ht, ?_⟩
    intro n H1 L xs ds y3 y4 ps
    refine ⟨_, rfl, Nat.zero_le _, fun p hp => ?_⟩
    have ps2 := ps.step (Stp.new (o := .lst []) ps.st.b1 hp)
    have hsh := pyp_shaped (ds := ds) ps.ok (by have := ps.dp; omega)
    refine ⟨.list (pyp ds), .list [], .lst (SqL.of ps2.at_) ps2.pr.dp, .lst (SqL.of upd_same) .nil, ?_, by decide, _, rfl, ?_⟩
    · unfold SeqAt.shaped
      rw [PyData.canLay0, hsh.1, PyData.depth]
      exact decide_eq_true (by omega)
    have heq : PyData.eqv (.list (pyp ds)) (.list []) = decide (ds = []) := by
      cases ds with
      | nil => rfl
      | cons d r => rfl
    rw [heq]
    have hpl := ps.pr.len
    refine ite2 (fun c => ?_) (fun c => ?_)
    · have c := of_decide_eq_true c
      subst c
      have hx : xs = [] := List.length_eq_zero_iff.mp (by rw [hpl]; rfl)
      subst hx
      refine ⟨_, rfl, .inl ⟨rfl, _, SqL.of ps2.at_⟩, ?_⟩
      refine ⟨_, rfl, b, rfl, ps2.st.b1, fun v d H4 rv hod hdd hwd st4 => ?_⟩
      have ps4 := ps2.step st4
      refine ⟨two, fun p hp => ?_⟩
      have ps5 := ps4.step (Stp.new (o := .lst [v, V.int 0]) ps4.st.b1 hp)
      refine ⟨L, [], _, rfl, rfl, ps5.at_, by show 0 < sizeLine; omega, ?_⟩
      refine hg n _ L _ ([] ++ [d]) y3 y4 (ps5.app (d := d) ⟨p, v, rfl, ?_, rv.mono (same_new hp _)⟩ hod (by omega) (by omega)) (by simp)
      rw [upd_same, hdd]
      rfl
    · have c : ds ≠ [] := fun x => c (decide_eq_true x)
      exact hg n _ L xs ds y3 y4 (ps2.up (by omega)) (fun x => c (List.length_eq_zero_iff.mp (by rw [← hpl, x]; rfl)))
  refine split_at 1 (fun t => ∀ (n : Nat) H1 L x d y3 y4, Stp b H H1 → H1 L = some (.lst [x]) → PartAt H1 x d → okd d = true → dep d ≤ 42 → (wr d).length ≤ 29500 → t { nx := fun _ H' => Q .non H', rt := Q } [some (.ref b), some (.ref L), some (.int (n : Nat)), y3, y4, none] H1) ?_ (fun t ht hg => ?_)
  rotate_left
  · refine ⟨_, pss_cons (ps_if (pt_cmpR op_gt (pe_callB call_len_seq (by rfl) T.z_len PySem.boot_len (pa_cons (pv 1) pa_nil)) pe_int (nomark _)) (pss_one (ps_set (i := 1) sc__law_datum.nd rfl (.inl rfl) (pe_lst (pa_cons (pcall Og hr (pa_cons (pv 1) pa_nil)) pa_nil)))) pss_nil) ht, ?_⟩
    intro n H1 L xs ds y3 y4 ps hne
    have hlen := ps.len
    have hpl := ps.pr.len
    have hsum := ps.sum
    refine ⟨_, rfl, L, _, rfl, .inl (SqL.of ps.at_), _, _, rfl, rfl, _, rfl, ?_⟩
    refine ite2 (fun c => ?_) (fun c => ?_)
    · refine ⟨_, rfl, L, xs, ds, rfl, ps.at_, ps.pr, by omega, fun p H2 s2 n2 pa => ?_⟩
      refine ⟨by show 1 ≤ sizeLine; omega, fun l hl => ?_⟩
      have hwt := wsum_tup ds
      refine hg n _ l (.ref p) (.tup ds) y3 y4 (ps.st.trans ((Stp.same ps.st.b1 s2).trans (Stp.new (ps.st.b1.same s2) hl))) upd_same (pa.mono (same_new hl _)) (by unfold okd; exact ps.ok) ?_ (by omega)
      have e : dep (.tup ds) = 1 + deps ds := by conv => lhs; unfold dep
      have := ps.dp
      omega
    · have c : ¬ (1 : Int) < (xs.length : Int) := fun x => c (decide_eq_true x)
      have hpos := List.length_pos_iff.mpr hne
      obtain ⟨x, rfl⟩ : ∃ x, xs = [x] := by
        match xs, hpos, c with
        | [x], _, _ => exact ⟨x, rfl⟩
        | x :: y :: r, _, c => exact absurd (by simp only [List.length_cons]; omega) c
      obtain ⟨d, hd0, pa⟩ := ps.pr.get (i := 0) rfl
      have hdm : d ∈ ds := List.mem_of_getElem? hd0
      have hds : ds = [d] := by
        match ds, hpl, hd0 with
        | [e], _, h => rw [show e = d from Option.some.inj h]
        | e :: f :: r, h, _ => simp at h
      rw [hds, wsum_one] at hsum
      refine hg n H1 L x d y3 y4 ps.st ps.at_ pa (okds_mem ps.ok d hdm) ?_ (by omega)
      have := deps_mem ps.dp d hdm
      omega
  refine ⟨_, (pss_cons (ps_set (i := 5) sc__law_datum.nd rfl (.inl rfl) (pe_ix ix_list (pv 1) pe_int (fun _ _ => rfl)))
      (pss_cons (ps_if (pt_cmpR op_eq (pcall Ot hr (pa_cons (pv 0) (pa_cons pe_int pa_nil))) pe_int (nomark _)) (pss_one (ps_for PassesOwn.never rfl (pi_range1 rfl T.z_range (pa_cons (pcall Ot hr (pa_cons (pv 0) (pa_cons (pe_op op_sub pe_int (pe_ix ix_list (pv 5) pe_int (fun _ _ => rfl))) pa_nil))) pa_nil)) (pg_name (i := 3) sc__law_datum.nd rfl (Or.inl rfl)) (pss_one (ps_set (i := 5) sc__law_datum.nd rfl (.inl rfl) (pcall Og hr (pa_cons (pe_lst (pa_cons (pv 5) pa_nil)) pa_nil)))))) pss_nil)
      (pss_one (ps_ret (pv 5))))), ?_⟩
  intro n H1 L x d y3 y4 st hL pa hod hdd hwd
  refine ⟨_, rfl, L, _, 0, x, rfl, rfl, SqL.of hL, rfl, ?_⟩
  refine ⟨_, rfl, b, 6, rfl, st.b1, by decide, by decide, fun r' H2 _ _ st2 => ?_⟩
  have pa2 := pa.step st2
  refine ⟨rfl, _, rfl, ite2 (fun _ => ?_) (fun _ => ?_)⟩
  · obtain ⟨p, v, rfl, hp, rv⟩ := pa2
    refine ⟨_, rfl, _, rfl, p, _, 1, .int (dep d : Nat), rfl, rfl, SqL.of hp, rfl, _, _, rfl, rfl, b, 61 - ((dep d : Nat) : Int), rfl, st2.b1, by omega, by omega, fun m H3 m0 m1 st3 => ?_⟩
    refine ⟨m, rfl, by omega, by omega, ?_⟩
    have pa3 : PartAt H3 (.ref p) d := PartAt.step st3 ⟨p, v, rfl, hp, rv⟩
    refine for_range (lo := 0) (n := m.toNat) (fun j σ H' => ∃ (x : V) (e : D) (y3 : Option V), σ = [some (.ref b), some (.ref L), some (.int (n : Nat)), y3, y4, some x] ∧ Stp b H H' ∧ PartAt H' x e ∧ okd e = true ∧ dep e ≤ dep d + j ∧ (wr e).length ≤ 29500 + 2 * j) ⟨.ref p, d, y3, rfl, st.trans (st2.trans st3), pa3, hod, by omega, by omega⟩ ?_ ?_
    · rintro j σ H4 hj ⟨x, e, y3, rfl, st4, pe, hoe, hde, hwe⟩
      refine ⟨_, rfl, by show 1 ≤ sizeLine; omega, fun l hl => ?_⟩
      have sl : Same H4 (upd H4 l (.lst [x])) := same_new hl _
      refine ⟨l, [x], [e], rfl, upd_same, .cons (pe.mono sl) .nil, by show 1 ≤ 100; omega, fun p2 H5 s5 n5 pa5 => ?_⟩
      have e1 : dep (.tup [e]) = 1 + max (dep e) 0 := by conv => lhs; unfold dep deps deps
      have hwt := wsum_tup [e]
      rw [wsum_one] at hwt
      have ew : (wr (.tup [e])).length = (wr e).length + 2 := by
        have : wr (.tup [e]) = 40 :: (wrs [e] ++ [41]) := by unfold wr; rfl
        rw [this, wrs_cons, wrt_nil, List.append_nil]; simp
      exact ⟨.ref p2, .tup [e], some (.int (0 + (j : Int))), rfl, st4.trans (Stp.same st4.b1 (sl.trans s5)), pa5, by unfold okd; exact okds_one hoe, by omega, by omega⟩
    · rintro σ H4 ⟨x, e, y3, rfl, st4, pe, hoe, hde, hwe⟩
      exact ⟨_, rfl, q x e H4 pe hoe (by omega) (by omega) st4⟩
  · exact ⟨_, rfl, q x d H2 pa2 hod (by omega) (by omega) (st.trans st2)⟩
end
end D4
namespace D4
open PySem PySem.Spec PyProof.Rows L2 SX
theorem slen (a b : Str) : (a ++ b).length = a.length + b.length := by
  show (a.cps ++ b.cps).size = _
  rw [Array.size_append]; rfl
theorem op_mulS {X : Cx} : OpR X (binaryOp .Mult) (fun x y H Q => ∃ z n, x = .str z ∧ y = .int n ∧ MulOk z n ∧ Q (.str (Txt.mul z n)) H) := by
  intro pins s σ H x y v u Q I rx ry h
  obtain ⟨z, n, rfl, rfl, hok, q⟩ := h
  obtain ⟨t, rfl⟩ := rx
  obtain ⟨t2, rfl⟩ := ry
  exact PySem.SB.mul hok fun t' k => ⟨.str (Txt.mul z n), H, I.tok k, ⟨t', rfl⟩, q⟩
theorem rep_size (a : Array Nat) : ∀ (m : Nat) (acc : Array Nat), ((List.replicate m a).foldl (· ++ ·) acc).size = acc.size + m * a.size
  | 0, acc => by simp
  | m + 1, acc => by
    rw [List.replicate_succ, List.foldl_cons, rep_size a m, Array.size_append, Nat.succ_mul]
    omega
theorem mul_len {z : Str} {n : Int} (hz : z.length = 1) : (Txt.mul z n).length ≤ n.toNat := by
  unfold Txt.mul
  split
  · exact Nat.zero_le _
  · split
    · rw [hz]; omega
    · show ((List.replicate n.toNat z.cps).foldl (· ++ ·) #[]).size ≤ _
      have hz : z.cps.size = 1 := hz
      rw [rep_size, hz]; simp
theorem mul_ok {z : Str} {n : Int} (hz : z.length = 1) (h0 : -10 ≤ n) (h1 : n ≤ 10000) : MulOk z n := by
  refine ⟨?_, fun a _ => ?_, fun _ _ => ?_⟩
  · rw [Bool.or_eq_false_iff]
    exact ⟨decide_eq_false (by omega), decide_eq_false (by omega)⟩
  · rw [hz]
    have : (1 : Int) ≤ (2 ^ 63 - 1) / n := (Int.le_ediv_iff_mul_le (by omega)).mpr (by omega)
    omega
  · rw [hz]
    show decide (1 * n.toNat > sizeLine) = false
    refine decide_eq_false ?_
    have : sizeLine = 16777216 := sizeLine_eq
    omega
def okn : V → Bool
  | .str s => decide (s.length ≤ 40)
  | _ => false
theorem okn_get {xs : List V} (h : xs.all okn = true) {i : Nat} (hi : i < xs.length) : ∃ s : Str, xs[i]? = some (.str s) ∧ s.length ≤ 40 := by
  have := List.all_eq_true.mp h xs[i] (List.getElem_mem hi)
  rw [List.getElem?_eq_getElem hi]
  cases e : xs[i] with
  | str s => rw [e] at this; exact ⟨s, rfl, of_decide_eq_true this⟩
  | _ => rw [e] at this; cases this
def spOdd : Sp := fun vs H Q _ => ∃ (b : Addr), vs = [.ref b] ∧ Bag H b ∧ ∀ (s : Str) H', s.length ≤ 40 → Stp b H H' → Q (.str s) H'
def spAround : Sp := fun vs H Q _ => ∃ (b : Addr) (x : V) (d : D), vs = [.ref b, x] ∧ Bag H b ∧ PartAt H x d ∧ okd d = true ∧ dep d ≤ 60 ∧ (wr d).length ≤ 30000 ∧ ∀ (s : Str) H', s.length ≤ 200000 → Stp b H H' → Q (.str s) H'
section
variable {P : Program} {w : World} {K : PySem.W.Frag} {mg : Str → Option Value} {base : Heap}
theorem ok__law_odd_note (T : Txt K mg) (Ot : OkD P w K mg base CX0 1 "_law_take" p__law_take spTake) : OkD P w K mg base CX0 2 "_law_odd_note" p__law_odd_note spOdd := by
  refine T.g__law_odd_note.ok sc__law_odd_note (fun vs H Q E h => ?_) (fun f cdv A outer s H vs Q E hr h => ?_)
  · obtain ⟨b, rfl, _⟩ := h; rfl
  obtain ⟨b, rfl, hb, q⟩ := h
  have lim : (1000 : Nat) ≤ sizeLine := by decide
  refine split_at 1 (fun t => ∀ H1 p A, Stp b H H1 → H1 p = some (.lst A) → A.all okn = true → A.length = 13 → t { nx := fun _ H' => Q .non H', rt := Q } [some (.ref b), some (.ref p)] H1) ?_ (fun t ht hg => ?_)
  rotate_left
  · refine ⟨_, pss_cons (ps_set (i := 1) sc__law_odd_note.nd rfl (.inl rfl) (pe_lst (pa_cons pe_str (pa_cons pe_str (pa_cons pe_str (pa_cons pe_str (pa_cons pe_str (pa_cons pe_str (pa_cons pe_str (pa_cons pe_str (pa_cons pe_str (pa_cons pe_str (pa_cons pe_str (pa_cons pe_str (pa_cons pe_str pa_nil))))))))))))))) ht, ?_⟩
    exact ⟨by show 13 ≤ sizeLine; omega, fun p0 hp0 => hg _ p0 _ (Stp.new hb hp0) upd_same (by decide +kernel) rfl⟩
  refine split_at 1 (fun t => ∀ H1 p A, Stp b H H1 → H1 p = some (.lst A) → A.all okn = true → A.length = 26 → t { nx := fun _ H' => Q .non H', rt := Q } [some (.ref b), some (.ref p)] H1) ?_ (fun t ht hg => ?_)
  rotate_left
  · refine ⟨_, pss_cons (ps_set (i := 1) sc__law_odd_note.nd rfl (.inl rfl) (pe_op op_cat (pv 1) (pe_lst (pa_cons pe_str (pa_cons pe_str (pa_cons pe_str (pa_cons pe_str (pa_cons pe_str (pa_cons pe_str (pa_cons pe_str (pa_cons pe_str (pa_cons pe_str (pa_cons pe_str (pa_cons pe_str (pa_cons pe_str (pa_cons pe_str pa_nil)))))))))))))))) ht, ?_⟩
    intro H1 p A st hA hok hlen
    refine ⟨_, rfl, by show 13 ≤ sizeLine; omega, fun l hl => ?_⟩
    exact ⟨p, l, _, _, rfl, rfl, by rw [upd_ne (ne_of_none hA hl)]; exact hA, upd_same, by rw [hlen]; show 26 ≤ sizeLine; omega, fun z hz => hg _ z _ ((st.trans (Stp.new st.b1 hl)).trans (Stp.new (Stp.new st.b1 hl).b1 hz)) upd_same (by rw [List.all_append, hok]; decide +kernel) (by rw [List.length_append, hlen]; rfl)⟩
  refine split_at 1 (fun t => ∀ H1 p A, Stp b H H1 → H1 p = some (.lst A) → A.all okn = true → A.length = 38 → t { nx := fun _ H' => Q .non H', rt := Q } [some (.ref b), some (.ref p)] H1) ?_ (fun t ht hg => ?_)
  rotate_left
  · refine ⟨_, pss_cons (ps_set (i := 1) sc__law_odd_note.nd rfl (.inl rfl) (pe_op op_cat (pv 1) (pe_lst (pa_cons pe_str (pa_cons pe_str (pa_cons pe_str (pa_cons pe_str (pa_cons pe_str (pa_cons pe_str (pa_cons pe_str (pa_cons pe_str (pa_cons pe_str (pa_cons pe_str (pa_cons pe_str (pa_cons pe_str pa_nil))))))))))))))) ht, ?_⟩
    intro H1 p A st hA hok hlen
    refine ⟨_, rfl, by show 12 ≤ sizeLine; omega, fun l hl => ?_⟩
    exact ⟨p, l, _, _, rfl, rfl, by rw [upd_ne (ne_of_none hA hl)]; exact hA, upd_same, by rw [hlen]; show 38 ≤ sizeLine; omega, fun z hz => hg _ z _ ((st.trans (Stp.new st.b1 hl)).trans (Stp.new (Stp.new st.b1 hl).b1 hz)) upd_same (by rw [List.all_append, hok]; decide +kernel) (by rw [List.length_append, hlen]; rfl)⟩
  refine split_at 1 (fun t => ∀ H1 p A, Stp b H H1 → H1 p = some (.lst A) → A.all okn = true → A.length = 46 → t { nx := fun _ H' => Q .non H', rt := Q } [some (.ref b), some (.ref p)] H1) ?_ (fun t ht hg => ?_)
  rotate_left
  · refine ⟨_, pss_cons (ps_set (i := 1) sc__law_odd_note.nd rfl (.inl rfl) (pe_op op_cat (pv 1) (pe_lst (pa_cons pe_str (pa_cons pe_str (pa_cons pe_str (pa_cons pe_str (pa_cons pe_str (pa_cons pe_str (pa_cons pe_str (pa_cons pe_str pa_nil))))))))))) ht, ?_⟩
    intro H1 p A st hA hok hlen
    refine ⟨_, rfl, by show 8 ≤ sizeLine; omega, fun l hl => ?_⟩
    exact ⟨p, l, _, _, rfl, rfl, by rw [upd_ne (ne_of_none hA hl)]; exact hA, upd_same, by rw [hlen]; show 46 ≤ sizeLine; omega, fun z hz => hg _ z _ ((st.trans (Stp.new st.b1 hl)).trans (Stp.new (Stp.new st.b1 hl).b1 hz)) upd_same (by rw [List.all_append, hok]; decide +kernel) (by rw [List.length_append, hlen]; rfl)⟩
  refine split_at 1 (fun t => ∀ H1 p A, Stp b H H1 → H1 p = some (.lst A) → A.all okn = true → A.length = 54 → t { nx := fun _ H' => Q .non H', rt := Q } [some (.ref b), some (.ref p)] H1) ?_ (fun t ht hg => ?_)
  rotate_left
  · refine ⟨_, pss_cons (ps_set (i := 1) sc__law_odd_note.nd rfl (.inl rfl) (pe_op op_cat (pv 1) (pe_lst (pa_cons pe_str (pa_cons pe_str (pa_cons pe_str (pa_cons pe_str (pa_cons pe_str (pa_cons pe_str (pa_cons pe_str (pa_cons pe_str pa_nil))))))))))) ht, ?_⟩
    intro H1 p A st hA hok hlen
    refine ⟨_, rfl, by show 8 ≤ sizeLine; omega, fun l hl => ?_⟩
    exact ⟨p, l, _, _, rfl, rfl, by rw [upd_ne (ne_of_none hA hl)]; exact hA, upd_same, by rw [hlen]; show 54 ≤ sizeLine; omega, fun z hz => hg _ z _ ((st.trans (Stp.new st.b1 hl)).trans (Stp.new (Stp.new st.b1 hl).b1 hz)) upd_same (by rw [List.all_append, hok]; decide +kernel) (by rw [List.length_append, hlen]; rfl)⟩
  refine split_at 1 (fun t => ∀ H1 p A, Stp b H H1 → H1 p = some (.lst A) → A.all okn = true → A.length = 61 → t { nx := fun _ H' => Q .non H', rt := Q } [some (.ref b), some (.ref p)] H1) ?_ (fun t ht hg => ?_)
  rotate_left
  · refine ⟨_, pss_cons (ps_set (i := 1) sc__law_odd_note.nd rfl (.inl rfl) (pe_op op_cat (pv 1) (pe_lst (pa_cons pe_str (pa_cons pe_str (pa_cons pe_str (pa_cons pe_str (pa_cons pe_str (pa_cons pe_str (pa_cons pe_str pa_nil)))))))))) ht, ?_⟩
    intro H1 p A st hA hok hlen
    refine ⟨_, rfl, by show 7 ≤ sizeLine; omega, fun l hl => ?_⟩
    exact ⟨p, l, _, _, rfl, rfl, by rw [upd_ne (ne_of_none hA hl)]; exact hA, upd_same, by rw [hlen]; show 61 ≤ sizeLine; omega, fun z hz => hg _ z _ ((st.trans (Stp.new st.b1 hl)).trans (Stp.new (Stp.new st.b1 hl).b1 hz)) upd_same (by rw [List.all_append, hok]; decide +kernel) (by rw [List.length_append, hlen]; rfl)⟩
  refine ⟨_, (pss_one (ps_ret (pe_ix ix_list (pv 1) (pcall Ot hr (pa_cons (pv 0) (pa_cons (pe_callB call_len_seq (by rfl) T.z_len PySem.boot_len (pa_cons (pv 1) pa_nil)) pa_nil))) (fun _ _ => rfl)))), ?_⟩
  intro H1 p A st hA hok hlen
  refine ⟨_, rfl, _, rfl, _, rfl, p, _, rfl, .inl (SqL.of hA), b, (A.length : Int), rfl, st.b1, by omega, by omega, fun r H2 r0 r1 st2 => ?_⟩
  have hA2 := st2.keep p _ (fun z => by obtain ⟨c, t, m, e⟩ := st.b1; rw [z, e] at hA; have := congrArg List.length (HO.lst.inj (Option.some.inj hA)); rw [hlen] at this; simp at this) hA
  obtain ⟨k, rfl⟩ : ∃ k : Nat, r = (k : Int) := ⟨r.toNat, by omega⟩
  obtain ⟨s, hs, hsl⟩ := okn_get hok (i := k) (by omega)
  exact ⟨p, A, _, _, rfl, rfl, SqL.of hA2, atI_nat hs, q s H2 hsl (st.trans st2)⟩
end
end D4
namespace D4
open PySem PySem.Spec PyProof.Rows L2 SX
theorem cut_le (z : Str) (lo hi : Option Int) : (cutS z lo hi).length ≤ z.length := cutS_length z lo hi
section
variable {P : Program} {w : World} {K : PySem.W.Frag} {mg : Str → Option Value} {base : Heap}
theorem ok__law_around (T : Txt K mg) (Ot : OkD P w K mg base CX0 1 "_law_take" p__law_take spTake) (On : OkD P w K mg base CX0 62 "_law_note" p__law_note (spWrite 61)) : OkD P w K mg base CX0 63 "_law_around" p__law_around spAround := by
  refine T.g__law_around.ok sc__law_around (fun vs H Q E h => ?_) (fun f cdv A outer s H vs Q E hr h => ?_)
  · obtain ⟨b, x, d, rfl, _⟩ := h; rfl
  obtain ⟨b, x, d, rfl, hb, pa, hod, hdd, hwd, q⟩ := h
  have lim : (100000 : Nat) ≤ sizeLine := by decide
  have z : (Str.ofString "-").length = 1 ∧ (Str.ofString "7").length = 1 ∧ (Str.ofString "(").length = 1 ∧ (Str.ofString ")").length = 1 ∧ Str.ofString "1234567890" = S [49, 50, 51, 52, 53, 54, 55, 56, 57, 48] := by decide +kernel
  obtain ⟨z1, z2, z3, z4, z5⟩ := z
  refine split_at 4 (fun t => ∀ (dp : Int) (y2 y3 : Option V) H1, 0 ≤ dp → dp ≤ 1200 → Stp b H H1 → t { nx := fun _ H' => Q .non H', rt := Q } [some (.ref b), some x, y2, y3, some (.int dp)] H1) ?_ (fun t ht hg => ?_)
  · refine ⟨_, (pss_one (ps_ret (pe_op op_add_str (pe_op op_add_str (pe_op op_mulS pe_str (pv 4)) (pcall On hr (pa_cons (pe_ix ix_list (pv 1) pe_int (fun _ _ => rfl)) pa_nil))) (pe_op op_mulS pe_str (pe_op op_sub (pv 4) (pe_op op_fdiv (pcall Ot hr (pa_cons (pv 0) (pa_cons pe_int pa_nil))) pe_int)))))), ?_⟩
    intro dp y2 y3 H1 d0 d1 st
    obtain ⟨p, v, rfl, hp, rv⟩ := pa.step st
    refine ⟨_, rfl, _, dp, rfl, rfl, mul_ok z3 (by omega) (by omega), _, rfl, p, _, 0, v, rfl, rfl, SqL.of hp, rfl, v, d, rfl, rv, hod, by omega, by show _ ≤ 1000000; omega, fun H2 s2 => ?_⟩
    have m1 := mul_len (z := Str.ofString "(") (n := dp) z3
    refine ⟨_, _, rfl, rfl, by rw [S_len (wr d)]; omega, _, rfl, _, rfl, b, 7, rfl, st.b1.same s2, by decide, by decide, fun r H3 r0 r1 st3 => ?_⟩
    refine ⟨_, _, rfl, rfl, ⟨by decide, by decide⟩, _, _, rfl, rfl, _, _, rfl, rfl, mul_ok z4 ?_ ?_, ?_⟩
    · show -10 ≤ dp - r / 6; omega
    · show dp - r / 6 ≤ 10000; omega
    have m2 := mul_len (z := Str.ofString ")") (n := dp - r / 6) z4
    refine ⟨_, _, rfl, rfl, ?_, ?_⟩
    · rw [slen, S_len (wr d)]
      show _ + (Txt.mul (Str.ofString ")") (dp - r / 6)).length ≤ _
      omega
    · refine q _ H3 ?_ (st.trans ((Stp.same st.b1 s2).trans st3))
      rw [slen, slen, S_len (wr d)]
      show _ + _ + (Txt.mul (Str.ofString ")") (dp - r / 6)).length ≤ _
      omega
  · refine ⟨_, pss_cons (ps_set (i := 2) sc__law_around.nd rfl (.inl rfl) (pcall Ot hr (pa_cons (pv 0) (pa_cons pe_int pa_nil)))) (pss_cons (ps_if (pt_cmpR op_eq (pv 2) pe_int (nomark _)) (pss_cons (ps_set (i := 3) sc__law_around.nd rfl (.inl rfl) (pe_ix ix_list (pe_lst (pa_cons pe_int (pa_cons pe_int (pa_cons pe_int (pa_cons pe_int (pa_cons pe_int pa_nil)))))) (pcall Ot hr (pa_cons (pv 0) (pa_cons pe_int pa_nil))) (fun _ _ => rfl)))
      (pss_one (ps_ret (pe_op op_add_str (pe_op op_add_str (pe_op op_mulS pe_str (pcall Ot hr (pa_cons (pv 0) (pa_cons pe_int pa_nil)))) (pe_ix ix_str pe_str (pcall Ot hr (pa_cons (pv 0) (pa_cons pe_int pa_nil))) (fun _ _ => rfl))) (pe_op op_mulS pe_str (pe_op op_sub (pv 3) pe_int)))))) pss_nil) (pss_cons (ps_set (i := 4) sc__law_around.nd rfl (.inl rfl) pe_int)
      (pss_cons (ps_if (pt_cmpR op_lt (pv 2) pe_int (nomark _)) (pss_one (ps_set (i := 4) sc__law_around.nd rfl (.inl rfl) (pe_callB (call_max2 rfl) (by rfl) T.z_max (by decide +kernel) (pa_cons pe_int (pa_cons (pe_op op_sub (pe_op op_add pe_int (pcall Ot hr (pa_cons (pv 0) (pa_cons pe_int pa_nil)))) (pe_ix ix_list (pv 1) pe_int (fun _ _ => rfl))) pa_nil))))) pss_nil) ht))), ?_⟩
    refine ⟨_, rfl, b, 4, rfl, hb, by decide, by decide, fun w0 H1 w00 w01 st => ?_⟩
    refine ⟨_, rfl, rfl, _, rfl, ite2 (fun _ => ?_) (fun _ => ?_)⟩
    · refine ⟨by show 5 ≤ sizeLine; omega, fun l hl => ?_⟩
      have st1 := st.trans (Stp.new (o := .lst [.int 79, .int 80, .int 81, .int 82, .int 5000]) st.b1 hl)
      refine ⟨_, rfl, b, 5, rfl, st1.b1, by decide, by decide, fun r H2 r0 r1 st2 => ?_⟩
      have hl2 := st2.keep l _ (st.b1.ne hl) upd_same
      obtain ⟨k, rfl⟩ : ∃ k : Nat, r = (k : Int) := ⟨r.toNat, by omega⟩
      have hsz : ∃ n : Nat, ([.int 79, .int 80, .int 81, .int 82, .int 5000] : List V)[k]? = some (.int (n : Nat)) ∧ n ≤ 5000 := by
        match k, r1 with
        | 0, _ => exact ⟨79, rfl, by decide⟩
        | 1, _ => exact ⟨80, rfl, by decide⟩
        | 2, _ => exact ⟨81, rfl, by decide⟩
        | 3, _ => exact ⟨82, rfl, by decide⟩
        | 4, _ => exact ⟨5000, rfl, by decide⟩
        | k + 5, h => omega
      obtain ⟨n, hn, hn5⟩ := hsz
      refine ⟨l, _, _, _, rfl, rfl, SqL.of hl2, atI_nat hn, ?_⟩
      refine ⟨_, rfl, b, 2, rfl, st2.b1, by decide, by decide, fun r2 H3 r20 r21 st3 => ?_⟩
      refine ⟨_, r2, rfl, rfl, mul_ok z1 (by omega) (by omega), _, rfl, b, 10, rfl, st3.b1, by decide, by decide, fun r3 H4 r30 r31 st4 => ?_⟩
      obtain ⟨k3, rfl⟩ : ∃ k : Nat, r3 = (k : Int) := ⟨r3.toNat, by omega⟩
      have hk3 : k3 < ([49, 50, 51, 52, 53, 54, 55, 56, 57, 48] : List Nat).length := by show k3 < 10; omega
      have m1 := mul_len (z := Str.ofString "-") (n := r2) z1
      refine ⟨S [49, 50, 51, 52, 53, 54, 55, 56, 57, 48], _, _, by rw [← z5], rfl, by show 10 ≤ sizeLine; omega, at_S (List.getElem?_eq_getElem hk3), ?_⟩
      refine ⟨_, _, rfl, rfl, ?_, _, rfl, _, _, rfl, rfl, _, _, rfl, rfl, mul_ok z2 ?_ ?_, ?_⟩
      · show _ + 1 ≤ _; omega
      · show -10 ≤ (n : Int) - 1; omega
      · show (n : Int) - 1 ≤ 10000; omega
      have m2 := mul_len (z := Str.ofString "7") (n := (n : Int) - 1) z2
      refine ⟨_, _, rfl, rfl, ?_, ?_⟩
      · rw [slen]; show _ + 1 + (Txt.mul (Str.ofString "7") ((n : Int) - 1)).length ≤ _; omega
      · refine q _ H4 ?_ (st1.trans (st2.trans (st3.trans st4)))
        rw [slen, slen]; show _ + 1 + (Txt.mul (Str.ofString "7") ((n : Int) - 1)).length ≤ _; omega
    · refine ⟨_, rfl, _, _, rfl, rfl, _, rfl, ite2 (fun _ => ?_) (fun _ => hg _ _ _ _ (by decide) (by decide) st)⟩
      refine ⟨_, rfl, b, 4, rfl, st.b1, by decide, by decide, fun r H2 r0 r1 st2 => ?_⟩
      obtain ⟨p, v, rfl, hp, rv⟩ := pa.step (st.trans st2)
      refine ⟨_, _, rfl, rfl, _, rfl, p, _, 1, .int (dep d : Nat), rfl, rfl, SqL.of hp, rfl, _, _, rfl, rfl, _, _, rfl, ?_⟩
      refine hg _ _ _ _ ?_ ?_ (st.trans st2)
      · split <;> omega
      · split <;> omega
end
end D4
namespace D4
open PySem PySem.Spec PyProof.Rows L2 SX
section
variable {P : Program} {w : World} {K : PySem.W.Frag} {mg : Str → Option Value} {base : Heap}
theorem ok__law_spoiled (T : Txt K mg) (Ot : OkD P w K mg base CX0 1 "_law_take" p__law_take spTake) (On : OkD P w K mg base CX0 62 "_law_note" p__law_note (spWrite 61)) (Oa : OkD P w K mg base CX0 1 "_law_allowed" p__law_allowed spAllowed)
    (Or_ : OkD P w K mg base CX0 63 "_law_around" p__law_around spAround) (Oo : OkD P w K mg base CX0 2 "_law_odd_note" p__law_odd_note spOdd) : OkD P w K mg base CX0 64 "_law_spoiled" p__law_spoiled spAround := by
  refine T.g__law_spoiled.ok sc__law_spoiled (fun vs H Q E h => ?_) (fun f cdv A outer s H vs Q E hr h => ?_)
  · obtain ⟨b, x, d, rfl, _⟩ := h; rfl
  obtain ⟨b, x, d, rfl, hb, pa, hod, hdd, hwd, q⟩ := h
  have lim : (200000 : Nat) ≤ sizeLine := by decide
  have ha : (S allowedL ++ Str.ofString "\t () -0\"\\").length = 104 := by decide +kernel
  have hsp : (Str.ofString " ").length = 1 := by decide +kernel
  have hlw : (S (wr d)).length ≤ 30000 := by rw [S_len]; exact hwd
  refine split_at 6 (fun t => ∀ (way a m : Int) (g1 : Str) (c : Nat) H1, 1 ≤ m → m ≤ 5 → Stp b H H1 → t { nx := fun _ H' => Q .non H', rt := Q } [some (.ref b), some x, some (.str (S (wr d))), some (.int way), some (.int a), some (.int m), some (.str g1), some (.str (S [c]))] H1) ?_ (fun t ht hg => ?_)
  rotate_left
  · refine ⟨_, pss_cons (ps_set (i := 2) sc__law_spoiled.nd rfl (.inl rfl) (pcall On hr (pa_cons (pe_ix ix_list (pv 1) pe_int (fun _ _ => rfl)) pa_nil))) (pss_cons (ps_set (i := 3) sc__law_spoiled.nd rfl (.inl rfl) (pcall Ot hr (pa_cons (pv 0) (pa_cons pe_int pa_nil)))) (pss_cons (ps_set (i := 4) sc__law_spoiled.nd rfl (.inl rfl) (pcall Ot hr (pa_cons (pv 0) (pa_cons (pe_callB call_len_str (by rfl) T.z_len PySem.boot_len (pa_cons (pv 2) pa_nil)) pa_nil)))) (pss_cons (ps_set (i := 5) sc__law_spoiled.nd rfl (.inl rfl) (pe_op op_add pe_int (pcall Ot hr (pa_cons (pv 0) (pa_cons pe_int pa_nil)))))
      (pss_cons (ps_set (i := 6) sc__law_spoiled.nd rfl (.inl rfl) (pe_op op_add_str (pcall0 Oa hr) pe_str)) (pss_cons (ps_set (i := 7) sc__law_spoiled.nd rfl (.inl rfl) (pe_ix ix_str (pv 6) (pcall Ot hr (pa_cons (pv 0) (pa_cons (pe_callB call_len_str (by rfl) T.z_len PySem.boot_len (pa_cons (pv 6) pa_nil)) pa_nil))) (fun _ _ => rfl))) ht))))), ?_⟩
    obtain ⟨p, v, rfl, hp, rv⟩ := pa
    refine ⟨_, rfl, p, _, 0, v, rfl, rfl, SqL.of hp, rfl, v, d, rfl, rv, hod, by omega, by show _ ≤ 1000000; omega, fun H1 s1 => ?_⟩
    refine ⟨_, rfl, b, 11, rfl, hb.same s1, by decide, by decide, fun r1 H2 _ _ st2 => ?_⟩
    obtain ⟨c0, t0, ew, _⟩ := wr_ne41 d
    have hpos : 0 < (wr d).length := by rw [ew]; simp
    refine ⟨_, rfl, _, rfl, _, rfl, by omega, b, ((wr d).length : Int), by rw [S_len]; rfl, st2.b1, by omega, by omega, fun r2 H3 _ _ st3 => ?_⟩
    refine ⟨_, rfl, b, 5, rfl, st3.b1, by decide, by decide, fun r3 H4 r30 r31 st4 => ?_⟩
    refine ⟨_, _, rfl, rfl, ?_⟩
    refine ⟨rfl, _, _, rfl, rfl, ?_, ?_⟩
    · rw [slen] at ha; omega
    refine ⟨_, rfl, _, rfl, _, rfl, _, rfl, by rw [ha]; omega, b, 104, by rw [ha]; rfl, st4.b1, by decide, by decide, fun r5 H5 r50 r51 st5 => ?_⟩
    obtain ⟨k, rfl⟩ : ∃ k : Nat, r5 = (k : Int) := ⟨r5.toNat, by omega⟩
    have hk : k < (S allowedL ++ Str.ofString "\t () -0\"\\").cps.toList.length := by
      have : (S allowedL ++ Str.ofString "\t () -0\"\\").cps.toList.length = 104 := by rw [← ha]; simp [Str.length]
      omega
    refine ⟨_, _, _, rfl, rfl, by rw [ha]; omega, atI_nat (List.getElem?_eq_getElem hk), ?_⟩
    exact hg _ _ _ _ _ _ (by omega) (by omega) ((Stp.same hb s1).trans (st2.trans (st3.trans (st4.trans st5))))
  refine ⟨_, (pss_cons (ps_if (pt_cmpR op_eq (pv 3) pe_int (nomark _)) (pss_one (ps_ret (pe_op op_add_str (pe_slice sl_str (pv 2) po_none (po_some (pv 4))) (pe_slice sl_str (pv 2) (po_some (pe_op op_add (pv 4) pe_int)) po_none)))) pss_nil)
      (pss_cons (ps_if (pt_cmpR op_eq (pv 3) pe_int (nomark _)) (pss_one (ps_ret (pe_op op_add_str (pe_op op_add_str (pe_slice sl_str (pv 2) po_none (po_some (pv 4))) (pv 7)) (pe_slice sl_str (pv 2) (po_some (pv 4)) po_none)))) pss_nil)
      (pss_cons (ps_if (pt_cmpR op_eq (pv 3) pe_int (nomark _)) (pss_one (ps_ret (pe_op op_add_str (pe_op op_add_str (pe_slice sl_str (pv 2) po_none (po_some (pv 4))) (pv 7)) (pe_slice sl_str (pv 2) (po_some (pe_op op_add (pv 4) pe_int)) po_none)))) pss_nil)
      (pss_cons (ps_if (pt_cmpR op_eq (pv 3) pe_int (nomark _)) (pss_one (ps_ret (pe_op op_add_str (pe_op op_add_str (pe_slice sl_str (pv 2) po_none (po_some (pv 4))) (pe_slice sl_str (pv 2) (po_some (pv 4)) (po_some (pe_op op_add (pv 4) pe_int)))) (pe_slice sl_str (pv 2) (po_some (pv 4)) po_none)))) pss_nil)
      (pss_cons (ps_if (pt_cmpR op_eq (pv 3) pe_int (nomark _)) (pss_one (ps_ret (pe_op op_add_str (pe_op op_add_str (pe_op op_add_str (pe_slice sl_str (pv 2) po_none (po_some (pv 4))) (pe_slice sl_str (pv 2) (po_some (pe_op op_add (pv 4) pe_int)) (po_some (pe_op op_add (pv 4) pe_int)))) (pe_slice sl_str (pv 2) (po_some (pv 4)) (po_some (pe_op op_add (pv 4) pe_int)))) (pe_slice sl_str (pv 2) (po_some (pe_op op_add (pv 4) pe_int)) po_none)))) pss_nil)
      (pss_cons (ps_if (pt_cmpR op_eq (pv 3) pe_int (nomark _)) (pss_one (ps_ret (pe_slice sl_str (pv 2) po_none (po_some (pv 4))))) pss_nil)
      (pss_cons (ps_if (pt_cmpR op_eq (pv 3) pe_int (nomark _)) (pss_one (ps_ret (pe_op op_add_str (pe_slice sl_str (pv 2) po_none (po_some (pv 4))) (pe_slice sl_str (pv 2) (po_some (pe_op op_add (pv 4) (pv 5))) po_none)))) pss_nil)
      (pss_cons (ps_if (pt_cmpR op_eq (pv 3) pe_int (nomark _)) (pss_one (ps_ret (pe_op op_add_str (pe_op op_add_str (pe_slice sl_str (pv 2) po_none (po_some (pv 4))) (pe_slice sl_str (pv 2) (po_some (pv 4)) (po_some (pe_op op_add (pv 4) (pv 5))))) (pe_slice sl_str (pv 2) (po_some (pv 4)) po_none)))) pss_nil)
      (pss_cons (ps_if (PW.pt (pw_and (pt_cmpR op_eq (pv 3) pe_int (nomark _)) (pw_and1 (pt_cmpR op_eq (pv 5) pe_int (nomark _))))) (pss_one (ps_ret (pe_op op_add_str (pv 7) (pv 2)))) pss_nil)
      (pss_cons (ps_if (pt_cmpR op_eq (pv 3) pe_int (nomark _)) (pss_one (ps_ret (pe_op op_add_str (pv 2) (pe_ix ix_list (pe_lst (pa_cons (pv 7) (pa_cons (pe_op op_add_str pe_str (pv 2)) (pa_cons (pv 2) (pa_cons pe_str pa_nil))))) (pe_op op_sub (pv 5) pe_int) (fun _ _ => rfl))))) pss_nil)
      (pss_cons (ps_if (pt_cmpR op_eq (pv 3) pe_int (nomark _)) (pss_one (ps_ret (pcall Or_ hr (pa_cons (pv 0) (pa_cons (pv 1) pa_nil))))) pss_nil)
      (pss_one (ps_ret (pcall Oo hr (pa_cons (pv 0) pa_nil))))))))))))))), ?_⟩
  intro way a m g1 c H1 hm1 hm5 st
  have cl := fun lo hi => Nat.le_trans (cut_le (S (wr d)) lo hi) hlw
  have h1 : (S [c]).length = 1 := rfl
  have ret : ∀ s : Str, s.length ≤ 200000 → Q (.str s) H1 := fun s h => q s H1 h st
  have hll : (S (wr d)).length ≤ sizeLine := by omega
  have c1 := cl none (some a)
  have c2 := cl (some a) none
  have c3 := cl (some (a + 1)) none
  have c4 := cl (some a) (some (a + 1))
  have c5 := cl (some (a + 1)) (some (a + 2))
  have c6 := cl (some (a + 2)) none
  have c7 := cl (some (a + m)) none
  have c8 := cl (some a) (some (a + m))
  refine ⟨_, rfl, rfl, _, rfl, ite2 (fun _ => ⟨_, rfl, _, rfl, _, rfl, S (wr d), rfl, hll, _, rfl, _, rfl, _, _, rfl, rfl, _, rfl, S (wr d), rfl, hll, _, _, rfl, rfl, (by (try simp only [slen]); omega), ret _ (by (try simp only [slen]); omega)⟩) (fun _ => ?_)⟩
  refine ⟨_, rfl, rfl, _, rfl, ite2 (fun _ => ⟨_, rfl, _, rfl, _, rfl, S (wr d), rfl, hll, _, rfl, _, _, rfl, rfl, (by (try simp only [slen]); omega), _, rfl, _, rfl, _, rfl, S (wr d), rfl, hll, _, _, rfl, rfl, (by (try simp only [slen]); omega), ret _ (by (try simp only [slen]); omega)⟩) (fun _ => ?_)⟩
  refine ⟨_, rfl, rfl, _, rfl, ite2 (fun _ => ⟨_, rfl, _, rfl, _, rfl, S (wr d), rfl, hll, _, rfl, _, _, rfl, rfl, (by (try simp only [slen]); omega), _, rfl, _, rfl, _, _, rfl, rfl, _, rfl, S (wr d), rfl, hll, _, _, rfl, rfl, (by (try simp only [slen]); omega), ret _ (by (try simp only [slen]); omega)⟩) (fun _ => ?_)⟩
  refine ⟨_, rfl, rfl, _, rfl, ite2 (fun _ => ⟨_, rfl, _, rfl, _, rfl, S (wr d), rfl, hll, _, rfl, _, rfl, _, rfl, _, rfl, _, _, rfl, rfl, _, rfl, S (wr d), rfl, hll, _, _, rfl, rfl, (by (try simp only [slen]); omega), _, rfl, _, rfl, _, rfl, S (wr d), rfl, hll, _, _, rfl, rfl, (by (try simp only [slen]); omega), ret _ (by (try simp only [slen]); omega)⟩) (fun _ => ?_)⟩
  refine ⟨_, rfl, rfl, _, rfl, ite2 (fun _ => ⟨_, rfl, _, rfl, _, rfl, S (wr d), rfl, hll, _, rfl, _, rfl, _, _, rfl, rfl, _, rfl, _, rfl, _, _, rfl, rfl, _, rfl, S (wr d), rfl, hll, _, _, rfl, rfl, (by (try simp only [slen]); omega), _, rfl, _, rfl, _, rfl, _, rfl, _, _, rfl, rfl, _, rfl, S (wr d), rfl, hll, _, _, rfl, rfl, (by (try simp only [slen]); omega), _, rfl, _, rfl, _, _, rfl, rfl, _, rfl, S (wr d), rfl, hll, _, _, rfl, rfl, (by (try simp only [slen]); omega), ret _ (by (try simp only [slen]); omega)⟩) (fun _ => ?_)⟩
  refine ⟨_, rfl, rfl, _, rfl, ite2 (fun _ => ⟨_, rfl, _, rfl, _, rfl, S (wr d), rfl, hll, ret _ (by (try simp only [slen]); omega)⟩) (fun _ => ?_)⟩
  refine ⟨_, rfl, rfl, _, rfl, ite2 (fun _ => ⟨_, rfl, _, rfl, _, rfl, S (wr d), rfl, hll, _, rfl, _, rfl, _, rfl, _, _, rfl, rfl, _, rfl, S (wr d), rfl, hll, _, _, rfl, rfl, (by (try simp only [slen]); omega), ret _ (by (try simp only [slen]); omega)⟩) (fun _ => ?_)⟩
  refine ⟨_, rfl, rfl, _, rfl, ite2 (fun _ => ⟨_, rfl, _, rfl, _, rfl, S (wr d), rfl, hll, _, rfl, _, rfl, _, rfl, _, rfl, _, rfl, _, _, rfl, rfl, _, rfl, S (wr d), rfl, hll, _, _, rfl, rfl, (by (try simp only [slen]); omega), _, rfl, _, rfl, _, rfl, S (wr d), rfl, hll, _, _, rfl, rfl, (by (try simp only [slen]); omega), ret _ (by (try simp only [slen]); omega)⟩) (fun _ => ?_)⟩
  refine ⟨_, rfl, rfl, _, rfl, ?_⟩
  have fin : (m ≠ 5 → ∀ l H2, H1 l = none → H2 = upd H1 l (.lst [.str (S [c]), .str (Str.ofString " " ++ S (wr d)), .str (S (wr d)), .str (Str.ofString " ")]) → ∃ s : Str, atI ([.str (S [c]), .str (Str.ofString " " ++ S (wr d)), .str (S (wr d)), .str (Str.ofString " ")] : List V) (m - 1) = some (.str s) ∧ s.length ≤ 30001) := fun hm l H2 _ _ => by
    obtain ⟨k, hk⟩ : ∃ k : Nat, m - 1 = (k : Int) := ⟨(m - 1).toNat, by omega⟩
    rw [hk]
    match k, hk with
    | 0, _ => exact ⟨_, rfl, by omega⟩
    | 1, _ => exact ⟨_, rfl, by rw [slen]; omega⟩
    | 2, _ => exact ⟨_, rfl, by omega⟩
    | 3, _ => exact ⟨_, rfl, by omega⟩
    | k + 4, h => omega
  have tail8 : m ≠ 5 → ∃ _ : True, True := fun _ => ⟨trivial, trivial⟩
  by_cases e8 : way = 8
  · rw [e8, decide_eq_true rfl]
    refine iteT ⟨_, rfl, rfl, _, rfl, ?_⟩
    by_cases e5 : m = 5
    · rw [e5, decide_eq_true rfl]
      exact iteT ⟨_, rfl, _, rfl, _, _, rfl, rfl, (by omega), ret _ (by (try simp only [slen]); omega)⟩
    · refine ite2 (fun z => absurd (V.int.inj (of_decide_eq_true z)) e5) (fun _ => ?_)
      refine ⟨_, rfl, rfl, _, rfl, ite2 (fun _ => ?_) (fun z => absurd (decide_eq_true rfl) z)⟩
      refine ⟨_, rfl, _, rfl, _, rfl, _, _, rfl, rfl, (by omega), _, rfl, by show 4 ≤ sizeLine; omega, fun l hl => ?_⟩
      obtain ⟨s, hs, hsl⟩ := fin e5 l _ hl rfl
      refine ⟨_, rfl, _, _, rfl, rfl, l, _, m - 1, _, rfl, rfl, SqL.of upd_same, hs, _, _, rfl, rfl, (by omega), ?_⟩
      exact q _ _ (by (try simp only [slen]); omega) (st.trans (Stp.new st.b1 hl))
  · refine ite2 (fun z => absurd (V.int.inj (of_decide_eq_true z)) e8) (fun _ => ?_)
    refine ⟨_, rfl, rfl, _, rfl, ite2 (fun z => absurd (V.int.inj (of_decide_eq_true z)) e8) (fun _ => ?_)⟩
    refine ⟨_, rfl, rfl, _, rfl, ite2 (fun _ => ?_) (fun _ => ?_)⟩
    · exact ⟨_, rfl, _, rfl, b, x, d, rfl, st.b1, pa.step st, hod, hdd, hwd, fun s H2 hs s2 => q s H2 hs (st.trans s2)⟩
    · exact ⟨_, rfl, b, rfl, st.b1, fun s H2 hs s2 => q s H2 (by omega) (st.trans s2)⟩
end
end D4
namespace D4
open PySem PySem.Spec PyProof.Rows L2 SX
structure ExcU (K : PySem.W.Frag) (mg : Str → Option Value) (CB CL CS CR : Addr) : Prop where
  gL : mg "LikerunError" = some (.ref CL)
  exL : PySem.W.exmOne K (.ref CB) (.ref CL) = some true
  gS : mg "BadSave" = some (.ref CS)
  gR : mg "SourceError" = some (.ref CR)
  kB : PySem.W.kitOne K (.ref CB) (.ref CB) = some true
  kV : PySem.W.kitOne K (.ref CB) (.type "ValueError") = some true
  kS : PySem.W.kitOne K (.ref CB) (.ref CS) = some false
  kR : PySem.W.kitOne K (.ref CB) (.ref CR) = some false
  C : ExcC K CB
theorem pcallS {X : Cx} {CX : CXT} {k j : Nat} {ps : List Str} {sp : Sp} {E : L2.St → XK} {x : Str} {p pos : Pos} {e : Expr} {es : List Expr} {t : TA}
    (O : OkD X.prog X.w X.K X.mg X.base CX k x ps sp) (hr : Room j X.A) (hx : ∀ σ, PassesAt CX X σ (E σ)) (ha : PA X (e :: es) t) (hj : k ≤ j := by first | decide | omega) (hg : Gl X x := by rfl)
    (hdb : (x == ("__debug__" : Str)) = false := by decide) (he : starEach (e :: es) X.env = (false, eval e X.env) :: starEach es X.env := by rfl) (hpl : (backTo pos (starEach es X.env)).any (·.1) = false := by rfl) :
    PE X (.Call (.Name x p) (e :: es) [] pos) (tCallS sp E t) := by
  obtain ⟨f, fd, hm, hk, hb, _, F⟩ := O
  exact pe_callS F (hr.mono hj) hg hm hk hb hx ha hdb he hpl
theorem pss_cond {X : Cx} {b : List Stmt} {p : Prop} {t : TS} (h : p → PSs X b t) : PSs X b (fun D σ H => p ∧ t D σ H) := ⟨fun pins s σ H D I q => (h q.1).run pins s σ H D I q.2⟩
theorem escc_row {c : Nat} (h : okc c = true) : (escc c).all rowc = true := by
  unfold escc
  split
  · rfl
  · split
    · rfl
    · split
      · rfl
      · rename_i h3
        unfold okc at h
        rw [Bool.or_eq_true] at h
        rcases h with h | h
        · show (rowc c && true) = true
          rw [h]; rfl
        · exact absurd (eq_of_beq h) h3
theorem esc_row : ∀ l : List Nat, l.all okc = true → (esc l).all rowc = true
  | [], _ => rfl
  | c :: t, h => by
    rw [List.all_cons, Bool.and_eq_true] at h
    rw [esc_cons, List.all_append, escc_row h.1, esc_row t h.2]; rfl
theorem wi_row (i : Int) : (wi i).all rowc = true := by
  have h : (TL.numL i.natAbs).all rowc = true := List.all_eq_true.mpr fun c hc => by
    have := TL.numL_digits i.natAbs c hc
    unfold rowc
    exact decide_eq_true (by omega)
  unfold wi
  split
  · rw [List.all_cons, h]; rfl
  · exact h
mutual
theorem wr_row : ∀ d : D, okd d = true → (wr d).all rowc = true
  | .non, _ => by unfold wr; rfl
  | .bl true, _ => by unfold wr; rfl
  | .bl false, _ => by unfold wr; rfl
  | .int i, _ => by unfold wr; exact wi_row i
  | .str l, h => by
    unfold wr
    rw [List.all_cons, List.all_append, esc_row l h]; rfl
  | .tup l, h => by
    unfold okd at h
    unfold wr
    rw [List.all_cons, List.all_append, wrs_row l h]; rfl
theorem wrs_row : ∀ l : List D, okds l = true → (wrs l).all rowc = true
  | [], _ => by rw [wrs_nil]; rfl
  | d :: r, h => by
    unfold okds at h
    rw [Bool.and_eq_true] at h
    rw [wrs_cons, List.all_append, wr_row d h.1, wrt_row r h.2]; rfl
theorem wrt_row : ∀ l : List D, okds l = true → (wrt l).all rowc = true
  | [], _ => by rw [wrt_nil]; rfl
  | d :: r, h => by
    unfold okds at h
    rw [Bool.and_eq_true] at h
    rw [wrt_cons, List.all_cons, List.all_append, wr_row d h.1, wrt_row r h.2]; rfl
end
def spRefused : Sp := fun vs H Q _ => ∃ (l : List Nat), vs = [.str (S l)] ∧ l.length ≤ big ∧ isNote l = false ∧ ∀ H', Same H H' → Q (.bl true) H'
def spIsRead : Sp := fun vs H Q _ => ∃ (l : List Nat), vs = [.str (S l)] ∧ l.length ≤ big ∧ ∀ H', Same H H' → Q (.bl true) H'
section
variable {P : Program} {w : World} {K : PySem.W.Frag} {mg : Str → Option Value} {base : Heap} {CB CL CS CR : Addr}
theorem ok__law_is_refused (T : Txt K mg) (B : ExcT K mg CB) (U : ExcU K mg CB CL CS CR) (O : OkD P w K mg base (L2.CX P w) 126 "read_datum" p_read_datum (spReadDatum CB)) : OkD P w K mg base CX0 127 "_law_is_refused" p__law_is_refused spRefused := by
  refine T.g__law_is_refused.ok sc__law_is_refused (fun vs H Q E h => ?_) (fun f cdv A outer s H vs Q E hr h => ?_)
  · obtain ⟨l, rfl, _⟩ := h; rfl
  obtain ⟨l, rfl, hl0, hno, q⟩ := h
  refine ⟨_, (pss_cons (ps_try_as (i := 1) (tb := fun W => tDrop (tCallS (spReadDatum CB) (WE W) (tCons (tVar 0) tNil))) (Wout := fun _ _ _ _ => False) rfl rfl sc__law_is_refused.nd rfl rfl ⟨rfl, by decide, Or.inl U.gL⟩ takes0
      (fun W pn xe tk _ => pss_one (ps_expr (pcallS O hr (fun σ => passAt tk σ) (pa_cons (pv 0) pa_nil))))
      (fun a oe cls d pn hz hf => pss_cond (p := cls = .ref CB ∧ d = none) (fun h => by
        obtain ⟨rfl, rfl⟩ := h
        exact (pss_cons (ps_if (PW.pt (pw_or (pt_not (pt_val (pe_callB (call_isE U.C hz hf) (by rfl) T.z_isinstance PyProof.Rows.boot_isinstance (pa_cons (pv 1) (pa_cons (pe_glob rfl B.gB (show RelV (.ref CB) _ from rfl)) pa_nil)))))
            (pw_or1 (pt_not (pt_val (pe_callB (call_isE U.C hz hf) (by rfl) T.z_isinstance PyProof.Rows.boot_isinstance (pa_cons (pv 1) (pa_cons (pe_bltn (v := .ty "ValueError") rfl T.z_ValueError (by decide +kernel) rfl) pa_nil)))))))) (pss_one (ps_ret pe_bl)) pss_nil)
      (pss_one (ps_ret (pe_and (pe_not (pe_callB (call_isE U.C hz hf) (by rfl) T.z_isinstance PyProof.Rows.boot_isinstance (pa_cons (pv 1) (pa_cons (pe_glob rfl U.gS (show RelV (.ref CS) _ from rfl)) pa_nil))))
            (pe_one (pe_not (pe_callB (call_isE U.C hz hf) (by rfl) T.z_isinstance PyProof.Rows.boot_isinstance (pa_cons (pv 1) (pa_cons (pe_glob rfl U.gR (show RelV (.ref CR) _ from rfl)) pa_nil))))))))))))
      (pss_one (ps_ret pe_bl))), ?_⟩
  refine ⟨_, rfl, l, rfl, hl0, fun d _ hp => ?_, fun _ H1 sm => ?_⟩
  · have := (note_iff l).mpr ⟨d, hp⟩
    rw [hno] at this; cases this
  refine ⟨true, U.exL, fun _ a ha => ⟨⟨rfl, rfl⟩, ?_⟩, fun z => nomatch z⟩
  refine ⟨_, rfl, .ref CB, .ref CB, true, rfl, fun u h => h, U.kB, _, rfl, iteF ?_⟩
  refine ⟨_, rfl, .ty "ValueError", .type "ValueError", true, rfl, fun u h => h, U.kV, _, rfl, iteF ?_⟩
  refine ⟨_, rfl, .ref CS, .ref CS, false, rfl, fun u h => h, U.kS, _, rfl, _, rfl, iteT ?_⟩
  refine ⟨_, rfl, .ref CR, .ref CR, false, rfl, fun u h => h, U.kR, _, rfl, ?_⟩
  exact q H1 sm
theorem ok__law_is_read (T : Txt K mg) (Oi : OkD P w K mg base CX0 4 "_law_is_note" p__law_is_note spIsNote) (Of : OkD P w K mg base CX0 127 "_law_is_refused" p__law_is_refused spRefused) (Or_ : OkD P w K mg base (L2.CX P w) 126 "read_datum" p_read_datum (spReadDatum CB))
    (Od : OkD P w K mg base CX0 62 "_law_is_datum" p__law_is_datum (spIsDatum 61)) (On : OkD P w K mg base CX0 62 "_law_note" p__law_note (spWrite 61)) (Ow : OkD P w K mg base CX0 62 "write_datum" p_write_datum (spWrite 61)) : OkD P w K mg base CX0 128 "_law_is_read" p__law_is_read spIsRead := by
  refine T.g__law_is_read.ok sc__law_is_read (fun vs H Q E h => ?_) (fun f cdv A outer s H vs Q E hr h => ?_)
  · obtain ⟨l, rfl, _⟩ := h; rfl
  obtain ⟨l, rfl, hl0, q⟩ := h
  refine ⟨_, (pss_cons (ps_if (pt_not (pt_val (pcall Oi hr (pa_cons (pv 0) pa_nil)))) (pss_one (ps_ret (pcall Of hr (pa_cons (pv 0) pa_nil)))) pss_nil)
      (pss_cons (ps_set (i := 1) sc__law_is_read.nd rfl (.inl rfl) (pcallE Or_ hr passL (pa_cons (pv 0) pa_nil)))
      (pss_cons (ps_if (PW.pt (pw_or (pt_not (pt_val (pcall Od hr (pa_cons (pv 1) (pa_cons pe_int pa_nil))))) (pw_or1 (pt_cmpR op_ne (pcall On hr (pa_cons (pv 1) pa_nil)) (pv 0) (nomark _))))) (pss_one (ps_ret pe_bl)) pss_nil)
      (pss_cons (ps_set (i := 2) sc__law_is_read.nd rfl (.inl rfl) (pcall Ow hr (pa_cons (pv 1) pa_nil)))
      (pss_one (ps_ret (pe_and (pe_callB call_isi (by rfl) T.z_isinstance PyProof.Rows.boot_isinstance (pa_cons (pv 2) (pa_cons (pe_bltn (v := .ty "str") rfl T.z_str PyProof.Rows.boot_str rfl) pa_nil))) (pe_one (pe_cmpR op_eq (pv 2) (pv 0) (nomark _)))))))))), ?_⟩
  refine ⟨_, rfl, l, rfl, hl0, fun H1 s1 => ⟨_, rfl, ?_⟩⟩
  cases hn : isNote l with
  | false => exact iteT ⟨_, rfl, l, rfl, hl0, hn, fun H2 s2 => q H2 (s1.trans s2)⟩
  | true =>
    obtain ⟨d, hd⟩ := (note_iff l).mp hn
    obtain ⟨e, ho, hdp⟩ := part_sound 60 l d [] hd
    rw [List.append_nil] at e
    subst e
    have hrow : (wr d).all rowc = true := wr_row d ho
    refine iteF ⟨_, rfl, wr d, rfl, hl0, fun d' _ hp' v H2 s2 rv => ?_, fun hc => ?_⟩
    rotate_left
    · rcases hc with h | h
      · rw [hrow] at h; cases h
      · exact absurd hd (h d)
    have ed : d' = d := by rw [hd] at hp'; exact (Prod.mk.inj (Option.some.inj hp')).1.symm
    subst ed
    refine ⟨_, rfl, v, d', 60, rfl, rv, ho, hdp, by omega, _, rfl, iteF ?_⟩
    refine ⟨_, rfl, v, d', rfl, rv, ho, by omega, hl0, fun H3 s3 => ?_⟩
    refine ⟨_, rfl, rfl, _, rfl, ite2 (fun z => absurd z (by simp)) (fun _ => ?_)⟩
    refine ⟨_, rfl, v, d', rfl, rv.mono s3, ho, by omega, hl0, fun H4 s4 => ?_⟩
    refine ⟨_, rfl, _, _, _, _, _, rfl, .ty _, .base (.str _), kit_ty (kit_s (.str [])), _, rfl, iteT ⟨_, rfl, _, rfl, rfl, ?_⟩⟩
    rw [decide_eq_true rfl]
    exact q H4 (s1.trans (s2.trans (s3.trans s4)))
end
end D4
namespace D4
open PySem PySem.Spec PyProof.Rows L2 SX
def spLaw (K : PySem.W.Frag) : Sp := fun vs H Q _ => ∃ (a : Addr) (ns : List Int), vs = [.ref a] ∧ SqL K H a (ns.map V.int) ∧ ns.length ≤ 63 ∧ ∀ H', Q (.bl true) H'
theorem Same.stp {b : Addr} {H H1 H2 : Hp} (s : Same H H1) (n : H b = none) (t : Stp b H1 H2) : Same H H2 := fun x o e => t.keep x o (ne_of_none e n) (s x o e)
section
variable {P : Program} {w : World} {K : PySem.W.Frag} {mg : Str → Option Value} {base : Heap} {CB : Addr}
theorem ok_law (T : Txt K mg) (Ob : OkD P w K mg base CX0 1 "_law_bag" p__law_bag (spBag K)) (Odat : OkD P w K mg base CX0 4 "_law_datum" p__law_datum spDatum) (Ow : OkD P w K mg base CX0 62 "write_datum" p_write_datum (spWrite 61)) (On : OkD P w K mg base CX0 62 "_law_note" p__law_note (spWrite 61))
    (Os : OkD P w K mg base CX0 62 "_law_same" p__law_same (spSame 61)) (Or_ : OkD P w K mg base (L2.CX P w) 126 "read_datum" p_read_datum (spReadDatum CB)) (Oir : OkD P w K mg base CX0 128 "_law_is_read" p__law_is_read spIsRead) (Ot : OkD P w K mg base CX0 1 "_law_take" p__law_take spTake)
    (Osp : OkD P w K mg base CX0 64 "_law_spoiled" p__law_spoiled spAround) : OkD P w K mg base CX0 129 "law" p_law (spLaw K) := by
  refine T.g_law.ok sc_law (fun vs H Q E h => ?_) (fun f cdv A outer s H vs Q E hr h => ?_)
  · obtain ⟨a, ns, rfl, _⟩ := h; rfl
  obtain ⟨a, ns, rfl, hS, h63, q⟩ := h
  refine ⟨_, (pss_cons (ps_set (i := 1) sc_law.nd rfl (.inl rfl) (pcall Ob hr (pa_cons (pv 0) (pa_cons pe_int pa_nil))))
      (pss_cons (ps_set (i := 2) sc_law.nd rfl (.inl rfl) (pcall Odat hr (pa_cons (pv 1) pa_nil)))
      (pss_cons (ps_set (i := 3) sc_law.nd rfl (.inl rfl) (pcall Ow hr (pa_cons (pe_ix ix_list (pv 2) pe_int (fun _ _ => rfl)) pa_nil)))
      (pss_cons (ps_if (PW.pt (pw_or (pt_not (pt_val (pe_callB call_isi (by rfl) T.z_isinstance PyProof.Rows.boot_isinstance (pa_cons (pv 3) (pa_cons (pe_bltn (v := .ty "str") rfl T.z_str PyProof.Rows.boot_str rfl) pa_nil))))) (pw_or1 (pt_cmpR op_ne (pv 3) (pcall On hr (pa_cons (pe_ix ix_list (pv 2) pe_int (fun _ _ => rfl)) pa_nil)) (nomark _))))) (pss_one (ps_ret pe_bl)) pss_nil)
      (pss_cons (ps_if (PW.pt (pw_or (pt_not (pt_val (pcall Os hr (pa_cons (pcallE Or_ hr passL (pa_cons (pv 3) pa_nil)) (pa_cons (pe_ix ix_list (pv 2) pe_int (fun _ _ => rfl)) pa_nil))))) (pw_or1 (pt_not (pt_val (pcall Oir hr (pa_cons (pv 3) pa_nil))))))) (pss_one (ps_ret pe_bl)) pss_nil)
      (pss_cons (ps_set (i := 1) sc_law.nd rfl (.inl rfl) (pcall Ob hr (pa_cons (pv 0) (pa_cons pe_int pa_nil))))
      (pss_cons (ps_for PassesOwn.never rfl (pi_range1 rfl T.z_range (pa_cons (pe_op op_add pe_int (pcall Ot hr (pa_cons (pv 1) (pa_cons pe_int pa_nil)))) pa_nil)) (pg_name (i := 4) sc_law.nd rfl (Or.inl rfl)) (pss_one (ps_if (pt_not (pt_val (pcall Oir hr (pa_cons (pcall Osp hr (pa_cons (pv 1) (pa_cons (pv 2) pa_nil))) pa_nil)))) (pss_one (ps_ret pe_bl)) pss_nil)))
      (pss_one (ps_ret pe_bl))))))))), ?_⟩
  refine ⟨_, rfl, a, ns, 0, rfl, hS, h63, by omega, fun b H1 s1 nb bag => ?_⟩
  refine ⟨_, rfl, b, rfl, bag, fun x d H2 pa ho hdp hlen st => ?_⟩
  have sH2 : Same H H2 := Same.stp s1 nb st
  obtain ⟨p, v, rfl, hp, rv⟩ := pa
  have hbig : (wr d).length ≤ big := by show _ ≤ 1000000; omega
  refine ⟨_, rfl, p, _, 0, v, rfl, rfl, SqL.of hp, rfl, v, d, rfl, rv, ho, by omega, hbig, fun H3 s3 => ?_⟩
  refine ⟨_, rfl, _, _, _, _, _, rfl, .ty _, .base (.str _), kit_ty (kit_s (.str [])), _, rfl, iteF ?_⟩
  refine ⟨_, rfl, _, rfl, p, _, 0, v, rfl, rfl, SqL.of (s3 _ _ hp), rfl, v, d, rfl, rv.mono s3, ho, by omega, hbig, fun H4 s4 => ?_⟩
  refine ⟨rfl, _, rfl, ite2 (fun z => absurd z (by simp)) (fun _ => ?_)⟩
  have hpart : part 60 (wr d) = some (d, []) := by
    have := part_complete 60 d [] ho hdp (fun c hc => by cases hc)
    rw [List.append_nil] at this
    exact this
  have s34 := s3.trans s4
  refine ⟨_, rfl, wr d, rfl, hbig, fun d' _ hp' v' H5 s5 rv' => ?_, fun hc => ?_⟩
  rotate_left
  · rcases hc with h | h
    · rw [wr_row d ho] at h; cases h
    · exact absurd hpart (h d)
  have ed : d' = d := by rw [hpart] at hp'; exact (Prod.mk.inj (Option.some.inj hp')).1.symm
  subst ed
  have s35 := s34.trans s5
  refine ⟨_, rfl, p, _, 0, v, rfl, rfl, SqL.of (s35 _ _ hp), rfl, v', v, d', rfl, rv', rv.mono s35, by omega, hbig, _, rfl, iteF ?_⟩
  refine ⟨_, rfl, wr d', rfl, hbig, fun H6 s6 => ⟨_, rfl, iteF ?_⟩⟩
  have s36 := s35.trans s6
  have sH6 := sH2.trans s36
  refine ⟨_, rfl, a, ns, 1, rfl, sH6.seq hS, h63, by omega, fun b2 H7 s7 nb2 bag2 => ?_⟩
  have pa7 : PartAt H7 (.ref p) d' := ⟨p, v, rfl, (s36.trans s7) _ _ hp, rv.mono (s36.trans s7)⟩
  refine ⟨_, rfl, b2, 3, rfl, bag2, by decide, by decide, fun r H8 r0 r1 st8 => ?_⟩
  refine ⟨_, _, rfl, rfl, 1 + r, rfl, by omega, by omega, ?_⟩
  refine for_range (lo := 0) (n := (1 + r).toNat) (fun j σ H' => ∃ y, σ = [some (.ref a), some (.ref b2), some (.ref p), some (.str (S (wr d'))), y] ∧ Stp b2 H7 H') ⟨none, rfl, st8⟩ ?_ ?_
  · rintro j σ H9 hj ⟨y, rfl, st9⟩
    refine ⟨_, rfl, _, rfl, b2, .ref p, d', rfl, st9.b1, pa7.step st9, ho, hdp, hlen, fun x H10 hx st10 => ?_⟩
    have hxl : x.cps.toList.length = x.length := by simp [Str.length]
    have hxb : x.cps.toList.length ≤ big := by show _ ≤ 1000000; omega
    refine ⟨x.cps.toList, by rw [S_tl]; rfl, hxb, fun H11 s11 => ⟨_, rfl, iteF ?_⟩⟩
    exact ⟨some (.int (0 + (j : Int))), rfl, st9.trans (st10.trans (Stp.same st10.b1 s11))⟩
  · rintro σ H9 ⟨y, rfl, st9⟩
    exact q _
end
end D4
namespace D4
open PySem PySem.Spec PyProof.Rows L2 SX
theorem kit_own {K : PySem.W.Frag} {B C : Addr} {b : Bool} (n : (B == C) = false) (cl : PySem.W.isClsIn K C = true) (ty : PySem.W.typeIn K (.ref C) = some (.type "type")) (s : PySem.W.subIn K (.ref B) (.ref C) = some b) : PySem.W.kitOne K (.ref B) (.ref C) = some b := by
  have e0 : (Value.ref B == Value.ref C) = false := by
    refine beq_eq_false_iff_ne.mpr fun z => ?_
    have := beq_eq_false_iff_ne.mp n
    exact this (Value.ref.inj z)
  have cl' : (PySem.W.clsIn K C).isSome = true := cl
  have e1 : ((PySem.W.clsIn K C).isSome && PySem.W.typeIn K (.ref C) == some (.type "type")) = true := by rw [cl', ty]; rfl
  show (if (Value.ref B == Value.ref C) = true then some true else (if ((PySem.W.clsIn K C).isSome && PySem.W.typeIn K (.ref C) == some (.type "type")) = true then PySem.W.subIn K (.ref B) (.ref C) else none)) = some b
  rw [e0, if_neg Bool.false_ne_true, if_pos e1]
  exact s
theorem kit_self {K : PySem.W.Frag} {v : Value} : PySem.W.kitOne K v v = some true := by
  show (if (v == v) = true then some true else _) = some true
  rw [if_pos (beq_self_eq_true v)]
theorem kit_bt {K : PySem.W.Frag} {B : Addr} {T : String} {b : Bool} (m : PySem.W.kitMeta T = true) (s : PySem.W.subIn K (.ref B) (.type T) = some b) : PySem.W.kitOne K (.ref B) (.type T) = some b := by
  show (if (Value.ref B == Value.type T) = true then some true else (if PySem.W.kitMeta T = true then PySem.W.subIn K (.ref B) (.type T) else none)) = some b
  rw [if_neg, if_pos m]
  · exact s
  · intro z; cases eq_of_beq z
theorem all_ok {P : Program} {w : World} {K : PySem.W.Frag} {mg : Str → Option Value} {base : Heap} {CB CL CS CR dE : Addr} (T : Txt K mg) (B : ExcT K mg CB) (U : ExcU K mg CB CL CS CR) (DE : EscT K w mg dE) : OkD P w K mg base CX0 129 "law" p_law (spLaw K) := by
  have o1 := ok_is_digit (P := P) (w := w) (base := base) T.g_is_digit
  have o2 := ok_digits_end T.g_digits_end o1 T.z_len
  have o3 := ok_is_row (P := P) (w := w) (base := base) T.g_is_row T.z_ord T.c_PERCENT
  have o4 := ok_quoted (P := P) (w := w) (base := base) T.g_quoted
  have o5 := ok_write_datum T o4 61
  have o6 := ok_behind_space (P := P) (w := w) (base := base) T B
  have o7 := ok_read_word (P := P) (w := w) (base := base) T B
  have o8 := ok_read_number T B o2
  have o9 := ok_read_escaped (P := P) (w := w) (base := base) T B DE
  have o10 := ok_read_text T B o9
  have o11 := ok_parts T B o1 o6 o10 o8 o7 61
  have o12 := ok_read_datum T B o3 o11
  have o13 := ok__law_quoted (P := P) (w := w) (base := base) T
  have o14 := ok__law_note T o13 61
  have o15 := ok__law_whole (P := P) (w := w) (base := base) T
  have o16 := ok__law_same T o15 61
  have o17 := ok__law_is_datum (P := P) (w := w) (base := base) T 61
  have o18 := ok__law_allowed (P := P) (w := w) (base := base) T
  have o19 := ok__law_string_end T o18
  have o20 := ok__law_leaf_end T o19
  have o21 := ok__law_is_note T o20
  have o22 := ok__law_bag (P := P) (w := w) (base := base) T
  have o23 := ok__law_take (P := P) (w := w) (base := base) T
  have o24 := ok__law_integer T o23
  have o25 := ok__law_string T o23 o18
  have o26 := ok__law_leaf T o23 o24 o25
  have o27 := ok__law_grouped (P := P) (w := w) (base := base) T
  have o28 := ok__law_datum T o23 o27 o26
  have o29 := ok__law_odd_note T o23
  have o30 := ok__law_around T o23 o14
  have o31 := ok__law_spoiled T o23 o14 o18 o30 o29
  have o32 := ok__law_is_refused T B U o12
  have o33 := ok__law_is_read T o21 o32 o12 o17 o14 o5
  exact ok_law T o22 o28 o5 o14 o16 o12 o33 o23 o31
set_option maxHeartbeats 4000000 in
theorem all_mk {l : PySem.W.OpenLaw} {w : World} {K : PySem.W.Frag} {h : Heap} {mg : Str → Option Value} {fa : Addr} (X : K.In h) (G : h.Ns mainGlobals mg) (hfa : mg "law" = some (.ref fa))
    {od1 an1 : Option Addr} {sl1 : Array (Option Value)} {oc1 kV1 dc1 pm1 cd1 ct1 : Value} {f1 : Addr}
    {od2 an2 : Option Addr} {sl2 : Array (Option Value)} {oc2 kV2 dc2 pm2 cd2 ct2 : Value} {f2 : Addr}
    {od3 an3 : Option Addr} {sl3 : Array (Option Value)} {oc3 kV3 dc3 pm3 cd3 ct3 : Value} {f3 : Addr}
    {od4 an4 : Option Addr} {sl4 : Array (Option Value)} {oc4 kV4 dc4 pm4 cd4 ct4 : Value} {f4 : Addr}
    {od5 an5 : Option Addr} {sl5 : Array (Option Value)} {oc5 kV5 dc5 pm5 cd5 ct5 : Value} {f5 : Addr}
    {od6 an6 : Option Addr} {sl6 : Array (Option Value)} {oc6 kV6 dc6 pm6 cd6 ct6 : Value} {f6 : Addr}
    {od7 an7 : Option Addr} {sl7 : Array (Option Value)} {oc7 kV7 dc7 pm7 cd7 ct7 : Value} {f7 : Addr}
    {od8 an8 : Option Addr} {sl8 : Array (Option Value)} {oc8 kV8 dc8 pm8 cd8 ct8 : Value} {f8 : Addr}
    {od9 an9 : Option Addr} {sl9 : Array (Option Value)} {oc9 kV9 dc9 pm9 cd9 ct9 : Value} {f9 : Addr}
    {od10 an10 : Option Addr} {sl10 : Array (Option Value)} {oc10 kV10 dc10 pm10 cd10 ct10 : Value} {f10 : Addr}
    {od11 an11 : Option Addr} {sl11 : Array (Option Value)} {oc11 kV11 dc11 pm11 cd11 ct11 : Value} {f11 : Addr}
    {od12 an12 : Option Addr} {sl12 : Array (Option Value)} {oc12 kV12 dc12 pm12 cd12 ct12 : Value} {f12 : Addr}
    {od13 an13 : Option Addr} {sl13 : Array (Option Value)} {oc13 kV13 dc13 pm13 cd13 ct13 : Value} {f13 : Addr}
    {od14 an14 : Option Addr} {sl14 : Array (Option Value)} {oc14 kV14 dc14 pm14 cd14 ct14 : Value} {f14 : Addr}
    {od15 an15 : Option Addr} {sl15 : Array (Option Value)} {oc15 kV15 dc15 pm15 cd15 ct15 : Value} {f15 : Addr}
    {od16 an16 : Option Addr} {sl16 : Array (Option Value)} {oc16 kV16 dc16 pm16 cd16 ct16 : Value} {f16 : Addr}
    {od17 an17 : Option Addr} {sl17 : Array (Option Value)} {oc17 kV17 dc17 pm17 cd17 ct17 : Value} {f17 : Addr}
    {od18 an18 : Option Addr} {sl18 : Array (Option Value)} {oc18 kV18 dc18 pm18 cd18 ct18 : Value} {f18 : Addr}
    {od19 an19 : Option Addr} {sl19 : Array (Option Value)} {oc19 kV19 dc19 pm19 cd19 ct19 : Value} {f19 : Addr}
    {od20 an20 : Option Addr} {sl20 : Array (Option Value)} {oc20 kV20 dc20 pm20 cd20 ct20 : Value} {f20 : Addr}
    {od21 an21 : Option Addr} {sl21 : Array (Option Value)} {oc21 kV21 dc21 pm21 cd21 ct21 : Value} {f21 : Addr}
    {od22 an22 : Option Addr} {sl22 : Array (Option Value)} {oc22 kV22 dc22 pm22 cd22 ct22 : Value} {f22 : Addr}
    {od23 an23 : Option Addr} {sl23 : Array (Option Value)} {oc23 kV23 dc23 pm23 cd23 ct23 : Value} {f23 : Addr}
    {od24 an24 : Option Addr} {sl24 : Array (Option Value)} {oc24 kV24 dc24 pm24 cd24 ct24 : Value} {f24 : Addr}
    {od25 an25 : Option Addr} {sl25 : Array (Option Value)} {oc25 kV25 dc25 pm25 cd25 ct25 : Value} {f25 : Addr}
    {od26 an26 : Option Addr} {sl26 : Array (Option Value)} {oc26 kV26 dc26 pm26 cd26 ct26 : Value} {f26 : Addr}
    {od27 an27 : Option Addr} {sl27 : Array (Option Value)} {oc27 kV27 dc27 pm27 cd27 ct27 : Value} {f27 : Addr}
    {od28 an28 : Option Addr} {sl28 : Array (Option Value)} {oc28 kV28 dc28 pm28 cd28 ct28 : Value} {f28 : Addr}
    {od29 an29 : Option Addr} {sl29 : Array (Option Value)} {oc29 kV29 dc29 pm29 cd29 ct29 : Value} {f29 : Addr}
    {od30 an30 : Option Addr} {sl30 : Array (Option Value)} {oc30 kV30 dc30 pm30 cd30 ct30 : Value} {f30 : Addr}
    {od31 an31 : Option Addr} {sl31 : Array (Option Value)} {oc31 kV31 dc31 pm31 cd31 ct31 : Value} {f31 : Addr}
    {od32 an32 : Option Addr} {sl32 : Array (Option Value)} {oc32 kV32 dc32 pm32 cd32 ct32 : Value} {f32 : Addr}
    {od33 an33 : Option Addr} {sl33 : Array (Option Value)} {oc33 kV33 dc33 pm33 cd33 ct33 : Value} {f33 : Addr}
    {od34 an34 : Option Addr} {sl34 : Array (Option Value)} {oc34 kV34 dc34 pm34 cd34 ct34 : Value} {f34 : Addr}
    {od35 an35 : Option Addr} {sl35 : Array (Option Value)} {oc35 kV35 dc35 pm35 cd35 ct35 : Value} {f35 : Addr}
    {tP tD tE : Tok} {CB CL CS CR dE : Addr} {h1 h2 h3 : Int} {t1 t2 t3 u1 u2 u3 : Tok} {nn : Nat}
    (a1 : PySem.W.nsIn K mainGlobals "is_row" = some (some (.ref f1))) (l1 : K.lookup f1 = some ⟨oc1, od1, .func (PySem.W.fnOf "is_row" "is_row" (defArgs s_is_row) (defBody s_is_row) (defScope s_is_row) .none kV1 dc1 pm1 an1 cd1 ct1), sl1⟩) (c1 : PySem.W.codeIn K cd1 "is_row" = true) (k1 : PySem.W.keepIn K (.ref f1) = true)
    (a2 : PySem.W.nsIn K mainGlobals "is_digit" = some (some (.ref f2))) (l2 : K.lookup f2 = some ⟨oc2, od2, .func (PySem.W.fnOf "is_digit" "is_digit" (defArgs s_is_digit) (defBody s_is_digit) (defScope s_is_digit) .none kV2 dc2 pm2 an2 cd2 ct2), sl2⟩) (c2 : PySem.W.codeIn K cd2 "is_digit" = true) (k2 : PySem.W.keepIn K (.ref f2) = true)
    (a3 : PySem.W.nsIn K mainGlobals "digits_end" = some (some (.ref f3))) (l3 : K.lookup f3 = some ⟨oc3, od3, .func (PySem.W.fnOf "digits_end" "digits_end" (defArgs s_digits_end) (defBody s_digits_end) (defScope s_digits_end) .none kV3 dc3 pm3 an3 cd3 ct3), sl3⟩) (c3 : PySem.W.codeIn K cd3 "digits_end" = true) (k3 : PySem.W.keepIn K (.ref f3) = true)
    (a4 : PySem.W.nsIn K mainGlobals "quoted" = some (some (.ref f4))) (l4 : K.lookup f4 = some ⟨oc4, od4, .func (PySem.W.fnOf "quoted" "quoted" (defArgs s_quoted) (defBody s_quoted) (defScope s_quoted) .none kV4 dc4 pm4 an4 cd4 ct4), sl4⟩) (c4 : PySem.W.codeIn K cd4 "quoted" = true) (k4 : PySem.W.keepIn K (.ref f4) = true)
    (a5 : PySem.W.nsIn K mainGlobals "write_datum" = some (some (.ref f5))) (l5 : K.lookup f5 = some ⟨oc5, od5, .func (PySem.W.fnOf "write_datum" "write_datum" (defArgs s_write_datum) (defBody s_write_datum) (defScope s_write_datum) .none kV5 dc5 pm5 an5 cd5 ct5), sl5⟩) (c5 : PySem.W.codeIn K cd5 "write_datum" = true) (k5 : PySem.W.keepIn K (.ref f5) = true)
    (a6 : PySem.W.nsIn K mainGlobals "read_datum" = some (some (.ref f6))) (l6 : K.lookup f6 = some ⟨oc6, od6, .func (PySem.W.fnOf "read_datum" "read_datum" (defArgs s_read_datum) (defBody s_read_datum) (defScope s_read_datum) .none kV6 dc6 pm6 an6 cd6 ct6), sl6⟩) (c6 : PySem.W.codeIn K cd6 "read_datum" = true) (k6 : PySem.W.keepIn K (.ref f6) = true)
    (a7 : PySem.W.nsIn K mainGlobals "read_part" = some (some (.ref f7))) (l7 : K.lookup f7 = some ⟨oc7, od7, .func (PySem.W.fnOf "read_part" "read_part" (defArgs s_read_part) (defBody s_read_part) (defScope s_read_part) .none kV7 dc7 pm7 an7 cd7 ct7), sl7⟩) (c7 : PySem.W.codeIn K cd7 "read_part" = true) (k7 : PySem.W.keepIn K (.ref f7) = true)
    (a8 : PySem.W.nsIn K mainGlobals "read_items" = some (some (.ref f8))) (l8 : K.lookup f8 = some ⟨oc8, od8, .func (PySem.W.fnOf "read_items" "read_items" (defArgs s_read_items) (defBody s_read_items) (defScope s_read_items) .none kV8 dc8 pm8 an8 cd8 ct8), sl8⟩) (c8 : PySem.W.codeIn K cd8 "read_items" = true) (k8 : PySem.W.keepIn K (.ref f8) = true)
    (a9 : PySem.W.nsIn K mainGlobals "behind_space" = some (some (.ref f9))) (l9 : K.lookup f9 = some ⟨oc9, od9, .func (PySem.W.fnOf "behind_space" "behind_space" (defArgs s_behind_space) (defBody s_behind_space) (defScope s_behind_space) .none kV9 dc9 pm9 an9 cd9 ct9), sl9⟩) (c9 : PySem.W.codeIn K cd9 "behind_space" = true) (k9 : PySem.W.keepIn K (.ref f9) = true)
    (a10 : PySem.W.nsIn K mainGlobals "read_text" = some (some (.ref f10))) (l10 : K.lookup f10 = some ⟨oc10, od10, .func (PySem.W.fnOf "read_text" "read_text" (defArgs s_read_text) (defBody s_read_text) (defScope s_read_text) .none kV10 dc10 pm10 an10 cd10 ct10), sl10⟩) (c10 : PySem.W.codeIn K cd10 "read_text" = true) (k10 : PySem.W.keepIn K (.ref f10) = true)
    (a11 : PySem.W.nsIn K mainGlobals "read_escaped" = some (some (.ref f11))) (l11 : K.lookup f11 = some ⟨oc11, od11, .func (PySem.W.fnOf "read_escaped" "read_escaped" (defArgs s_read_escaped) (defBody s_read_escaped) (defScope s_read_escaped) .none kV11 dc11 pm11 an11 cd11 ct11), sl11⟩) (c11 : PySem.W.codeIn K cd11 "read_escaped" = true) (k11 : PySem.W.keepIn K (.ref f11) = true)
    (a12 : PySem.W.nsIn K mainGlobals "read_number" = some (some (.ref f12))) (l12 : K.lookup f12 = some ⟨oc12, od12, .func (PySem.W.fnOf "read_number" "read_number" (defArgs s_read_number) (defBody s_read_number) (defScope s_read_number) .none kV12 dc12 pm12 an12 cd12 ct12), sl12⟩) (c12 : PySem.W.codeIn K cd12 "read_number" = true) (k12 : PySem.W.keepIn K (.ref f12) = true)
    (a13 : PySem.W.nsIn K mainGlobals "read_word" = some (some (.ref f13))) (l13 : K.lookup f13 = some ⟨oc13, od13, .func (PySem.W.fnOf "read_word" "read_word" (defArgs s_read_word) (defBody s_read_word) (defScope s_read_word) .none kV13 dc13 pm13 an13 cd13 ct13), sl13⟩) (c13 : PySem.W.codeIn K cd13 "read_word" = true) (k13 : PySem.W.keepIn K (.ref f13) = true)
    (a14 : PySem.W.nsIn K mainGlobals "_law_bag" = some (some (.ref f14))) (l14 : K.lookup f14 = some ⟨oc14, od14, .func (PySem.W.fnOf "_law_bag" "_law_bag" (defArgs s__law_bag) (defBody s__law_bag) (defScope s__law_bag) .none kV14 dc14 pm14 an14 cd14 ct14), sl14⟩) (c14 : PySem.W.codeIn K cd14 "_law_bag" = true) (k14 : PySem.W.keepIn K (.ref f14) = true)
    (a15 : PySem.W.nsIn K mainGlobals "_law_take" = some (some (.ref f15))) (l15 : K.lookup f15 = some ⟨oc15, od15, .func (PySem.W.fnOf "_law_take" "_law_take" (defArgs s__law_take) (defBody s__law_take) (defScope s__law_take) .none kV15 dc15 pm15 an15 cd15 ct15), sl15⟩) (c15 : PySem.W.codeIn K cd15 "_law_take" = true) (k15 : PySem.W.keepIn K (.ref f15) = true)
    (a16 : PySem.W.nsIn K mainGlobals "_law_whole" = some (some (.ref f16))) (l16 : K.lookup f16 = some ⟨oc16, od16, .func (PySem.W.fnOf "_law_whole" "_law_whole" (defArgs s__law_whole) (defBody s__law_whole) (defScope s__law_whole) .none kV16 dc16 pm16 an16 cd16 ct16), sl16⟩) (c16 : PySem.W.codeIn K cd16 "_law_whole" = true) (k16 : PySem.W.keepIn K (.ref f16) = true)
    (a17 : PySem.W.nsIn K mainGlobals "_law_allowed" = some (some (.ref f17))) (l17 : K.lookup f17 = some ⟨oc17, od17, .func (PySem.W.fnOf "_law_allowed" "_law_allowed" (defArgs s__law_allowed) (defBody s__law_allowed) (defScope s__law_allowed) .none kV17 dc17 pm17 an17 cd17 ct17), sl17⟩) (c17 : PySem.W.codeIn K cd17 "_law_allowed" = true) (k17 : PySem.W.keepIn K (.ref f17) = true)
    (a18 : PySem.W.nsIn K mainGlobals "_law_integer" = some (some (.ref f18))) (l18 : K.lookup f18 = some ⟨oc18, od18, .func (PySem.W.fnOf "_law_integer" "_law_integer" (defArgs s__law_integer) (defBody s__law_integer) (defScope s__law_integer) .none kV18 dc18 pm18 an18 cd18 ct18), sl18⟩) (c18 : PySem.W.codeIn K cd18 "_law_integer" = true) (k18 : PySem.W.keepIn K (.ref f18) = true)
    (a19 : PySem.W.nsIn K mainGlobals "_law_string" = some (some (.ref f19))) (l19 : K.lookup f19 = some ⟨oc19, od19, .func (PySem.W.fnOf "_law_string" "_law_string" (defArgs s__law_string) (defBody s__law_string) (defScope s__law_string) .none kV19 dc19 pm19 an19 cd19 ct19), sl19⟩) (c19 : PySem.W.codeIn K cd19 "_law_string" = true) (k19 : PySem.W.keepIn K (.ref f19) = true)
    (a20 : PySem.W.nsIn K mainGlobals "_law_leaf" = some (some (.ref f20))) (l20 : K.lookup f20 = some ⟨oc20, od20, .func (PySem.W.fnOf "_law_leaf" "_law_leaf" (defArgs s__law_leaf) (defBody s__law_leaf) (defScope s__law_leaf) .none kV20 dc20 pm20 an20 cd20 ct20), sl20⟩) (c20 : PySem.W.codeIn K cd20 "_law_leaf" = true) (k20 : PySem.W.keepIn K (.ref f20) = true)
    (a21 : PySem.W.nsIn K mainGlobals "_law_grouped" = some (some (.ref f21))) (l21 : K.lookup f21 = some ⟨oc21, od21, .func (PySem.W.fnOf "_law_grouped" "_law_grouped" (defArgs s__law_grouped) (defBody s__law_grouped) (defScope s__law_grouped) .none kV21 dc21 pm21 an21 cd21 ct21), sl21⟩) (c21 : PySem.W.codeIn K cd21 "_law_grouped" = true) (k21 : PySem.W.keepIn K (.ref f21) = true)
    (a22 : PySem.W.nsIn K mainGlobals "_law_datum" = some (some (.ref f22))) (l22 : K.lookup f22 = some ⟨oc22, od22, .func (PySem.W.fnOf "_law_datum" "_law_datum" (defArgs s__law_datum) (defBody s__law_datum) (defScope s__law_datum) .none kV22 dc22 pm22 an22 cd22 ct22), sl22⟩) (c22 : PySem.W.codeIn K cd22 "_law_datum" = true) (k22 : PySem.W.keepIn K (.ref f22) = true)
    (a23 : PySem.W.nsIn K mainGlobals "_law_quoted" = some (some (.ref f23))) (l23 : K.lookup f23 = some ⟨oc23, od23, .func (PySem.W.fnOf "_law_quoted" "_law_quoted" (defArgs s__law_quoted) (defBody s__law_quoted) (defScope s__law_quoted) .none kV23 dc23 pm23 an23 cd23 ct23), sl23⟩) (c23 : PySem.W.codeIn K cd23 "_law_quoted" = true) (k23 : PySem.W.keepIn K (.ref f23) = true)
    (a24 : PySem.W.nsIn K mainGlobals "_law_note" = some (some (.ref f24))) (l24 : K.lookup f24 = some ⟨oc24, od24, .func (PySem.W.fnOf "_law_note" "_law_note" (defArgs s__law_note) (defBody s__law_note) (defScope s__law_note) .none kV24 dc24 pm24 an24 cd24 ct24), sl24⟩) (c24 : PySem.W.codeIn K cd24 "_law_note" = true) (k24 : PySem.W.keepIn K (.ref f24) = true)
    (a25 : PySem.W.nsIn K mainGlobals "_law_same" = some (some (.ref f25))) (l25 : K.lookup f25 = some ⟨oc25, od25, .func (PySem.W.fnOf "_law_same" "_law_same" (defArgs s__law_same) (defBody s__law_same) (defScope s__law_same) .none kV25 dc25 pm25 an25 cd25 ct25), sl25⟩) (c25 : PySem.W.codeIn K cd25 "_law_same" = true) (k25 : PySem.W.keepIn K (.ref f25) = true)
    (a26 : PySem.W.nsIn K mainGlobals "_law_is_datum" = some (some (.ref f26))) (l26 : K.lookup f26 = some ⟨oc26, od26, .func (PySem.W.fnOf "_law_is_datum" "_law_is_datum" (defArgs s__law_is_datum) (defBody s__law_is_datum) (defScope s__law_is_datum) .none kV26 dc26 pm26 an26 cd26 ct26), sl26⟩) (c26 : PySem.W.codeIn K cd26 "_law_is_datum" = true) (k26 : PySem.W.keepIn K (.ref f26) = true)
    (a27 : PySem.W.nsIn K mainGlobals "_law_string_end" = some (some (.ref f27))) (l27 : K.lookup f27 = some ⟨oc27, od27, .func (PySem.W.fnOf "_law_string_end" "_law_string_end" (defArgs s__law_string_end) (defBody s__law_string_end) (defScope s__law_string_end) .none kV27 dc27 pm27 an27 cd27 ct27), sl27⟩) (c27 : PySem.W.codeIn K cd27 "_law_string_end" = true) (k27 : PySem.W.keepIn K (.ref f27) = true)
    (a28 : PySem.W.nsIn K mainGlobals "_law_leaf_end" = some (some (.ref f28))) (l28 : K.lookup f28 = some ⟨oc28, od28, .func (PySem.W.fnOf "_law_leaf_end" "_law_leaf_end" (defArgs s__law_leaf_end) (defBody s__law_leaf_end) (defScope s__law_leaf_end) .none kV28 dc28 pm28 an28 cd28 ct28), sl28⟩) (c28 : PySem.W.codeIn K cd28 "_law_leaf_end" = true) (k28 : PySem.W.keepIn K (.ref f28) = true)
    (a29 : PySem.W.nsIn K mainGlobals "_law_is_note" = some (some (.ref f29))) (l29 : K.lookup f29 = some ⟨oc29, od29, .func (PySem.W.fnOf "_law_is_note" "_law_is_note" (defArgs s__law_is_note) (defBody s__law_is_note) (defScope s__law_is_note) .none kV29 dc29 pm29 an29 cd29 ct29), sl29⟩) (c29 : PySem.W.codeIn K cd29 "_law_is_note" = true) (k29 : PySem.W.keepIn K (.ref f29) = true)
    (a30 : PySem.W.nsIn K mainGlobals "_law_odd_note" = some (some (.ref f30))) (l30 : K.lookup f30 = some ⟨oc30, od30, .func (PySem.W.fnOf "_law_odd_note" "_law_odd_note" (defArgs s__law_odd_note) (defBody s__law_odd_note) (defScope s__law_odd_note) .none kV30 dc30 pm30 an30 cd30 ct30), sl30⟩) (c30 : PySem.W.codeIn K cd30 "_law_odd_note" = true) (k30 : PySem.W.keepIn K (.ref f30) = true)
    (a31 : PySem.W.nsIn K mainGlobals "_law_around" = some (some (.ref f31))) (l31 : K.lookup f31 = some ⟨oc31, od31, .func (PySem.W.fnOf "_law_around" "_law_around" (defArgs s__law_around) (defBody s__law_around) (defScope s__law_around) .none kV31 dc31 pm31 an31 cd31 ct31), sl31⟩) (c31 : PySem.W.codeIn K cd31 "_law_around" = true) (k31 : PySem.W.keepIn K (.ref f31) = true)
    (a32 : PySem.W.nsIn K mainGlobals "_law_spoiled" = some (some (.ref f32))) (l32 : K.lookup f32 = some ⟨oc32, od32, .func (PySem.W.fnOf "_law_spoiled" "_law_spoiled" (defArgs s__law_spoiled) (defBody s__law_spoiled) (defScope s__law_spoiled) .none kV32 dc32 pm32 an32 cd32 ct32), sl32⟩) (c32 : PySem.W.codeIn K cd32 "_law_spoiled" = true) (k32 : PySem.W.keepIn K (.ref f32) = true)
    (a33 : PySem.W.nsIn K mainGlobals "_law_is_refused" = some (some (.ref f33))) (l33 : K.lookup f33 = some ⟨oc33, od33, .func (PySem.W.fnOf "_law_is_refused" "_law_is_refused" (defArgs s__law_is_refused) (defBody s__law_is_refused) (defScope s__law_is_refused) .none kV33 dc33 pm33 an33 cd33 ct33), sl33⟩) (c33 : PySem.W.codeIn K cd33 "_law_is_refused" = true) (k33 : PySem.W.keepIn K (.ref f33) = true)
    (a34 : PySem.W.nsIn K mainGlobals "_law_is_read" = some (some (.ref f34))) (l34 : K.lookup f34 = some ⟨oc34, od34, .func (PySem.W.fnOf "_law_is_read" "_law_is_read" (defArgs s__law_is_read) (defBody s__law_is_read) (defScope s__law_is_read) .none kV34 dc34 pm34 an34 cd34 ct34), sl34⟩) (c34 : PySem.W.codeIn K cd34 "_law_is_read" = true) (k34 : PySem.W.keepIn K (.ref f34) = true)
    (a35 : PySem.W.nsIn K mainGlobals "law" = some (some (.ref f35))) (l35 : K.lookup f35 = some ⟨oc35, od35, .func (PySem.W.fnOf "law" "law" (defArgs s_law) (defBody s_law) (defScope s_law) .none kV35 dc35 pm35 an35 cd35 ct35), sl35⟩) (c35 : PySem.W.codeIn K cd35 "law" = true) (k35 : PySem.W.keepIn K (.ref f35) = true)
    (z_ValueError : PySem.W.nsIn K mainGlobals "ValueError" = some none)
    (z_abs : PySem.W.nsIn K mainGlobals "abs" = some none)
    (z_bool : PySem.W.nsIn K mainGlobals "bool" = some none)
    (z_int : PySem.W.nsIn K mainGlobals "int" = some none)
    (z_isinstance : PySem.W.nsIn K mainGlobals "isinstance" = some none)
    (z_len : PySem.W.nsIn K mainGlobals "len" = some none)
    (z_max : PySem.W.nsIn K mainGlobals "max" = some none)
    (z_min : PySem.W.nsIn K mainGlobals "min" = some none)
    (z_ord : PySem.W.nsIn K mainGlobals "ord" = some none)
    (z_range : PySem.W.nsIn K mainGlobals "range" = some none)
    (z_str : PySem.W.nsIn K mainGlobals "str" = some none)
    (z_tuple : PySem.W.nsIn K mainGlobals "tuple" = some none)
    (q_PERCENT : PySem.W.nsIn K mainGlobals "PERCENT" = some (some (.int 37 tP)))
    (q_DIGIT_LIMIT : PySem.W.nsIn K mainGlobals "DIGIT_LIMIT" = some (some (.int 80 tD)))
    (q_DEPTH_LIMIT : PySem.W.nsIn K mainGlobals "DEPTH_LIMIT" = some (some (.int 60 tE)))
    (m_BadDatum : PySem.W.nsIn K mainGlobals "BadDatum" = some (some (.ref CB)))
    (m_LikerunError : PySem.W.nsIn K mainGlobals "LikerunError" = some (some (.ref CL)))
    (m_BadSave : PySem.W.nsIn K mainGlobals "BadSave" = some (some (.ref CS)))
    (m_SourceError : PySem.W.nsIn K mainGlobals "SourceError" = some (some (.ref CR)))
    (xB : PySem.W.excIn K CB [.type "ValueError", .type "Exception", .type "BaseException", .type "object"] "ValueError.__new__" = true)
    (kB : PySem.W.keepIn K (.ref CB) = true)
    (bB : PySem.W.subIn K (.ref CB) (.type "BaseException") = some true)
    (tB : PySem.W.typeIn K (.ref CB) = some (.type "type"))
    (pL1 : PySem.W.subIn K (.ref CL) (.type "BaseException") = some true)
    (pL2 : PySem.W.hasDictIn K CL = true)
    (pL3 : PySem.W.typeIn K (.ref CL) = some (.type "type"))
    (pL4 : PySem.W.subIn K (.ref CB) (.ref CL) = some true)
    (sV : PySem.W.subIn K (.ref CB) (.type "ValueError") = some true)
    (clS : PySem.W.isClsIn K CS = true)
    (tyS : PySem.W.typeIn K (.ref CS) = some (.type "type"))
    (sS : PySem.W.subIn K (.ref CB) (.ref CS) = some false)
    (nS : (CB == CS) = false)
    (clR : PySem.W.isClsIn K CR = true)
    (tyR : PySem.W.typeIn K (.ref CR) = some (.type "type"))
    (sR : PySem.W.subIn K (.ref CB) (.ref CR) = some false)
    (nR : (CB == CR) = false)
    (hg : PySem.W.findIn K (.ref CB) "__getattribute__" = some (some (.builtin "BaseException.__getattribute__")))
    (hk : PySem.W.findIn K (.ref CB) "__getattr__" = some none)
    (hd : PySem.W.hasDictIn K CB = true)
    (ha : PySem.W.findIn K (.ref CB) "__class__" = some (some (.builtin "object.__class__")))
    (hn : PySem.W.specialIn K (.builtin "object.__class__") "__get__" = some (some (.builtin "getset_descriptor.__get__")))
    (ht : PySem.W.takesIn K (.builtin "object.__class__") = some true)
    (hm : PySem.W.mroIn K CB (.type "object") = some true)
    (eD : PySem.W.nsIn K mainGlobals "ESCAPES" = some (some (.ref dE)))
    (eL : K.lookup dE = some ⟨.type "dict", none, .dict #[⟨h1, .str (Str.ofString "n") t1, .str (Str.ofString "\n") u1⟩, ⟨h2, .str (Str.ofString "\\") t2, .str (Str.ofString "\\") u2⟩, ⟨h3, .str (Str.ofString "\"") t3, .str (Str.ofString "\"") u3⟩] nn, #[]⟩)
    (eW : (dE == sysModules) = false)
    (e1 : h1 = PyData.keyHash w.params (Str.ofString "n"))
    (e2 : h2 = PyData.keyHash w.params (Str.ofString "\\"))
    (e3 : h3 = PyData.keyHash w.params (Str.ofString "\"")) :
    ∃ fd : FuncData, (∀ (s : Shared) (v : Value), BindsTo s fd ⟨[v], []⟩ [("script", v)]) ∧ ∀ base : Heap, K.In base → base.Ns mainGlobals mg → FnOk l.prog w K mg base CX0 129 fa fd ["script"] (spLaw K) := by
  have e := hfa.symm.trans (PySem.W.mg_of X G a35)
  cases e
  have g1 : Gv K mg "is_row" s_is_row p_is_row := ⟨_, _, fun_mk (st := s_is_row) l1 c1 k1, PySem.W.mg_of X G a1, (fun_mk (st := s_is_row) l1 c1 k1).binds (ps := p_is_row) fun _ _ _ _ _ _ us hl => match us, hl with | [_], _ => rfl⟩
  have g2 : Gv K mg "is_digit" s_is_digit p_is_digit := ⟨_, _, fun_mk (st := s_is_digit) l2 c2 k2, PySem.W.mg_of X G a2, (fun_mk (st := s_is_digit) l2 c2 k2).binds (ps := p_is_digit) fun _ _ _ _ _ _ us hl => match us, hl with | [_], _ => rfl⟩
  have g3 : Gv K mg "digits_end" s_digits_end p_digits_end := ⟨_, _, fun_mk (st := s_digits_end) l3 c3 k3, PySem.W.mg_of X G a3, (fun_mk (st := s_digits_end) l3 c3 k3).binds (ps := p_digits_end) fun _ _ _ _ _ _ us hl => match us, hl with | [_, _], _ => rfl⟩
  have g4 : Gv K mg "quoted" s_quoted p_quoted := ⟨_, _, fun_mk (st := s_quoted) l4 c4 k4, PySem.W.mg_of X G a4, (fun_mk (st := s_quoted) l4 c4 k4).binds (ps := p_quoted) fun _ _ _ _ _ _ us hl => match us, hl with | [_], _ => rfl⟩
  have g5 : Gv K mg "write_datum" s_write_datum p_write_datum := ⟨_, _, fun_mk (st := s_write_datum) l5 c5 k5, PySem.W.mg_of X G a5, (fun_mk (st := s_write_datum) l5 c5 k5).binds (ps := p_write_datum) fun _ _ _ _ _ _ us hl => match us, hl with | [_], _ => rfl⟩
  have g6 : Gv K mg "read_datum" s_read_datum p_read_datum := ⟨_, _, fun_mk (st := s_read_datum) l6 c6 k6, PySem.W.mg_of X G a6, (fun_mk (st := s_read_datum) l6 c6 k6).binds (ps := p_read_datum) fun _ _ _ _ _ _ us hl => match us, hl with | [_], _ => rfl⟩
  have g7 : Gv K mg "read_part" s_read_part p_read_part := ⟨_, _, fun_mk (st := s_read_part) l7 c7 k7, PySem.W.mg_of X G a7, (fun_mk (st := s_read_part) l7 c7 k7).binds (ps := p_read_part) fun _ _ _ _ _ _ us hl => match us, hl with | [_, _, _], _ => rfl⟩
  have g8 : Gv K mg "read_items" s_read_items p_read_items := ⟨_, _, fun_mk (st := s_read_items) l8 c8 k8, PySem.W.mg_of X G a8, (fun_mk (st := s_read_items) l8 c8 k8).binds (ps := p_read_items) fun _ _ _ _ _ _ us hl => match us, hl with | [_, _, _], _ => rfl⟩
  have g9 : Gv K mg "behind_space" s_behind_space p_behind_space := ⟨_, _, fun_mk (st := s_behind_space) l9 c9 k9, PySem.W.mg_of X G a9, (fun_mk (st := s_behind_space) l9 c9 k9).binds (ps := p_behind_space) fun _ _ _ _ _ _ us hl => match us, hl with | [_, _], _ => rfl⟩
  have g10 : Gv K mg "read_text" s_read_text p_read_text := ⟨_, _, fun_mk (st := s_read_text) l10 c10 k10, PySem.W.mg_of X G a10, (fun_mk (st := s_read_text) l10 c10 k10).binds (ps := p_read_text) fun _ _ _ _ _ _ us hl => match us, hl with | [_, _], _ => rfl⟩
  have g11 : Gv K mg "read_escaped" s_read_escaped p_read_escaped := ⟨_, _, fun_mk (st := s_read_escaped) l11 c11 k11, PySem.W.mg_of X G a11, (fun_mk (st := s_read_escaped) l11 c11 k11).binds (ps := p_read_escaped) fun _ _ _ _ _ _ us hl => match us, hl with | [_, _], _ => rfl⟩
  have g12 : Gv K mg "read_number" s_read_number p_read_number := ⟨_, _, fun_mk (st := s_read_number) l12 c12 k12, PySem.W.mg_of X G a12, (fun_mk (st := s_read_number) l12 c12 k12).binds (ps := p_read_number) fun _ _ _ _ _ _ us hl => match us, hl with | [_, _], _ => rfl⟩
  have g13 : Gv K mg "read_word" s_read_word p_read_word := ⟨_, _, fun_mk (st := s_read_word) l13 c13 k13, PySem.W.mg_of X G a13, (fun_mk (st := s_read_word) l13 c13 k13).binds (ps := p_read_word) fun _ _ _ _ _ _ us hl => match us, hl with | [_, _], _ => rfl⟩
  have g14 : Gv K mg "_law_bag" s__law_bag p__law_bag := ⟨_, _, fun_mk (st := s__law_bag) l14 c14 k14, PySem.W.mg_of X G a14, (fun_mk (st := s__law_bag) l14 c14 k14).binds (ps := p__law_bag) fun _ _ _ _ _ _ us hl => match us, hl with | [_, _], _ => rfl⟩
  have g15 : Gv K mg "_law_take" s__law_take p__law_take := ⟨_, _, fun_mk (st := s__law_take) l15 c15 k15, PySem.W.mg_of X G a15, (fun_mk (st := s__law_take) l15 c15 k15).binds (ps := p__law_take) fun _ _ _ _ _ _ us hl => match us, hl with | [_, _], _ => rfl⟩
  have g16 : Gv K mg "_law_whole" s__law_whole p__law_whole := ⟨_, _, fun_mk (st := s__law_whole) l16 c16 k16, PySem.W.mg_of X G a16, (fun_mk (st := s__law_whole) l16 c16 k16).binds (ps := p__law_whole) fun _ _ _ _ _ _ us hl => match us, hl with | [_], _ => rfl⟩
  have g17 : Gv K mg "_law_allowed" s__law_allowed p__law_allowed := ⟨_, _, fun_mk (st := s__law_allowed) l17 c17 k17, PySem.W.mg_of X G a17, (fun_mk (st := s__law_allowed) l17 c17 k17).binds (ps := p__law_allowed) fun _ _ _ _ _ _ us hl => match us, hl with | [], _ => rfl⟩
  have g18 : Gv K mg "_law_integer" s__law_integer p__law_integer := ⟨_, _, fun_mk (st := s__law_integer) l18 c18 k18, PySem.W.mg_of X G a18, (fun_mk (st := s__law_integer) l18 c18 k18).binds (ps := p__law_integer) fun _ _ _ _ _ _ us hl => match us, hl with | [_], _ => rfl⟩
  have g19 : Gv K mg "_law_string" s__law_string p__law_string := ⟨_, _, fun_mk (st := s__law_string) l19 c19 k19, PySem.W.mg_of X G a19, (fun_mk (st := s__law_string) l19 c19 k19).binds (ps := p__law_string) fun _ _ _ _ _ _ us hl => match us, hl with | [_], _ => rfl⟩
  have g20 : Gv K mg "_law_leaf" s__law_leaf p__law_leaf := ⟨_, _, fun_mk (st := s__law_leaf) l20 c20 k20, PySem.W.mg_of X G a20, (fun_mk (st := s__law_leaf) l20 c20 k20).binds (ps := p__law_leaf) fun _ _ _ _ _ _ us hl => match us, hl with | [_], _ => rfl⟩
  have g21 : Gv K mg "_law_grouped" s__law_grouped p__law_grouped := ⟨_, _, fun_mk (st := s__law_grouped) l21 c21 k21, PySem.W.mg_of X G a21, (fun_mk (st := s__law_grouped) l21 c21 k21).binds (ps := p__law_grouped) fun _ _ _ _ _ _ us hl => match us, hl with | [_], _ => rfl⟩
  have g22 : Gv K mg "_law_datum" s__law_datum p__law_datum := ⟨_, _, fun_mk (st := s__law_datum) l22 c22 k22, PySem.W.mg_of X G a22, (fun_mk (st := s__law_datum) l22 c22 k22).binds (ps := p__law_datum) fun _ _ _ _ _ _ us hl => match us, hl with | [_], _ => rfl⟩
  have g23 : Gv K mg "_law_quoted" s__law_quoted p__law_quoted := ⟨_, _, fun_mk (st := s__law_quoted) l23 c23 k23, PySem.W.mg_of X G a23, (fun_mk (st := s__law_quoted) l23 c23 k23).binds (ps := p__law_quoted) fun _ _ _ _ _ _ us hl => match us, hl with | [_], _ => rfl⟩
  have g24 : Gv K mg "_law_note" s__law_note p__law_note := ⟨_, _, fun_mk (st := s__law_note) l24 c24 k24, PySem.W.mg_of X G a24, (fun_mk (st := s__law_note) l24 c24 k24).binds (ps := p__law_note) fun _ _ _ _ _ _ us hl => match us, hl with | [_], _ => rfl⟩
  have g25 : Gv K mg "_law_same" s__law_same p__law_same := ⟨_, _, fun_mk (st := s__law_same) l25 c25 k25, PySem.W.mg_of X G a25, (fun_mk (st := s__law_same) l25 c25 k25).binds (ps := p__law_same) fun _ _ _ _ _ _ us hl => match us, hl with | [_, _], _ => rfl⟩
  have g26 : Gv K mg "_law_is_datum" s__law_is_datum p__law_is_datum := ⟨_, _, fun_mk (st := s__law_is_datum) l26 c26 k26, PySem.W.mg_of X G a26, (fun_mk (st := s__law_is_datum) l26 c26 k26).binds (ps := p__law_is_datum) fun _ _ _ _ _ _ us hl => match us, hl with | [_, _], _ => rfl⟩
  have g27 : Gv K mg "_law_string_end" s__law_string_end p__law_string_end := ⟨_, _, fun_mk (st := s__law_string_end) l27 c27 k27, PySem.W.mg_of X G a27, (fun_mk (st := s__law_string_end) l27 c27 k27).binds (ps := p__law_string_end) fun _ _ _ _ _ _ us hl => match us, hl with | [_, _], _ => rfl⟩
  have g28 : Gv K mg "_law_leaf_end" s__law_leaf_end p__law_leaf_end := ⟨_, _, fun_mk (st := s__law_leaf_end) l28 c28 k28, PySem.W.mg_of X G a28, (fun_mk (st := s__law_leaf_end) l28 c28 k28).binds (ps := p__law_leaf_end) fun _ _ _ _ _ _ us hl => match us, hl with | [_, _], _ => rfl⟩
  have g29 : Gv K mg "_law_is_note" s__law_is_note p__law_is_note := ⟨_, _, fun_mk (st := s__law_is_note) l29 c29 k29, PySem.W.mg_of X G a29, (fun_mk (st := s__law_is_note) l29 c29 k29).binds (ps := p__law_is_note) fun _ _ _ _ _ _ us hl => match us, hl with | [_], _ => rfl⟩
  have g30 : Gv K mg "_law_odd_note" s__law_odd_note p__law_odd_note := ⟨_, _, fun_mk (st := s__law_odd_note) l30 c30 k30, PySem.W.mg_of X G a30, (fun_mk (st := s__law_odd_note) l30 c30 k30).binds (ps := p__law_odd_note) fun _ _ _ _ _ _ us hl => match us, hl with | [_], _ => rfl⟩
  have g31 : Gv K mg "_law_around" s__law_around p__law_around := ⟨_, _, fun_mk (st := s__law_around) l31 c31 k31, PySem.W.mg_of X G a31, (fun_mk (st := s__law_around) l31 c31 k31).binds (ps := p__law_around) fun _ _ _ _ _ _ us hl => match us, hl with | [_, _], _ => rfl⟩
  have g32 : Gv K mg "_law_spoiled" s__law_spoiled p__law_spoiled := ⟨_, _, fun_mk (st := s__law_spoiled) l32 c32 k32, PySem.W.mg_of X G a32, (fun_mk (st := s__law_spoiled) l32 c32 k32).binds (ps := p__law_spoiled) fun _ _ _ _ _ _ us hl => match us, hl with | [_, _], _ => rfl⟩
  have g33 : Gv K mg "_law_is_refused" s__law_is_refused p__law_is_refused := ⟨_, _, fun_mk (st := s__law_is_refused) l33 c33 k33, PySem.W.mg_of X G a33, (fun_mk (st := s__law_is_refused) l33 c33 k33).binds (ps := p__law_is_refused) fun _ _ _ _ _ _ us hl => match us, hl with | [_], _ => rfl⟩
  have g34 : Gv K mg "_law_is_read" s__law_is_read p__law_is_read := ⟨_, _, fun_mk (st := s__law_is_read) l34 c34 k34, PySem.W.mg_of X G a34, (fun_mk (st := s__law_is_read) l34 c34 k34).binds (ps := p__law_is_read) fun _ _ _ _ _ _ us hl => match us, hl with | [_], _ => rfl⟩
  have g35 : Gv K mg "law" s_law p_law := ⟨_, _, fun_mk (st := s_law) l35 c35 k35, PySem.W.mg_of X G a35, (fun_mk (st := s_law) l35 c35 k35).binds (ps := p_law) fun _ _ _ _ _ _ us hl => match us, hl with | [_], _ => rfl⟩
  have T : Txt K mg := { z_ValueError := PySem.W.mg_none_of X G z_ValueError, z_abs := PySem.W.mg_none_of X G z_abs, z_bool := PySem.W.mg_none_of X G z_bool, z_int := PySem.W.mg_none_of X G z_int, z_isinstance := PySem.W.mg_none_of X G z_isinstance, z_len := PySem.W.mg_none_of X G z_len, z_max := PySem.W.mg_none_of X G z_max, z_min := PySem.W.mg_none_of X G z_min, z_ord := PySem.W.mg_none_of X G z_ord, z_range := PySem.W.mg_none_of X G z_range, z_str := PySem.W.mg_none_of X G z_str, z_tuple := PySem.W.mg_none_of X G z_tuple, g_is_row := g1, g_is_digit := g2, g_digits_end := g3, g_quoted := g4, g_write_datum := g5, g_read_datum := g6, g_read_part := g7, g_read_items := g8, g_behind_space := g9, g_read_text := g10, g_read_escaped := g11, g_read_number := g12, g_read_word := g13, g__law_bag := g14, g__law_take := g15, g__law_whole := g16, g__law_allowed := g17, g__law_integer := g18, g__law_string := g19, g__law_leaf := g20, g__law_grouped := g21, g__law_datum := g22, g__law_quoted := g23, g__law_note := g24, g__law_same := g25, g__law_is_datum := g26, g__law_string_end := g27, g__law_leaf_end := g28, g__law_is_note := g29, g__law_odd_note := g30, g__law_around := g31, g__law_spoiled := g32, g__law_is_refused := g33, g__law_is_read := g34, g_law := g35, c_PERCENT := ⟨_, PySem.W.mg_of X G q_PERCENT⟩, c_DIGIT_LIMIT := ⟨_, PySem.W.mg_of X G q_DIGIT_LIMIT⟩, c_DEPTH_LIMIT := ⟨_, PySem.W.mg_of X G q_DEPTH_LIMIT⟩ }
  have B : ExcT K mg CB := ⟨PySem.W.mg_of X G m_BadDatum, xB, kB, bB, tB⟩
  have U : ExcU K mg CB CL CS CR := ⟨PySem.W.mg_of X G m_LikerunError, PySem.W.exm_ref pL1 pL2 pL3 pL4, PySem.W.mg_of X G m_BadSave, PySem.W.mg_of X G m_SourceError, kit_self, kit_bt (by decide +kernel) sV, kit_own nS clS tyS sS, kit_own nR clR tyR sR, ⟨hg, hk, bB, hd, ha, hn, ht, hm⟩⟩
  have sN : Str.ofString "n" = S [110] ∧ Str.ofString "\n" = S [10] ∧ Str.ofString "\\" = S [92] ∧ Str.ofString "\"" = S [34] := by decide +kernel
  obtain ⟨s1, s2, s3, s4⟩ := sN
  rw [s1, s2, s3, s4] at eL
  rw [s1] at e1
  rw [s3] at e2
  rw [s4] at e3
  have DE : EscT K w mg dE := ⟨PySem.W.mg_of X G eD, eW, _, nn, h1, h2, h3, t1, t2, t3, u1, u2, u3, eL, ⟨⟨_, _, rfl, e1⟩, ⟨_, _, rfl, e2⟩, ⟨_, _, rfl, e3⟩, trivial⟩, rfl⟩
  refine ⟨PySem.W.fnOf "law" "law" (defArgs s_law) (defBody s_law) (defScope s_law) .none kV35 dc35 pm35 an35 cd35 ct35, fun s v => .of_eq rfl, fun base _ _ => ?_⟩
  obtain ⟨f, fd, hm', hk', hb', ⟨oc, od, osl, lk⟩, F⟩ := all_ok (P := l.prog) (base := base) T B U DE
  have e2 : fa = f := Value.ref.inj (Option.some.inj (hfa.symm.trans hm'))
  subst e2
  have e3 := lk.symm.trans l35
  cases e3
  exact F
end D4
open PySem PySem.W PyProof.Rows
set_option maxRecDepth 100000 in
set_option maxHeartbeats 0 in
theorem PySem.Challenge.cw_likerun_k04_whole_datum_notes_holds : PySem.Challenge.rw_likerun_k04_whole_datum_notes.Holds := by
  w_on; o_law; k_head; (case hw => w_witness2)
  k_fill
  refine L2.walk_of (l := PySem.Challenge.rw_likerun_k04_whole_datum_notes) (n := 63) (k := 129) (x := "script") (CX := fun _ => L2.CX0) (sp := fun w => D4.spLaw _) rfl (by decide) rfl ⟨rfl, by decide, by decide⟩ (fun w h Y => PySem.W.kIn_of Y) ?F (fun _ _ a ns hl _ hS => ⟨a, ns, rfl, hS, hl, fun _ => rfl⟩) (fun _ _ _ _ _ h => h)
  case F =>
    intro w mg fa h KX G hmg
    refine' D4.all_mk KX G hmg ?a1 ?l1 ?c1 ?k1 ?a2 ?l2 ?c2 ?k2 ?a3 ?l3 ?c3 ?k3 ?a4 ?l4 ?c4 ?k4 ?a5 ?l5 ?c5 ?k5 ?a6 ?l6 ?c6 ?k6 ?a7 ?l7 ?c7 ?k7 ?a8 ?l8 ?c8 ?k8 ?a9 ?l9 ?c9 ?k9 ?a10 ?l10 ?c10 ?k10 ?a11 ?l11 ?c11 ?k11 ?a12 ?l12 ?c12 ?k12 ?a13 ?l13 ?c13 ?k13 ?a14 ?l14 ?c14 ?k14 ?a15 ?l15 ?c15 ?k15 ?a16 ?l16 ?c16 ?k16 ?a17 ?l17 ?c17 ?k17 ?a18 ?l18 ?c18 ?k18 ?a19 ?l19 ?c19 ?k19 ?a20 ?l20 ?c20 ?k20 ?a21 ?l21 ?c21 ?k21 ?a22 ?l22 ?c22 ?k22 ?a23 ?l23 ?c23 ?k23 ?a24 ?l24 ?c24 ?k24 ?a25 ?l25 ?c25 ?k25 ?a26 ?l26 ?c26 ?k26 ?a27 ?l27 ?c27 ?k27 ?a28 ?l28 ?c28 ?k28 ?a29 ?l29 ?c29 ?k29 ?a30 ?l30 ?c30 ?k30 ?a31 ?l31 ?c31 ?k31 ?a32 ?l32 ?c32 ?k32 ?a33 ?l33 ?c33 ?k33 ?a34 ?l34 ?c34 ?k34 ?a35 ?l35 ?c35 ?k35 ?z_ValueError ?z_abs ?z_bool ?z_int ?z_isinstance ?z_len ?z_max ?z_min ?z_ord ?z_range ?z_str ?z_tuple ?q_PERCENT ?q_DIGIT_LIMIT ?q_DEPTH_LIMIT ?m_BadDatum ?m_LikerunError ?m_BadSave ?m_SourceError ?xB ?kB ?bB ?tB ?pL1 ?pL2 ?pL3 ?pL4 ?sV ?clS ?tyS ?sS ?nS ?clR ?tyR ?sR ?nR ?hg ?hk ?hd ?ha ?hn ?ht ?hm ?eD ?eL ?eW ?e1 ?e2 ?e3
    (case a1 => k_is)
    (case l1 => k_is)
    (case c1 => k_is)
    (case k1 => k_is)
    (case a2 => k_is)
    (case l2 => k_is)
    (case c2 => k_is)
    (case k2 => k_is)
    (case a3 => k_is)
    (case l3 => k_is)
    (case c3 => k_is)
    (case k3 => k_is)
    (case a4 => k_is)
    (case l4 => k_is)
    (case c4 => k_is)
    (case k4 => k_is)
    (case a5 => k_is)
    (case l5 => k_is)
    (case c5 => k_is)
    (case k5 => k_is)
    (case a6 => k_is)
    (case l6 => k_is)
    (case c6 => k_is)
    (case k6 => k_is)
    (case a7 => k_is)
    (case l7 => k_is)
    (case c7 => k_is)
    (case k7 => k_is)
    (case a8 => k_is)
    (case l8 => k_is)
    (case c8 => k_is)
    (case k8 => k_is)
    (case a9 => k_is)
    (case l9 => k_is)
    (case c9 => k_is)
    (case k9 => k_is)
    (case a10 => k_is)
    (case l10 => k_is)
    (case c10 => k_is)
    (case k10 => k_is)
    (case a11 => k_is)
    (case l11 => k_is)
    (case c11 => k_is)
    (case k11 => k_is)
    (case a12 => k_is)
    (case l12 => k_is)
    (case c12 => k_is)
    (case k12 => k_is)
    (case a13 => k_is)
    (case l13 => k_is)
    (case c13 => k_is)
    (case k13 => k_is)
    (case a14 => k_is)
    (case l14 => k_is)
    (case c14 => k_is)
    (case k14 => k_is)
    (case a15 => k_is)
    (case l15 => k_is)
    (case c15 => k_is)
    (case k15 => k_is)
    (case a16 => k_is)
    (case l16 => k_is)
    (case c16 => k_is)
    (case k16 => k_is)
    (case a17 => k_is)
    (case l17 => k_is)
    (case c17 => k_is)
    (case k17 => k_is)
    (case a18 => k_is)
    (case l18 => k_is)
    (case c18 => k_is)
    (case k18 => k_is)
    (case a19 => k_is)
    (case l19 => k_is)
    (case c19 => k_is)
    (case k19 => k_is)
    (case a20 => k_is)
    (case l20 => k_is)
    (case c20 => k_is)
    (case k20 => k_is)
    (case a21 => k_is)
    (case l21 => k_is)
    (case c21 => k_is)
    (case k21 => k_is)
    (case a22 => k_is)
    (case l22 => k_is)
    (case c22 => k_is)
    (case k22 => k_is)
    (case a23 => k_is)
    (case l23 => k_is)
    (case c23 => k_is)
    (case k23 => k_is)
    (case a24 => k_is)
    (case l24 => k_is)
    (case c24 => k_is)
    (case k24 => k_is)
    (case a25 => k_is)
    (case l25 => k_is)
    (case c25 => k_is)
    (case k25 => k_is)
    (case a26 => k_is)
    (case l26 => k_is)
    (case c26 => k_is)
    (case k26 => k_is)
    (case a27 => k_is)
    (case l27 => k_is)
    (case c27 => k_is)
    (case k27 => k_is)
    (case a28 => k_is)
    (case l28 => k_is)
    (case c28 => k_is)
    (case k28 => k_is)
    (case a29 => k_is)
    (case l29 => k_is)
    (case c29 => k_is)
    (case k29 => k_is)
    (case a30 => k_is)
    (case l30 => k_is)
    (case c30 => k_is)
    (case k30 => k_is)
    (case a31 => k_is)
    (case l31 => k_is)
    (case c31 => k_is)
    (case k31 => k_is)
    (case a32 => k_is)
    (case l32 => k_is)
    (case c32 => k_is)
    (case k32 => k_is)
    (case a33 => k_is)
    (case l33 => k_is)
    (case c33 => k_is)
    (case k33 => k_is)
    (case a34 => k_is)
    (case l34 => k_is)
    (case c34 => k_is)
    (case k34 => k_is)
    (case a35 => k_is)
    (case l35 => k_is)
    (case c35 => k_is)
    (case k35 => k_is)
    (case z_ValueError => k_is)
    (case z_abs => k_is)
    (case z_bool => k_is)
    (case z_int => k_is)
    (case z_isinstance => k_is)
    (case z_len => k_is)
    (case z_max => k_is)
    (case z_min => k_is)
    (case z_ord => k_is)
    (case z_range => k_is)
    (case z_str => k_is)
    (case z_tuple => k_is)
    (case q_PERCENT => k_is)
    (case q_DIGIT_LIMIT => k_is)
    (case q_DEPTH_LIMIT => k_is)
    (case m_BadDatum => k_is)
    (case m_LikerunError => k_is)
    (case m_BadSave => k_is)
    (case m_SourceError => k_is)
    (case xB => k_exc)
    (case kB => k_is)
    (case bB => k_is)
    (case tB => k_is)
    (case pL1 => k_is)
    (case pL2 => k_is)
    (case pL3 => k_is)
    (case pL4 => k_is)
    (case sV => k_is)
    (case clS => k_is)
    (case tyS => k_is)
    (case sS => k_is)
    (case nS => rfl)
    (case clR => k_is)
    (case tyR => k_is)
    (case sR => k_is)
    (case nR => rfl)
    (case hg => k_is)
    (case hk => k_is)
    (case hd => k_is)
    (case ha => k_is)
    (case hn => k_is)
    (case ht => k_is)
    (case hm => k_is)
    (case eD => k_is)
    (case eL => k_is)
    (case eW => rfl)
    (case e1 => rfl)
    (case e2 => rfl)
    (case e3 => rfl)
