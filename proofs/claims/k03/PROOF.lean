import PyProof.Rows.All
import Wide.All
import OpenK.AllK
import Wide.FinOn
import PyProof.EqAt
import PyProof.EqKinds
import PyProof.TupleCall
import HandS.ForExc
import HandS.ForMost
import KE.GoesEnumKw
import HandS.StrMore
import HandS.IsInst
import HandS.ExcIs
import HandS.ExcInit
import HandS.ExcField
import HandS.Style
import HandS.Wide
import HandS.ReplaceLit
import HandS.ReplaceList
import HandS.ReplaceDef
import HandS.Codes
import HandS.Walk
import HandS.More
import PySem.Challenge.RW_likerun_k03_whole_layout_again
import HandS.Text
import HandS.RaiseMore
import HandS.Rev
import HandS.RevRange
import HandS.Conv
import HandS.HotCalls
import HandS.TryMany
import HandS.Lambda
import KE.KExcIs
import Open.SpecLaws
import KE.OsGo
set_option Elab.async false
set_option linter.all false
set_option maxRecDepth 100000
namespace D0
open PySem PySem.Spec PyProof.Rows L2
/-- a built-in class is called with positional values and keywords -/
theorem cw_typeK {M : Model} {A : Around} {Ex : Value → Shared → Prop} {s : Shared} {env : Env} {pos : Pos} {T : String} {e : Expr} {rest : List Expr} {kws : List Keyword} {Q : Value → Shared → Prop}
    {as : List (Bool × Sem Value)} {ks : List (Option Str × Sem Value)} (ea : as = backTo pos (starEach (e :: rest) env)) (ek : ks = backToKw pos (keywordEach kws env))
    (run : wpAny M A (spliced as) (fun vs s₁ => wpAny M A (evalAll (ks.map (·.2))) (fun zs s₂ => wpAny M A (call (.type T) vs ((ks.filterMap (·.1)).zip zs)) Q Ex s₂) Ex s₁) Ex s)
    (hd : as = (false, eval e env) :: backTo pos (starEach rest env)) (p1 : as.any (·.1) = false) (p2 : ks.all (·.1.isSome) = true) (p3 : ks.any (·.1.isNone) = false) :
    wpAny M A (callWith pos (.type T) [] as ks) Q Ex s := by
  clear ea ek
  subst hd
  have got : wpAny M A (evalArgs (.type T) true _ ks) (fun a s₁ => wpAny M A (call (.type T) ([] ++ a.pos) a.kw) Q Ex s₁) Ex s := evalArgs_kwB p2 run
  unfold callWith
  refine wpAny_bind (wpAny_holding (wpAny_mono got ?_ fun _ _ x => x))
  intro a s1 k
  refine wpAny_bind (wpAny_standAt ?_)
  rw [p1, p3]
  refine wpAny_bind (wpAny_pure (wpAny_bind (wpAny_mono k ?_ fun _ _ x => x)))
  exact fun r s2 g => wpAny_bind (wpAny_holding (wpAny_point (wpAny_pure g)))
/-- an inner iterator `it`, in state St; J tells what its items are, each in a new pair with c + its place -/
structure Inner (P : Program) (w : World) (K : PySem.W.Frag) (J : It) (c : Int) (e it : Addr) (St : Nat → Heap → Prop) : Prop where
  live : ∀ i h, St i h → ∃ o, h.get? it = some o ∧ ∀ v, o.data ≠ .cell v
  move : ∀ i h h', St i h → (∀ o, h.get? it = some o → h'.get? it = some o) → St i h'
  item : ∀ (X : Cx) i pins (s : Shared) σ H, X.prog = P → X.w = w → X.K = K → X.A.handled = none → Inv X pins σ H s → St i s.heap → J.go i H → ∃ fp n Pv St', Draws P w X.A.in1 it fp n Pv St' ∧ i < n ∧ St' i s.heap ∧ e ∉ fp ∧ (∀ j h, St' j h → St j h) ∧
    ∀ u, Pv i u → ∃ v, RelV v u ∧ ∀ T, H T = none → J.yld i H (.ref T) (upd H T (.tup [.int (c + (i : Nat)), v]))
  fine : ∀ (X : Cx) i pins (s : Shared) σ H, X.prog = P → X.w = w → X.K = K → X.A.handled = none → Inv X pins σ H s → St i s.heap → J.stop i H → ∃ fp Pv St', Draws P w X.A.in1 it fp i Pv St' ∧ St' i s.heap
theorem Inner.turn {P : Program} {w : World} {K : PySem.W.Frag} {J : It} {c : Int} {e it : Addr} {St : Nat → Heap → Prop} {elts : List Expr} {kk : Nat} {tpos : Pos} (N : Inner P w K J c e it St) (ne : e ≠ it) :
    Turn P w K (.Tuple elts kk tpos) J [e, it] e (fun i h => (∃ old, IsEnum h e it (c + ((i : Nat) : Int)) old) ∧ St i h) := by
  have two : ∀ {p : Addr → Prop}, p e → p it → ∀ b ∈ [e, it], p b := fun x y b m => by
    rcases List.mem_cons.mp m with rfl | m
    · exact x
    · rw [List.mem_singleton.mp m]; exact y
  refine ⟨List.mem_cons_self, ?obj, ?keep, ?item, ?done, fun A i s Q E ⟨⟨_, g⟩, _⟩ k => wpAny_pyIter_enum g k⟩
  case obj =>
    rintro i h ⟨⟨old, g⟩, t⟩
    exact two ⟨_, g, fun _ z => nomatch z⟩ (N.live i h t)
  case keep =>
    rintro i h h' ⟨⟨old, g⟩, t⟩ k
    exact ⟨⟨old, k e List.mem_cons_self _ g⟩, N.move i h h' t (k it (List.mem_cons_of_mem _ List.mem_cons_self))⟩
  case done =>
    rintro X rfl rfl rfl calm i pins s σ H E I free ⟨⟨old, g⟩, t⟩ stop
    obtain ⟨fp, Pv, St', D, t'⟩ := N.fine X i pins s σ H rfl rfl rfl (I.ok.hd calm) I t stop
    obtain ⟨a, b, c', d, e', f⟩ := free it (List.mem_cons_of_mem _ List.mem_cons_self)
    exact wpAny_pyNext_enum_endD D g t' fun h' x => ⟨rfl, I.turned (t' := s.toks) (fun q o m z => x q o m z) a b d e' f⟩
  case item =>
    rintro X rfl rfl rfl calm i pins s σ H E I free ⟨⟨old, g⟩, t⟩ go
    obtain ⟨fp, n, Pv, St', D, lt, t', far, back, says⟩ := N.item X i pins s σ H rfl rfl rfl (I.ok.hd calm) I t go
    have le := Heap.lt_size g
    have li : it < s.heap.objs.size := by obtain ⟨o, z, _⟩ := N.live i _ t; exact Heap.lt_size z
    refine wpAny_pyNext_enum_itemC D g t' lt ne far fun u h1 tk pu out st1 pair _ old1 => ?_
    obtain ⟨v, rv, yld⟩ := says u pu
    refine ⟨_, rfl, wpAny_letOwnedTupleGo_enum (s := { s with heap := h1, toks := tk + 1 }) out fun h2 g2 same => ?_⟩
    have fresh := I.hok.fresh (Nat.le_refl s.heap.objs.size)
    have pair2 := (same.2 s.heap.objs.size (Ne.symm (Nat.ne_of_lt le))).trans pair
    have new : ObjOk X.prog X.w (upd H s.heap.objs.size (.tup [.int (c + (i : Nat)), v])) h2 s.heap.objs.size (.tup [.int (c + (i : Nat)), v]) :=
      ⟨by show 2 ≤ sizeLine; decide, _, .cons ⟨_, rfl⟩ (.cons rv .nil), ⟨_, pair2, rfl, _, rfl⟩⟩
    have I2 : Inv X pins σ _ { s with heap := h2, toks := tk + 1 } := I.turnedNew (ch := [e, it]) (fun b o m z => by
      have m1 : b ≠ e := fun q => m (by rw [q]; exact List.mem_cons_self)
      have m2 : b ≠ it := fun q => m (by rw [q]; exact List.mem_cons_of_mem _ List.mem_cons_self)
      rw [same.2 b m1]; exact old1 b o m1 m2 z) free (Nat.le_refl _) new
    refine ⟨.ref s.heap.objs.size, _, I2, rfl, yld _ fresh, ⟨⟨u, ?_⟩, N.move _ _ _ (back _ _ st1) fun o z => by rw [same.2 it (Ne.symm ne)]; exact z⟩, fun b m => ?_⟩
    · have q : c + ((i + 1 : Nat) : Int) = c + (i : Int) + 1 := by omega
      rw [q]; exact g2
    · have lb : b < s.heap.objs.size := two (p := (· < s.heap.objs.size)) le li b m
      rw [upd_ne (Nat.ne_of_lt lb)]; exact (free b m).1
/-- the list at a, each item in a new pair with c + its place -/
def IteC (K : PySem.W.Frag) (c : Int) (a : Addr) : It :=
  ⟨fun i H => ∃ (xs : List V) (x : V), SqL K H a xs ∧ xs[i]? = some x, fun i H v H' => ∃ T x, v = .ref T ∧ H T = none ∧ H' = upd H T (.tup [.int (c + (i : Nat)), x]) ∧ ∀ xs, SqL K H a xs → xs[i]? = some x, fun i H => ∃ xs : List V, SqL K H a xs ∧ xs.length = i⟩
theorem inner_list {P : Program} {w : World} {K : PySem.W.Frag} (c : Int) {a e it : Addr} (n1 : a ≠ it) (n2 : e ≠ a) (n3 : e ≠ it) : Inner P w K (IteC K c a) c e it (fun i h => h.IsListIter it a i) where
  live := fun i h ⟨o, x, _, d⟩ => ⟨o, x, fun v z => by rw [d] at z; cases z⟩
  move := fun i h h' t k => t.at fun o x => k o x
  item := by
    rintro X i pins s σ H rfl rfl rfl hh I t ⟨xs, x, hq, hx⟩
    obtain ⟨us, r, pl, _⟩ := I.list hq
    obtain ⟨u, hu, ru⟩ := r.get hx
    refine ⟨_, _, _, _, Draws.list (A := X.A.in1) hh it a n1 us.toArray, by simpa using (List.getElem?_eq_some_iff.mp hu).1, ⟨t, pl.isList⟩, by simp [n2, n3], fun _ _ z => z.1, fun u' pu => ?_⟩
    have z : us[i]? = some u' := by simpa using pu
    rw [hu] at z
    cases z
    exact ⟨x, ru, fun T nT => ⟨T, x, rfl, nT, rfl, fun ys hy => by rw [I.list_inj hy hq]; exact hx⟩⟩
  fine := by
    rintro X i pins s σ H rfl rfl rfl hh I t ⟨xs, hq, hx⟩
    obtain ⟨us, r, pl, _⟩ := I.list hq
    have len : us.toArray.size = i := by rw [← hx, r.length]; simp
    have D := Draws.list (prog := X.prog) (w := X.w) (A := X.A.in1) hh it a n1 us.toArray
    rw [len] at D
    exact ⟨_, _, _, D, t, pl.isList⟩
/-- the signs of a text, each in a new pair with c + its place -/
def ItsC (c : Int) (x : Str) : It :=
  ⟨fun i H => i < x.cps.size, fun i H v H' => ∃ T d, v = .ref T ∧ H T = none ∧ H' = upd H T (.tup [.int (c + (i : Nat)), .str ⟨#[d]⟩]) ∧ x.cps[i]? = some d, fun i H => x.cps.size = i⟩
theorem inner_str {P : Program} {w : World} {K : PySem.W.Frag} (c : Int) {x : Str} {t : Tok} {e it : Addr} (n3 : e ≠ it) : Inner P w K (ItsC c x) c e it (fun i h => h.IsStrIter it (strIterType x) x t i) := by
  have D : ∀ A : Around, A.handled = none → Draws P w A.in1 it [it] x.cps.size (fun i v => ∃ c u, x.cps[i]? = some c ∧ v = .str ⟨#[c]⟩ u) (fun i h => h.IsStrIter it (strIterType x) x t i) := fun A hh => by
    unfold strIterType
    split
    · exact Draws.strAscii (A := A.in1) hh it x t
    · exact Draws.strWide (A := A.in1) hh it x t
  refine ⟨fun i h ⟨o, z, _, d⟩ => ⟨o, z, fun v q => by rw [d] at q; cases q⟩, fun i h h' ⟨o, z, q⟩ k => ⟨o, k o z, q⟩, ?_, ?_⟩
  · rintro X i pins s σ H rfl rfl rfl hh I st lt
    exact ⟨_, _, _, _, D X.A hh, lt, st, by simp [n3], fun _ _ z => z, fun u ⟨d, tk, hd, eu⟩ => ⟨.str ⟨#[d]⟩, ⟨tk, eu⟩, fun T nT => ⟨T, d, rfl, nT, rfl, hd⟩⟩⟩
  · rintro X i pins s σ H rfl rfl rfl hh I st (len : x.cps.size = i)
    have D := D X.A hh
    rw [len] at D
    exact ⟨_, _, _, D, st⟩
def iEnumC (K : PySem.W.Frag) (ta : TA) : TI := fun σ H R => ta σ H fun vs H1 => ∃ a xs, vs = [.ref a] ∧ SqL K H1 a xs ∧ R (IteC K 1 a) H1
theorem pi_enumC {X : Cx} {e : Expr} {ta : TA} {p pos tpos kp : Pos} {e1 : Expr} {elts : List Expr} {kk : Nat} (hg : Gl X "enumerate") (hm : X.mg "enumerate" = none) (ha : PA X [e] ta) (h1 : PE X e1 (tC (.int 1)))
    (q1 : starEach [e] X.env = [(false, eval e X.env)] := by rfl) (q2 : (backToKw pos (keywordEach [⟨some "start", e1, kp⟩] X.env)).all (·.1.isSome) = true := by rfl)
    (q3 : (backToKw pos (keywordEach [⟨some "start", e1, kp⟩] X.env)).any (·.1.isNone) = false := by rfl) (q4 : (backToKw pos (keywordEach [⟨some "start", e1, kp⟩] X.env)).filterMap (·.1) = [Str.ofString "start"] := by rfl) :
    PI X (.Tuple elts kk tpos) (.Call (.Name "enumerate" p) [e] [⟨some "start", e1, kp⟩] pos) (iEnumC X.K ta) := by
  refine ⟨fun pins s σ H R I h => wpAny_Call_Name_kw (ld_blt I hg hm boot_enumerate (cw_typeK (e := e) (rest := []) (env := X.env) (pos := pos) (kws := [⟨some "start", e1, kp⟩]) (as := backTo pos (starEach [e] X.env)) (ks := backToKw pos (keywordEach [⟨some "start", e1, kp⟩] X.env)) rfl rfl (thn (ha.run pos pins s σ H _ I h) fun us s1 ⟨vs, H1, I1, r1, got⟩ => ?_) (by rw [q1]; rfl) (by rw [q1]; rfl) q2 q3))⟩
  refine thn ((pk_cons (X := X) (e := e1) (nm := some "start") (kpos := kp) h1 pk_nil).run pos pins s1 σ H1 (fun zs H2 => zs = [.int 1] ∧ H2 = H1) I1 ⟨rfl, rfl⟩) fun ws s2 ⟨zs, H2, I2, rz, ez, eH⟩ => ?_
  subst ez eH
  rw [q4]
  cases rz with | cons k1 k2 =>
  cases k2
  obtain ⟨tk, ew⟩ := k1
  subst ew
  obtain ⟨a, xs, rfl, hq, q⟩ := got
  cases r1 with | cons k1 k2 =>
  cases k2
  cases k1
  obtain ⟨its, rv, pl, _⟩ := I2.list hq
  have la : a < s2.heap.objs.size := by obtain ⟨_, z, _⟩ := pl.isList; exact Heap.lt_size z
  refine enum_begins_start (begins_list a its.toArray) pl.isList (by decide) (by decide) fun h' g hit _ hk => wpAny_pyIter_enum g ?_
  refine ⟨s2.heap.objs.size + 1, [s2.heap.objs.size + 1, s2.heap.objs.size], _, _, H2, rfl, I2.kept (t' := s2.toks) hk, (inner_list 1 (Nat.ne_of_lt la) (Ne.symm (Nat.ne_of_lt (Nat.lt_succ_of_lt la))) (Nat.succ_ne_self _)).turn (Nat.succ_ne_self _), ⟨⟨.none, by simpa using g⟩, ⟨_, hit, rfl, rfl⟩⟩, fun b m => ?_, q⟩
  have lb : s2.heap.objs.size ≤ b := by
    rcases List.mem_cons.mp m with rfl | m
    · exact Nat.le_succ _
    · rw [List.mem_singleton.mp m]; exact Nat.le_refl _
  exact I2.fpOk lb (I2.hok.fresh lb)
def iEnumS (ta : TA) : TI := fun σ H R => ta σ H fun vs H1 => ∃ x, vs = [.str x] ∧ R (ItsC 1 x) H1
theorem pi_enumS {X : Cx} {e : Expr} {ta : TA} {p pos tpos kp : Pos} {e1 : Expr} {elts : List Expr} {kk : Nat} (hg : Gl X "enumerate") (hm : X.mg "enumerate" = none) (ha : PA X [e] ta) (h1 : PE X e1 (tC (.int 1)))
    (q1 : starEach [e] X.env = [(false, eval e X.env)] := by rfl) (q2 : (backToKw pos (keywordEach [⟨some "start", e1, kp⟩] X.env)).all (·.1.isSome) = true := by rfl)
    (q3 : (backToKw pos (keywordEach [⟨some "start", e1, kp⟩] X.env)).any (·.1.isNone) = false := by rfl) (q4 : (backToKw pos (keywordEach [⟨some "start", e1, kp⟩] X.env)).filterMap (·.1) = [Str.ofString "start"] := by rfl) :
    PI X (.Tuple elts kk tpos) (.Call (.Name "enumerate" p) [e] [⟨some "start", e1, kp⟩] pos) (iEnumS ta) := by
  refine ⟨fun pins s σ H R I h => wpAny_Call_Name_kw (ld_blt I hg hm boot_enumerate (cw_typeK (e := e) (rest := []) (env := X.env) (pos := pos) (kws := [⟨some "start", e1, kp⟩]) (as := backTo pos (starEach [e] X.env)) (ks := backToKw pos (keywordEach [⟨some "start", e1, kp⟩] X.env)) rfl rfl (thn (ha.run pos pins s σ H _ I h) fun us s1 ⟨vs, H1, I1, r1, got⟩ => ?_) (by rw [q1]; rfl) (by rw [q1]; rfl) q2 q3))⟩
  refine thn ((pk_cons (X := X) (e := e1) (nm := some "start") (kpos := kp) h1 pk_nil).run pos pins s1 σ H1 (fun zs H2 => zs = [.int 1] ∧ H2 = H1) I1 ⟨rfl, rfl⟩) fun ws s2 ⟨zs, H2, I2, rz, ez, eH⟩ => ?_
  subst ez eH
  rw [q4]
  cases rz with | cons k1 k2 =>
  cases k2
  obtain ⟨tk, ew⟩ := k1
  subst ew
  obtain ⟨x, rfl, q⟩ := got
  cases r1 with | cons k1 k2 =>
  cases k2
  obtain ⟨t, eu⟩ := k1
  subst eu
  refine enum_begins_start (begins_text x t) trivial (by decide) (by decide) fun h' g hit _ hk => wpAny_pyIter_enum g ?_
  refine ⟨s2.heap.objs.size + 1, [s2.heap.objs.size + 1, s2.heap.objs.size], _, _, H2, rfl, I2.kept (t' := s2.toks) hk, (inner_str 1 (Nat.succ_ne_self _)).turn (Nat.succ_ne_self _), ⟨⟨.none, by simpa using g⟩, ⟨_, hit, rfl, rfl⟩⟩, fun b m => ?_, q⟩
  have lb : s2.heap.objs.size ≤ b := by
    rcases List.mem_cons.mp m with rfl | m
    · exact Nat.le_succ _
    · rw [List.mem_singleton.mp m]; exact Nat.le_refl _
  exact I2.fpOk lb (I2.hok.fresh lb)
end D0
namespace D0
open PySem PySem.Spec PyProof.Rows L2
def top (i : Nat) : Stmt := PySem.Challenge.pw_likerun_k03_whole_layout_again.main.body.getD i (.Pass ⟨0, 0, 0, 0⟩)
abbrev s_SourceError___init__ : Stmt := inClass (top 2) 0
abbrev n_SourceError___init__ : List Str := ["self", "line", "column"]
abbrev p_SourceError___init__ : List Str := ["self", "line", "column"]
theorem sc_SourceError___init__ : FnScope n_SourceError___init__ p_SourceError___init__ (defScope s_SourceError___init__) := ⟨rfl, rfl, rfl, by decide +kernel, rfl, by decide +kernel, by decide +kernel⟩
abbrev s_is_row : Stmt := top 10
abbrev n_is_row : List Str := ["text", "sign"]
abbrev p_is_row : List Str := ["text"]
theorem sc_is_row : FnScope n_is_row p_is_row (defScope s_is_row) := ⟨rfl, rfl, rfl, by decide +kernel, rfl, by decide +kernel, by decide +kernel⟩
abbrev s_is_letter : Stmt := top 11
abbrev n_is_letter : List Str := ["sign"]
abbrev p_is_letter : List Str := ["sign"]
theorem sc_is_letter : FnScope n_is_letter p_is_letter (defScope s_is_letter) := ⟨rfl, rfl, rfl, by decide +kernel, rfl, by decide +kernel, by decide +kernel⟩
abbrev s_is_digit : Stmt := top 12
abbrev n_is_digit : List Str := ["sign"]
abbrev p_is_digit : List Str := ["sign"]
theorem sc_is_digit : FnScope n_is_digit p_is_digit (defScope s_is_digit) := ⟨rfl, rfl, rfl, by decide +kernel, rfl, by decide +kernel, by decide +kernel⟩
abbrev s_digits_end : Stmt := top 13
abbrev n_digits_end : List Str := ["text", "start", "stop"]
abbrev p_digits_end : List Str := ["text", "start"]
theorem sc_digits_end : FnScope n_digits_end p_digits_end (defScope s_digits_end) := ⟨rfl, rfl, rfl, by decide +kernel, rfl, by decide +kernel, by decide +kernel⟩
abbrev s_name_end : Stmt := top 14
abbrev n_name_end : List Str := ["text", "start", "stop"]
abbrev p_name_end : List Str := ["text", "start"]
theorem sc_name_end : FnScope n_name_end p_name_end (defScope s_name_end) := ⟨rfl, rfl, rfl, by decide +kernel, rfl, by decide +kernel, by decide +kernel⟩
abbrev s_quoted : Stmt := top 15
abbrev n_quoted : List Str := ["text", "inner"]
abbrev p_quoted : List Str := ["text"]
theorem sc_quoted : FnScope n_quoted p_quoted (defScope s_quoted) := ⟨rfl, rfl, rfl, by decide +kernel, rfl, by decide +kernel, by decide +kernel⟩
abbrev s_scan_token : Stmt := top 22
abbrev n_scan_token : List Str := ["row", "start", "line", "sign"]
abbrev p_scan_token : List Str := ["row", "start", "line"]
theorem sc_scan_token : FnScope n_scan_token p_scan_token (defScope s_scan_token) := ⟨rfl, rfl, rfl, by decide +kernel, rfl, by decide +kernel, by decide +kernel⟩
abbrev s_scan_name : Stmt := top 23
abbrev n_scan_name : List Str := ["row", "start", "line", "stop", "name"]
abbrev p_scan_name : List Str := ["row", "start", "line"]
theorem sc_scan_name : FnScope n_scan_name p_scan_name (defScope s_scan_name) := ⟨rfl, rfl, rfl, by decide +kernel, rfl, by decide +kernel, by decide +kernel⟩
abbrev s_scan_number : Stmt := top 24
abbrev n_scan_number : List Str := ["row", "start", "line", "stop", "digits", "padded", "glued"]
abbrev p_scan_number : List Str := ["row", "start", "line"]
theorem sc_scan_number : FnScope n_scan_number p_scan_number (defScope s_scan_number) := ⟨rfl, rfl, rfl, by decide +kernel, rfl, by decide +kernel, by decide +kernel⟩
abbrev s_scan_text : Stmt := top 25
abbrev n_scan_text : List Str := ["row", "start", "line", "parts", "at"]
abbrev p_scan_text : List Str := ["row", "start", "line"]
theorem sc_scan_text : FnScope n_scan_text p_scan_text (defScope s_scan_text) := ⟨rfl, rfl, rfl, by decide +kernel, rfl, by decide +kernel, by decide +kernel⟩
abbrev s_scan_sign : Stmt := top 26
abbrev n_scan_sign : List Str := ["row", "start", "line", "sign"]
abbrev p_scan_sign : List Str := ["row", "start", "line"]
theorem sc_scan_sign : FnScope n_scan_sign p_scan_sign (defScope s_scan_sign) := ⟨rfl, rfl, rfl, by decide +kernel, rfl, by decide +kernel, by decide +kernel⟩
abbrev s_Scanner___init__ : Stmt := inClass (top 34) 0
abbrev n_Scanner___init__ : List Str := ["self"]
abbrev p_Scanner___init__ : List Str := ["self"]
theorem sc_Scanner___init__ : FnScope n_Scanner___init__ p_Scanner___init__ (defScope s_Scanner___init__) := ⟨rfl, rfl, rfl, by decide +kernel, rfl, by decide +kernel, by decide +kernel⟩
abbrev s_Scanner_scan_row : Stmt := inClass (top 34) 1
abbrev n_Scanner_scan_row : List Str := ["self", "row", "line", "at", "kind", "word", "stop"]
abbrev p_Scanner_scan_row : List Str := ["self", "row", "line"]
theorem sc_Scanner_scan_row : FnScope n_Scanner_scan_row p_Scanner_scan_row (defScope s_Scanner_scan_row) := ⟨rfl, rfl, rfl, by decide +kernel, rfl, by decide +kernel, by decide +kernel⟩
abbrev s_Scanner_begin_line : Stmt := inClass (top 34) 2
abbrev n_Scanner_begin_line : List Str := ["self", "line", "column", "indent"]
abbrev p_Scanner_begin_line : List Str := ["self", "line", "column"]
theorem sc_Scanner_begin_line : FnScope n_Scanner_begin_line p_Scanner_begin_line (defScope s_Scanner_begin_line) := ⟨rfl, rfl, rfl, by decide +kernel, rfl, by decide +kernel, by decide +kernel⟩
abbrev s_Scanner_gather : Stmt := inClass (top 34) 3
abbrev n_Scanner_gather : List Str := ["self", "mark"]
abbrev p_Scanner_gather : List Str := ["self", "mark"]
theorem sc_Scanner_gather : FnScope n_Scanner_gather p_Scanner_gather (defScope s_Scanner_gather) := ⟨rfl, rfl, rfl, by decide +kernel, rfl, by decide +kernel, by decide +kernel⟩
abbrev s_Scanner_match_bracket : Stmt := inClass (top 34) 4
abbrev n_Scanner_match_bracket : List Str := ["self", "mark", "word"]
abbrev p_Scanner_match_bracket : List Str := ["self", "mark"]
theorem sc_Scanner_match_bracket : FnScope n_Scanner_match_bracket p_Scanner_match_bracket (defScope s_Scanner_match_bracket) := ⟨rfl, rfl, rfl, by decide +kernel, rfl, by decide +kernel, by decide +kernel⟩
abbrev s_Scanner_end_line : Stmt := inClass (top 34) 5
abbrev n_Scanner_end_line : List Str := ["self", "line"]
abbrev p_Scanner_end_line : List Str := ["self", "line"]
theorem sc_Scanner_end_line : FnScope n_Scanner_end_line p_Scanner_end_line (defScope s_Scanner_end_line) := ⟨rfl, rfl, rfl, by decide +kernel, rfl, by decide +kernel, by decide +kernel⟩
abbrev s_Scanner_end_text : Stmt := inClass (top 34) 6
abbrev n_Scanner_end_text : List Str := ["self", "line", "_"]
abbrev p_Scanner_end_text : List Str := ["self"]
theorem sc_Scanner_end_text : FnScope n_Scanner_end_text p_Scanner_end_text (defScope s_Scanner_end_text) := ⟨rfl, rfl, rfl, by decide +kernel, rfl, by decide +kernel, by decide +kernel⟩
abbrev s_tokens : Stmt := top 35
abbrev n_tokens : List Str := ["text", "rows", "scanner", "line", "row"]
abbrev p_tokens : List Str := ["text"]
theorem sc_tokens : FnScope n_tokens p_tokens (defScope s_tokens) := ⟨rfl, rfl, rfl, by decide +kernel, rfl, by decide +kernel, by decide +kernel⟩
abbrev s_checked_rows : Stmt := top 36
abbrev n_checked_rows : List Str := ["text", "rows", "line", "row"]
abbrev p_checked_rows : List Str := ["text"]
theorem sc_checked_rows : FnScope n_checked_rows p_checked_rows (defScope s_checked_rows) := ⟨rfl, rfl, rfl, by decide +kernel, rfl, by decide +kernel, by decide +kernel⟩
abbrev s_check_letters : Stmt := top 37
abbrev n_check_letters : List Str := ["row", "line", "column", "letter"]
abbrev p_check_letters : List Str := ["row", "line"]
theorem sc_check_letters : FnScope n_check_letters p_check_letters (defScope s_check_letters) := ⟨rfl, rfl, rfl, by decide +kernel, rfl, by decide +kernel, by decide +kernel⟩
abbrev s_spaces_end : Stmt := top 38
abbrev n_spaces_end : List Str := ["row", "start", "stop"]
abbrev p_spaces_end : List Str := ["row", "start"]
theorem sc_spaces_end : FnScope n_spaces_end p_spaces_end (defScope s_spaces_end) := ⟨rfl, rfl, rfl, by decide +kernel, rfl, by decide +kernel, by decide +kernel⟩
abbrev s_layout : Stmt := top 39
abbrev n_layout : List Str := ["marks", "rows", "words", "depth", "mark", "kind"]
abbrev p_layout : List Str := ["marks"]
theorem sc_layout : FnScope n_layout p_layout (defScope s_layout) := ⟨rfl, rfl, rfl, by decide +kernel, rfl, by decide +kernel, by decide +kernel⟩
abbrev s_written : Stmt := top 40
abbrev n_written : List Str := ["kind", "word"]
abbrev p_written : List Str := ["kind", "word"]
theorem sc_written : FnScope n_written p_written (defScope s_written) := ⟨rfl, rfl, rfl, by decide +kernel, rfl, by decide +kernel, by decide +kernel⟩
abbrev s__law_bag : Stmt := top 42
abbrev n__law_bag : List Str := ["script", "at", "cell", "seed", "one"]
abbrev p__law_bag : List Str := ["script", "at"]
theorem sc__law_bag : FnScope n__law_bag p__law_bag (defScope s__law_bag) := ⟨rfl, rfl, rfl, by decide +kernel, rfl, by decide +kernel, by decide +kernel⟩
abbrev s__law_take : Stmt := top 43
abbrev n__law_take : List Str := ["bag", "size", "got", "first", "second"]
abbrev p__law_take : List Str := ["bag", "size"]
theorem sc__law_take : FnScope n__law_take p__law_take (defScope s__law_take) := ⟨rfl, rfl, rfl, by decide +kernel, rfl, by decide +kernel, by decide +kernel⟩
abbrev s__law_whole : Stmt := top 44
abbrev n__law_whole : List Str := ["value"]
abbrev p__law_whole : List Str := ["value"]
theorem sc__law_whole : FnScope n__law_whole p__law_whole (defScope s__law_whole) := ⟨rfl, rfl, rfl, by decide +kernel, rfl, by decide +kernel, by decide +kernel⟩
abbrev s__law_signs : Stmt := top 45
abbrev n__law_signs : List Str := []
abbrev p__law_signs : List Str := []
theorem sc__law_signs : FnScope n__law_signs p__law_signs (defScope s__law_signs) := ⟨rfl, rfl, rfl, by decide +kernel, rfl, by decide +kernel, by decide +kernel⟩
abbrev s__law_keywords : Stmt := top 46
abbrev n__law_keywords : List Str := ["words"]
abbrev p__law_keywords : List Str := []
theorem sc__law_keywords : FnScope n__law_keywords p__law_keywords (defScope s__law_keywords) := ⟨rfl, rfl, rfl, by decide +kernel, rfl, by decide +kernel, by decide +kernel⟩
abbrev s__law_letters : Stmt := top 47
abbrev n__law_letters : List Str := []
abbrev p__law_letters : List Str := []
theorem sc__law_letters : FnScope n__law_letters p__law_letters (defScope s__law_letters) := ⟨rfl, rfl, rfl, by decide +kernel, rfl, by decide +kernel, by decide +kernel⟩
abbrev s__law_allowed : Stmt := top 48
abbrev n__law_allowed : List Str := ["first"]
abbrev p__law_allowed : List Str := []
theorem sc__law_allowed : FnScope n__law_allowed p__law_allowed (defScope s__law_allowed) := ⟨rfl, rfl, rfl, by decide +kernel, rfl, by decide +kernel, by decide +kernel⟩
abbrev s__law_name : Stmt := top 49
abbrev n__law_name : List Str := ["bag", "small", "letters", "more", "size", "built", "turn"]
abbrev p__law_name : List Str := ["bag", "small"]
theorem sc__law_name : FnScope n__law_name p__law_name (defScope s__law_name) := ⟨rfl, rfl, rfl, by decide +kernel, rfl, by decide +kernel, by decide +kernel⟩
abbrev s__law_figures : Stmt := top 50
abbrev n__law_figures : List Str := ["bag", "small", "size", "built", "turn"]
abbrev p__law_figures : List Str := ["bag", "small"]
theorem sc__law_figures : FnScope n__law_figures p__law_figures (defScope s__law_figures) := ⟨rfl, rfl, rfl, by decide +kernel, rfl, by decide +kernel, by decide +kernel⟩
abbrev s__law_quoted : Stmt := top 51
abbrev n__law_quoted : List Str := ["bag", "small", "quote", "signs", "word", "spelled", "turn", "sign"]
abbrev p__law_quoted : List Str := ["bag", "small"]
theorem sc__law_quoted : FnScope n__law_quoted p__law_quoted (defScope s__law_quoted) := ⟨rfl, rfl, rfl, by decide +kernel, rfl, by decide +kernel, by decide +kernel⟩
abbrev s__law_word : Stmt := top 52
abbrev n__law_word : List Str := ["bag", "small", "way", "name", "words", "word", "figures", "sign", "signs"]
abbrev p__law_word : List Str := ["bag", "small"]
theorem sc__law_word : FnScope n__law_word p__law_word (defScope s__law_word) := ⟨rfl, rfl, rfl, by decide +kernel, rfl, by decide +kernel, by decide +kernel⟩
abbrev s__law_comment : Stmt := top 53
abbrev n__law_comment : List Str := ["bag", "built", "signs", "turn"]
abbrev p__law_comment : List Str := ["bag"]
theorem sc__law_comment : FnScope n__law_comment p__law_comment (defScope s__law_comment) := ⟨rfl, rfl, rfl, by decide +kernel, rfl, by decide +kernel, by decide +kernel⟩
abbrev s__law_must_part : Stmt := top 54
abbrev n__law_must_part : List Str := ["before", "spelled", "joined", "more", "one"]
abbrev p__law_must_part : List Str := ["before", "spelled"]
theorem sc__law_must_part : FnScope n__law_must_part p__law_must_part (defScope s__law_must_part) := ⟨rfl, rfl, rfl, by decide +kernel, rfl, by decide +kernel, by decide +kernel⟩
abbrev s__law_put : Stmt := top 55
abbrev n__law_put : List Str := ["page", "kind", "word", "spelled"]
abbrev p__law_put : List Str := ["page", "kind", "word", "spelled"]
theorem sc__law_put : FnScope n__law_put p__law_put (defScope s__law_put) := ⟨rfl, rfl, rfl, by decide +kernel, rfl, by decide +kernel, by decide +kernel⟩
abbrev s__law_close_row : Stmt := top 56
abbrev n__law_close_row : List Str := ["page"]
abbrev p__law_close_row : List Str := ["page"]
theorem sc__law_close_row : FnScope n__law_close_row p__law_close_row (defScope s__law_close_row) := ⟨rfl, rfl, rfl, by decide +kernel, rfl, by decide +kernel, by decide +kernel⟩
abbrev s__law_row_end : Stmt := top 57
abbrev n__law_row_end : List Str := ["bag", "page", "turn"]
abbrev p__law_row_end : List Str := ["bag", "page"]
theorem sc__law_row_end : FnScope n__law_row_end p__law_row_end (defScope s__law_row_end) := ⟨rfl, rfl, rfl, by decide +kernel, rfl, by decide +kernel, by decide +kernel⟩
abbrev s__law_lay : Stmt := top 58
abbrev n__law_lay : List Str := ["bag", "page", "piece", "before", "gap"]
abbrev p__law_lay : List Str := ["bag", "page", "piece", "before"]
theorem sc__law_lay : FnScope n__law_lay p__law_lay (defScope s__law_lay) := ⟨rfl, rfl, rfl, by decide +kernel, rfl, by decide +kernel, by decide +kernel⟩
abbrev s__law_broken : Stmt := top 59
abbrev n__law_broken : List Str := ["bag", "page", "before", "inside", "wide"]
abbrev p__law_broken : List Str := ["bag", "page", "before", "inside", "wide"]
theorem sc__law_broken : FnScope n__law_broken p__law_broken (defScope s__law_broken) := ⟨rfl, rfl, rfl, by decide +kernel, rfl, by decide +kernel, by decide +kernel⟩
abbrev s__law_line : Stmt := top 60
abbrev n__law_line : List Str := ["bag", "page", "many", "least", "closers", "before", "turn", "way", "sign", "piece", "closer"]
abbrev p__law_line : List Str := ["bag", "page", "many", "least"]
theorem sc__law_line : FnScope n__law_line p__law_line (defScope s__law_line) := ⟨rfl, rfl, rfl, by decide +kernel, rfl, by decide +kernel, by decide +kernel⟩
abbrev s__law_margin : Stmt := top 61
abbrev n__law_margin : List Str := ["bag", "page", "widths", "way", "row", "back", "turn"]
abbrev p__law_margin : List Str := ["bag", "page", "widths", "way"]
theorem sc__law_margin : FnScope n__law_margin p__law_margin (defScope s__law_margin) := ⟨rfl, rfl, rfl, by decide +kernel, rfl, by decide +kernel, by decide +kernel⟩
abbrev s__law_tall : Stmt := top 62
abbrev n__law_tall : List Str := ["bag", "page", "widths", "turn", "way", "piece"]
abbrev p__law_tall : List Str := ["bag", "page", "widths"]
theorem sc__law_tall : FnScope n__law_tall p__law_tall (defScope s__law_tall) := ⟨rfl, rfl, rfl, by decide +kernel, rfl, by decide +kernel, by decide +kernel⟩
abbrev s__law_page : Stmt := top 63
abbrev n__law_page : List Str := ["bag", "page", "widths", "tall", "lean", "many", "turn", "way", "behind"]
abbrev p__law_page : List Str := ["bag"]
theorem sc__law_page : FnScope n__law_page p__law_page (defScope s__law_page) := ⟨rfl, rfl, rfl, by decide +kernel, rfl, by decide +kernel, by decide +kernel⟩
abbrev s__law_written : Stmt := top 64
abbrev n__law_written : List Str := ["kind", "word", "written_v", "sign"]
abbrev p__law_written : List Str := ["kind", "word"]
theorem sc__law_written : FnScope n__law_written p__law_written (defScope s__law_written) := ⟨rfl, rfl, rfl, by decide +kernel, rfl, by decide +kernel, by decide +kernel⟩
abbrev s__law_laid : Stmt := top 65
abbrev n__law_laid : List Str := ["due", "rows", "spots", "depth", "row", "token", "place"]
abbrev p__law_laid : List Str := ["due"]
theorem sc__law_laid : FnScope n__law_laid p__law_laid (defScope s__law_laid) := ⟨rfl, rfl, rfl, by decide +kernel, rfl, by decide +kernel, by decide +kernel⟩
abbrev s__law_replaced : Stmt := top 66
abbrev n__law_replaced : List Str := ["due", "spots", "place", "laid", "at"]
abbrev p__law_replaced : List Str := ["due", "spots"]
theorem sc__law_replaced : FnScope n__law_replaced p__law_replaced (defScope s__law_replaced) := ⟨rfl, rfl, rfl, by decide +kernel, rfl, by decide +kernel, by decide +kernel⟩
abbrev s__law_is_tokens : Stmt := top 67
abbrev n__law_is_tokens : List Str := ["told", "token"]
abbrev p__law_is_tokens : List Str := ["told"]
theorem sc__law_is_tokens : FnScope n__law_is_tokens p__law_is_tokens (defScope s__law_is_tokens) := ⟨rfl, rfl, rfl, by decide +kernel, rfl, by decide +kernel, by decide +kernel⟩
abbrev s__law_is_too_long : Stmt := top 68
abbrev n__law_is_too_long : List Str := ["source", "place", "raised"]
abbrev p__law_is_too_long : List Str := ["source", "place"]
theorem sc__law_is_too_long : FnScope n__law_is_too_long p__law_is_too_long (defScope s__law_is_too_long) := ⟨rfl, rfl, rfl, by decide +kernel, rfl, by decide +kernel, by decide +kernel⟩
abbrev s_law : Stmt := top 69
abbrev n_law : List Str := ["script", "page", "told", "laid", "drawn", "row", "written_v", "again"]
abbrev p_law : List Str := ["script"]
theorem sc_law : FnScope n_law p_law (defScope s_law) := ⟨rfl, rfl, rfl, by decide +kernel, rfl, by decide +kernel, by decide +kernel⟩
end D0
namespace D0
open PySem PySem.Spec PyProof.Rows L2 SX
theorem _root_.L2.Fun.lk {K : PySem.W.Frag} {x q : Str} {st : Stmt} {f : Addr} {fd : FuncData} (F : Fun K x q st f fd) : ∃ oc od osl, K.lookup f = some ⟨oc, od, .func fd, osl⟩ := by
  obtain ⟨oc, od, kV, doc, pm, an, cdv, ct, osl, e, lk, _⟩ := F.ex
  exact ⟨oc, od, osl, lk⟩
/-- the def named x keeps the promise sp -/
def OkD (P : Program) (w : World) (K : PySem.W.Frag) (mg : Str → Option Value) (base : Heap) (CX : CXT) (k : Nat) (x : Str) (ps : List Str) (sp : Sp) : Prop :=
  ∃ f fd, mg x = some (.ref f) ∧ PySem.W.keepIn K (.ref f) = true ∧ Binds K fd ps [] ∧ (∃ oc od osl, K.lookup f = some ⟨oc, od, .func fd, osl⟩) ∧ FnOk P w K mg base CX k f fd ps sp
theorem OkD.mono {P w K mg base CX j k x ps sp} (O : OkD P w K mg base CX j x ps sp) (h : j ≤ k) : OkD P w K mg base CX k x ps sp := by
  obtain ⟨f, fd, a, b, c, d, F⟩ := O
  exact ⟨f, fd, a, b, c, d, F.mono h⟩
/-- the def named x stands in the text as st -/
def Gv (K : PySem.W.Frag) (mg : Str → Option Value) (x : Str) (st : Stmt) (ps : List Str) : Prop :=
  ∃ f fd, Fun K x x st f fd ∧ mg x = some (.ref f) ∧ Binds K fd ps []
section
variable {X : Cx} {CX : CXT} {k j : Nat} {ps : List Str} {sp : Sp} {E : XK} {x : Str} {p pos : Pos} {e : Expr} {es : List Expr} {t : TA}
theorem pcallE (O : OkD X.prog X.w X.K X.mg X.base CX k x ps sp) (hr : Room j X.A) (hx : Passes CX X E) (ha : PA X (e :: es) t) (hj : k ≤ j := by first | decide | omega) (hg : Gl X x := by rfl)
    (hdb : (x == ("__debug__" : Str)) = false := by decide) (he : starEach (e :: es) X.env = (false, eval e X.env) :: starEach es X.env := by rfl) (hpl : (backTo pos (starEach es X.env)).any (·.1) = false := by rfl) :
    PE X (.Call (.Name x p) (e :: es) [] pos) (tCall sp [] E t) := by
  obtain ⟨f, fd, hm, hk, hb, _, F⟩ := O
  exact pe_call F (hr.mono hj) hg hm hk hb .nil hx ha hdb he hpl
theorem pcall (O : OkD X.prog X.w X.K X.mg X.base CX0 k x ps sp) (hr : Room j X.A) (ha : PA X (e :: es) t) (hj : k ≤ j := by first | decide | omega) (hg : Gl X x := by rfl)
    (hdb : (x == ("__debug__" : Str)) = false := by decide) (he : starEach (e :: es) X.env = (false, eval e X.env) :: starEach es X.env := by rfl) (hpl : (backTo pos (starEach es X.env)).any (·.1) = false := by rfl) :
    PE X (.Call (.Name x p) (e :: es) [] pos) (tCall sp [] E0 t) := pcallE O hr pass0 ha hj hg hdb he hpl
theorem pcall0 (O : OkD X.prog X.w X.K X.mg X.base CX0 k x ps sp) (hr : Room j X.A) (hj : k ≤ j := by first | decide | omega) (hg : Gl X x := by rfl)
    (hdb : (x == ("__debug__" : Str)) = false := by decide) :
    PE X (.Call (.Name x p) [] [] pos) (tCall sp [] E0 tNil) := by
  obtain ⟨f, fd, hm, hk, hb, _, F⟩ := O
  exact pe_call0 F (hr.mono hj) hg hm hk hb .nil pass0 hdb
end
section
variable {P : Program} {w : World} {K : PySem.W.Frag} {mg : Str → Option Value} {base : Heap}
theorem Gv.ok {x : Str} {st : Stmt} {N ps : List Str} {k : Nat} {sp : Sp} (G : Gv K mg x st ps) (S : FnScope N ps (defScope st)) (len : ∀ vs H Q E, sp vs H Q E → vs.length = ps.length)
    (hbody : ∀ (f : Addr) (cdv : Value) (A : Around) (outer : List Env) (s : Shared) (H : Hp) (vs : List V) (Q : VK) (E : XK), Room k (A.deeper (envOfC x (defScope st) s.heap.objs.size f cdv)) → sp vs H Q E →
      ∃ t, PSs (cxOf CX0 P w K mg base N x (defScope st) f cdv A outer s H E).nox (defBody st) t ∧ t { nx := fun _ H' => Q .non H', rt := Q } (start N vs) H) : OkD P w K mg base CX0 (k + 1) x ps sp := by
  obtain ⟨f, fd, F, hm, hb⟩ := G
  exact ⟨f, fd, hm, F.kp, hb, F.lk, F.ok S len (hbody f)⟩
theorem Gv.okX {x : Str} {st : Stmt} {N ps : List Str} {k : Nat} {sp : Sp} (G : Gv K mg x st ps) (S : FnScope N ps (defScope st)) (len : ∀ vs H Q E, sp vs H Q E → vs.length = ps.length)
    (hbody : ∀ (f : Addr) (cdv : Value) (A : Around) (outer : List Env) (s : Shared) (H : Hp) (vs : List V) (Q : VK) (E : XK), Room k (A.deeper (envOfC x (defScope st) s.heap.objs.size f cdv)) → sp vs H Q E →
      ∃ t, PSs (cxOf (L2.CX P w) P w K mg base N x (defScope st) f cdv A outer s H E) (defBody st) t ∧ t { nx := fun _ H' => Q .non H', rt := Q } (start N vs) H) : OkD P w K mg base (L2.CX P w) (k + 1) x ps sp := by
  obtain ⟨f, fd, F, hm, hb⟩ := G
  exact ⟨f, fd, hm, F.kp, hb, F.lk, F.okX S len (hbody f)⟩
theorem Gv.okT {x : Str} {st : Stmt} {N ps : List Str} {k : Nat} {sp : Sp} (G : Gv K mg x st ps) (S : FnScope N ps (defScope st)) (hnc : ∀ y ∈ (defScope st).names, y.2 ≠ .cell) (hps : 1 ≤ ps.length) (len : ∀ vs H Q E, sp vs H Q E → vs.length = ps.length)
    (hbody : ∀ (f : Addr) (cdv : Value) (A : Around) (outer : List Env) (s : Shared) (H : Hp) (vs : List V) (Q : VK) (E : XK), Room k (A.deeper (envOfC x (defScope st) s.heap.objs.size f cdv)) → sp vs H Q E →
      ∃ t, PSsT (cxOf CX0 P w K mg base N x (defScope st) f cdv A outer s H E) (defBody st) t ∧ t { nx := fun _ H' => Q .non H', rt := Q } (start N vs) H) : OkD P w K mg base CX0 (k + 1) x ps sp := by
  obtain ⟨f, fd, F, hm, hb⟩ := G
  obtain ⟨oc, od, kV, doc, pm, an, cdv, ct, osl, rfl, lk, hcd⟩ := F.ex
  exact ⟨f, _, hm, F.kp, hb, ⟨_, _, _, lk⟩, fn_ofT lk hcd S hnc hps len (hbody f cdv)⟩
end
theorem pe_gI {X : Cx} {x : Str} {n : Int} {pos : Pos} (h : ∃ t, X.mg x = some (.int n t)) (hg : Gl X x := by rfl) (hd : (x == ("__debug__" : Str)) = false := by decide) : PE X (.Name x pos) (tC (.int n)) := by
  obtain ⟨t, h⟩ := h
  exact pe_glob hg h (show RelV (.int n) _ from ⟨t, rfl⟩) hd
/-- is True, is False: of any value -/
theorem op_isTF {X : Cx} : OpR X (compareOp .Is) (fun x y H Q => ∃ b, y = .bl b ∧ Q (.bl (decide (x = .bl b))) H) := by
  intro pins s σ H x y v u Q I rx ry h
  obtain ⟨b, rfl, q⟩ := h
  cases (show u = Value.bool b from ry)
  by_cases e : x = .bl b
  · subst e
    cases (show v = Value.bool b from rx)
    exact wpAny_is_self rfl ⟨.bl true, H, I, rfl, by simpa using q⟩
  · have hp : plainIs v (Value.bool b) = true ∧ v ≠ Value.bool b := by
      cases x with
      | bl c => cases (show v = Value.bool c from rx); exact ⟨rfl, fun z => e (by cases z; rfl)⟩
      | non => cases (show v = Value.none from rx); exact ⟨rfl, fun z => nomatch z⟩
      | ref a => cases (show v = Value.ref a from rx); exact ⟨rfl, fun z => nomatch z⟩
      | ty n => cases (show v = Value.type n from rx); exact ⟨rfl, fun z => nomatch z⟩
      | int i => obtain ⟨t, rfl⟩ := rx; exact ⟨rfl, fun z => nomatch z⟩
      | str i => obtain ⟨t, rfl⟩ := rx; exact ⟨rfl, fun z => nomatch z⟩
      | byt i => obtain ⟨t, rfl⟩ := rx; exact ⟨rfl, fun z => nomatch z⟩
      | flt i => obtain ⟨t, rfl⟩ := rx; exact ⟨rfl, fun z => nomatch z⟩
    exact wpAny_is_other hp.1 hp.2 ⟨.bl false, H, I, rfl, by simpa [e] using q⟩
section
variable {P : Program} {w : World} {K : PySem.W.Frag} {mg : Str → Option Value} {base : Heap}
/-- the method m of the class C keeps the promise sp -/
def OkM (P : Program) (w : World) (K : PySem.W.Frag) (mg : Str → Option Value) (base : Heap) (C : Addr) (CX : CXT) (k : Nat) (m : Str) (ps : List Str) (sp : Sp) : Prop :=
  ∃ f fd, Meth K C m f ∧ Binds K fd ps [] ∧ FnOk P w K mg base CX k f fd ps sp
def Gvm (K : PySem.W.Frag) (C : Addr) (m q : Str) (st : Stmt) (ps : List Str) : Prop := ∃ f fd, Fun K m q st f fd ∧ Meth K C m f ∧ Binds K fd ps []
theorem OkM.mono {C : Addr} {CX j k x ps sp} (O : OkM P w K mg base C CX j x ps sp) (h : j ≤ k) : OkM P w K mg base C CX k x ps sp := by
  obtain ⟨f, fd, a, b, F⟩ := O
  exact ⟨f, fd, a, b, F.mono h⟩
theorem Gvm.ok {C : Addr} {x q : Str} {st : Stmt} {N ps : List Str} {k : Nat} {sp : Sp} (G : Gvm K C x q st ps) (S : FnScope N ps (defScope st)) (len : ∀ vs H Q E, sp vs H Q E → vs.length = ps.length)
    (hbody : ∀ (f : Addr) (cdv : Value) (A : Around) (outer : List Env) (s : Shared) (H : Hp) (vs : List V) (Q : VK) (E : XK), Room k (A.deeper (envOfC q (defScope st) s.heap.objs.size f cdv)) → sp vs H Q E →
      ∃ t, PSs (cxOf CX0 P w K mg base N q (defScope st) f cdv A outer s H E).nox (defBody st) t ∧ t { nx := fun _ H' => Q .non H', rt := Q } (start N vs) H) : OkM P w K mg base C CX0 (k + 1) x ps sp := by
  obtain ⟨f, fd, F, hm, hb⟩ := G
  exact ⟨f, fd, hm, hb, F.ok S len (hbody f)⟩
theorem Gvm.okX {C : Addr} {x q : Str} {st : Stmt} {N ps : List Str} {k : Nat} {sp : Sp} (G : Gvm K C x q st ps) (S : FnScope N ps (defScope st)) (len : ∀ vs H Q E, sp vs H Q E → vs.length = ps.length)
    (hbody : ∀ (f : Addr) (cdv : Value) (A : Around) (outer : List Env) (s : Shared) (H : Hp) (vs : List V) (Q : VK) (E : XK), Room k (A.deeper (envOfC q (defScope st) s.heap.objs.size f cdv)) → sp vs H Q E →
      ∃ t, PSs (cxOf (L2.CX P w) P w K mg base N q (defScope st) f cdv A outer s H E) (defBody st) t ∧ t { nx := fun _ H' => Q .non H', rt := Q } (start N vs) H) : OkM P w K mg base C (L2.CX P w) (k + 1) x ps sp := by
  obtain ⟨f, fd, F, hm, hb⟩ := G
  exact ⟨f, fd, hm, hb, F.okX S len (hbody f)⟩
end
section
variable {X : Cx} {CX : CXT} {k j : Nat} {ps : List Str} {sp : Sp} {E : XK} {x m : Str} {p pos apos : Pos} {o e : Expr} {es : List Expr} {ta : TE} {t : TA} {C : Addr} {pl : Sem Bool}
theorem pmethE (O : OkM X.prog X.w X.K X.mg X.base C CX k m ps sp) (cl : Cls X.K C) (hr : Room j X.A) (hx : Passes CX X E) (ho : PE X o ta) (ha : PA X (e :: es) t) (hj : k ≤ j := by first | decide | omega)
    (he : starEach (e :: es) X.env = (false, eval e X.env) :: starEach es X.env := by rfl) (hpl : (backTo pos (starEach es X.env)).any (·.1) = false := by rfl)
    (hm : eval (.Call (.Attribute o m apos) (e :: es) [] pos) X.env = (do
      let ov ← eval o X.env
      standAt apos.atName
      let (f, first) ← holding [ov] (getMethod ov m pl)
      callWith pos f first (backTo pos (starEach (e :: es) X.env)) (backToKw pos (keywordEach [] X.env))) := by rfl) :
    PE X (.Call (.Attribute o m apos) (e :: es) [] pos) (tMeth C m sp [] E ta t) := by
  obtain ⟨f, fd, hm', hb, F⟩ := O
  exact pe_meth ho cl hm' F (hr.mono hj) hb .nil hx ha he hpl hm
theorem pmeth0 (O : OkM X.prog X.w X.K X.mg X.base C CX k m ps sp) (cl : Cls X.K C) (hr : Room j X.A) (hx : Passes CX X E) (ho : PE X o ta) (hj : k ≤ j := by first | decide | omega)
    (hm : eval (.Call (.Attribute o m apos) [] [] pos) X.env = (do
      let ov ← eval o X.env
      standAt apos.atName
      let (f, first) ← holding [ov] (getMethod ov m pl)
      callWith pos f first (backTo pos (starEach [] X.env)) (backToKw pos (keywordEach [] X.env))) := by rfl) :
    PE X (.Call (.Attribute o m apos) [] [] pos) (tMeth C m sp [] E ta tNil) := by
  obtain ⟨f, fd, hm', hb, F⟩ := O
  exact pe_meth0 ho cl hm' F (hr.mono hj) hb .nil hx hm
end
/-! ### the errors -/
inductive Er | sign | token | indent | long | deep
def Er.nm : Er → Str
  | .sign => "BadSign" | .token => "BadToken" | .indent => "BadIndent" | .long => "TooLong" | .deep => "TooDeep"
def xs2 (l c : Int) : List (Str × V) := [("column", .int c), ("line", .int l)]
/-- the error classes at ec, their __init__ -/
structure ErrT (P : Program) (w : World) (K : PySem.W.Frag) (mg : Str → Option Value) (base : Heap) (ec : Er → Addr) : Prop where
  gl : ∀ k : Er, mg k.nm = some (.ref (ec k))
  oex : ∀ k : Er, OexC K (ec k)
  nl : ∀ k : Er, PySem.W.findIn K (.ref (ec k)) "line" = some none
  nc : ∀ k : Er, PySem.W.findIn K (.ref (ec k)) "column" = some none
  ini : ∃ fI fd, (∀ k : Er, PySem.W.findIn K (.ref (ec k)) "__init__" = some (some (.ref fI))) ∧ PySem.W.typeIn K (.ref fI) = some (.type "function") ∧ Binds K fd p_SourceError___init__ [] ∧ Fun K "__init__" "SourceError.__init__" s_SourceError___init__ fI fd
def spInitE (K : PySem.W.Frag) : Sp := fun vs H Q _ => ∃ (a C : Addr) (l c : Int), vs = [.ref a, .int l, .int c] ∧ H a = some (exo a C none) ∧ OexC K C ∧ PySem.W.findIn K (.ref C) "line" = some none ∧ PySem.W.findIn K (.ref C) "column" = some none ∧
  ∀ d H', H d = none → d ≠ a → H' d = some (exd d (xs2 l c)) → H' a = some (exo a C (some d)) → (∀ b, b ≠ a → b ≠ d → H' b = H b) → Q .non H'
section
variable {P : Program} {w : World} {K : PySem.W.Frag} {mg : Str → Option Value} {base : Heap}
theorem ok_SourceError___init__ {f : Addr} {fd : FuncData} (F : Fun K "__init__" "SourceError.__init__" s_SourceError___init__ f fd) : FnOk P w K mg base CX0 1 f fd p_SourceError___init__ (spInitE K) := by
  refine F.ok sc_SourceError___init__ (fun vs H Q E h => ?_) (fun cdv A outer s H vs Q E hr h => ?_)
  · obtain ⟨a, C, l, c, rfl, _⟩ := h; rfl
  obtain ⟨a, C, l, c, rfl, ha, oC, n1, n2, q⟩ := h
  refine ⟨_, pss_cons (ps_ost (pv 0) (pv 1) rfl) (pss_one (ps_ost (pv 0) (pv 2) rfl)), ?_⟩
  refine ⟨_, rfl, _, rfl, a, C, rfl, oC, n1, .inl ⟨ha, fun dx hd ne => ?_⟩⟩
  refine ⟨_, rfl, _, rfl, a, C, rfl, oC, n2, .inr ⟨dx, _, upd_same, by rw [upd_ne ne, upd_same], by show 1 ≤ 900; decide, ?_⟩⟩
  refine q dx _ hd ne upd_same (by rw [upd_ne (Ne.symm ne), upd_same]) fun b h1 h2 => ?_
  rw [upd_ne h2, upd_ne h1, upd_ne h2]
end
/-- the error k(l, c) leaves, what stood in H stands -/
def Rz (ec : Er → Addr) (k : Er) (l c : Int) (H : Hp) (E : XK) : Prop := ∀ d H', Same H H' → H d = none → H' d = some (.xd (xs2 l c)) → E (.ref (ec k)) (some d) H'
theorem pmk_err {X : Cx} {ec : Er → Addr} {x : Str} {p pos : Pos} {e : Expr} {es : List Expr} {ta : TA} {j : Nat} (T : ErrT X.prog X.w X.K X.mg X.base ec) (k : Er) (hr : Room j X.A) (ha : PA X (e :: es) ta) (hj : 2 ≤ j := by first | decide | omega) (hg : Gl X x := by rfl)
    (hx : k.nm = x := by rfl) (hd : (x == ("__debug__" : Str)) = false := by decide) (hs : starEach (e :: es) X.env = (false, eval e X.env) :: starEach es X.env := by rfl) (hpl : (backTo pos (starEach es X.env)).any (·.1) = false := by rfl) :
    PMk X (.Call (.Name x p) (e :: es) [] pos) (tMkO (ec k) (spInitE X.K) [] ta) := by
  obtain ⟨fI, fd, iC, tI, hb, F⟩ := T.ini
  have hm : X.mg x = some (.ref (ec k)) := by rw [← hx]; exact T.gl k
  exact pmk_oex (X := X) (p := p) (pos := pos) (T.oex k) (iC k) tI (ok_SourceError___init__ (P := X.prog) (w := X.w) (mg := X.mg) (base := X.base) F) (hr.mono (j := 2) hj) hb .nil pass0 hg hm ha hd hs hpl
theorem rz_mk {P : Program} {w : World} {K : PySem.W.Frag} {mg : Str → Option Value} {base : Heap} {ec : Er → Addr} {k : Er} {l c : Int} {H : Hp} {Q : XK} (T : ErrT P w K mg base ec) (h : Rz ec k l c H Q) :
    [V.int l, V.int c].length ≤ 1000 ∧ ∀ a, H a = none → spInitE K (.ref a :: ([V.int l, V.int c] ++ [])) (upd H a (exo a (ec k) none))
      (fun v H2 => v = .non ∧ ∃ (d : Addr) (fs : List (Str × V)), H2 a = some (exo a (ec k) (some d)) ∧ H2 d = some (exd d fs) ∧ H d = none ∧ Q (.ref (ec k)) (some d) (upd (del H2 a) d (.xd fs))) (fun _ _ _ => False) := by
  refine ⟨by show 2 ≤ 1000; decide, fun a na => ⟨a, ec k, l, c, rfl, upd_same, T.oex k, T.nl k, T.nc k, fun d H' hd ne h1 h2 h3 => ⟨rfl, d, _, h2, h1, ?_, ?_⟩⟩⟩
  · rw [upd_ne ne] at hd; exact hd
  · rw [upd_ne ne] at hd
    refine h d _ (fun b u e => ?_) hd upd_same
    have nb : b ≠ a := ne_of_none e na
    have nd : b ≠ d := ne_of_none e hd
    rw [upd_ne nd, del_ne nb, h3 b nb nd, upd_ne nb]
    exact e
end D0
namespace D0
open PySem PySem.Spec PyProof.Rows L2 SX
def KW : List (List Nat) := [[97, 110, 100], [97, 115], [98, 114, 101, 97, 107], [99, 108, 97, 115, 115], [99, 111, 110, 116, 105, 110, 117, 101], [100, 101, 102], [100, 101, 108], [101, 108, 105, 102], [101, 108, 115, 101], [101, 120, 99, 101, 112, 116], [70, 97, 108, 115, 101], [102, 105, 110, 97, 108, 108, 121], [102, 111, 114], [102, 114, 111, 109], [103, 108, 111, 98, 97, 108], [105, 102], [105, 110], [105, 115], [108, 97, 109, 98, 100, 97], [109, 111, 100], [78, 111, 110, 101], [110, 111, 110, 108, 111, 99, 97, 108], [110, 111, 116], [111, 114], [112, 97, 115, 115], [114, 97, 105, 115, 101], [114, 101, 116, 117, 114, 110], [84, 114, 117, 101], [116, 114, 121], [119, 104, 105, 108, 101], [119, 105, 116, 104], [121, 105, 101, 108, 100]]
def SG : List (List Nat) := [[47, 47, 61], [43, 61], [45, 61], [42, 61], [47, 47], [61, 61], [33, 61], [60, 61], [62, 61], [60], [62], [61], [43], [45], [42], [40], [41], [91], [93], [123], [125], [44], [58], [46]]
def escV : List Nat → Option (List Nat)
  | [110] => some [10] | [92] => some [92] | [39] => some [39] | [34] => some [34] | _ => none
def cloV : List Nat → Option (List Nat)
  | [41] => some [40] | [93] => some [91] | [125] => some [123] | _ => none
def OPN : List (List Nat) := [[40], [91], [123]]
/-- the written dict named x answers as f -/
def DictT (K : PySem.W.Frag) (w : World) (mg : Str → Option Value) (x : Str) (f : List Nat → Option (List Nat)) : Prop :=
  ∃ (d : Addr) (es : Array DictEntry) (n : Nat), mg x = some (.ref d) ∧ KDict K w d es n ∧ ∀ l : List Nat, ∃ r, PySem.W.nsIn K d (S l) = some r ∧ r.isSome = (f l).isSome ∧ ∀ m, f l = some m → ∃ u0, r = some u0 ∧ RelV (.str (S m)) u0
def TupT (K : PySem.W.Frag) (mg : Str → Option Value) (x : Str) (ls : List (List Nat)) : Prop := ∃ a, mg x = some (.ref a) ∧ ∀ H, SqT K H a (ls.map fun l => .str (S l))
/-- THE TEXT -/
structure Txt (K : PySem.W.Frag) (w : World) (mg : Str → Option Value) : Prop where
  z_bool : mg "bool" = none
  z_enumerate : mg "enumerate" = none
  z_int : mg "int" = none
  z_isinstance : mg "isinstance" = none
  z_len : mg "len" = none
  z_list : mg "list" = none
  z_ord : mg "ord" = none
  z_range : mg "range" = none
  z_reversed : mg "reversed" = none
  z_str : mg "str" = none
  z_tuple : mg "tuple" = none
  g_is_row : Gv K mg "is_row" s_is_row p_is_row
  g_is_letter : Gv K mg "is_letter" s_is_letter p_is_letter
  g_is_digit : Gv K mg "is_digit" s_is_digit p_is_digit
  g_digits_end : Gv K mg "digits_end" s_digits_end p_digits_end
  g_name_end : Gv K mg "name_end" s_name_end p_name_end
  g_quoted : Gv K mg "quoted" s_quoted p_quoted
  g_scan_token : Gv K mg "scan_token" s_scan_token p_scan_token
  g_scan_name : Gv K mg "scan_name" s_scan_name p_scan_name
  g_scan_number : Gv K mg "scan_number" s_scan_number p_scan_number
  g_scan_text : Gv K mg "scan_text" s_scan_text p_scan_text
  g_scan_sign : Gv K mg "scan_sign" s_scan_sign p_scan_sign
  g_tokens : Gv K mg "tokens" s_tokens p_tokens
  g_checked_rows : Gv K mg "checked_rows" s_checked_rows p_checked_rows
  g_check_letters : Gv K mg "check_letters" s_check_letters p_check_letters
  g_spaces_end : Gv K mg "spaces_end" s_spaces_end p_spaces_end
  g_layout : Gv K mg "layout" s_layout p_layout
  g_written : Gv K mg "written" s_written p_written
  g__law_bag : Gv K mg "_law_bag" s__law_bag p__law_bag
  g__law_take : Gv K mg "_law_take" s__law_take p__law_take
  g__law_whole : Gv K mg "_law_whole" s__law_whole p__law_whole
  g__law_signs : Gv K mg "_law_signs" s__law_signs p__law_signs
  g__law_keywords : Gv K mg "_law_keywords" s__law_keywords p__law_keywords
  g__law_letters : Gv K mg "_law_letters" s__law_letters p__law_letters
  g__law_allowed : Gv K mg "_law_allowed" s__law_allowed p__law_allowed
  g__law_name : Gv K mg "_law_name" s__law_name p__law_name
  g__law_figures : Gv K mg "_law_figures" s__law_figures p__law_figures
  g__law_quoted : Gv K mg "_law_quoted" s__law_quoted p__law_quoted
  g__law_word : Gv K mg "_law_word" s__law_word p__law_word
  g__law_comment : Gv K mg "_law_comment" s__law_comment p__law_comment
  g__law_must_part : Gv K mg "_law_must_part" s__law_must_part p__law_must_part
  g__law_put : Gv K mg "_law_put" s__law_put p__law_put
  g__law_close_row : Gv K mg "_law_close_row" s__law_close_row p__law_close_row
  g__law_row_end : Gv K mg "_law_row_end" s__law_row_end p__law_row_end
  g__law_lay : Gv K mg "_law_lay" s__law_lay p__law_lay
  g__law_broken : Gv K mg "_law_broken" s__law_broken p__law_broken
  g__law_line : Gv K mg "_law_line" s__law_line p__law_line
  g__law_margin : Gv K mg "_law_margin" s__law_margin p__law_margin
  g__law_tall : Gv K mg "_law_tall" s__law_tall p__law_tall
  g__law_page : Gv K mg "_law_page" s__law_page p__law_page
  g__law_written : Gv K mg "_law_written" s__law_written p__law_written
  g__law_laid : Gv K mg "_law_laid" s__law_laid p__law_laid
  g__law_replaced : Gv K mg "_law_replaced" s__law_replaced p__law_replaced
  g__law_is_tokens : Gv K mg "_law_is_tokens" s__law_is_tokens p__law_is_tokens
  g__law_is_too_long : Gv K mg "_law_is_too_long" s__law_is_too_long p__law_is_too_long
  g_law : Gv K mg "law" s_law p_law
  c_PERCENT : ∃ t, mg "PERCENT" = some (.int 37 t)
  c_NAME_LIMIT : ∃ t, mg "NAME_LIMIT" = some (.int 30 t)
  c_NUMBER_LIMIT : ∃ t, mg "NUMBER_LIMIT" = some (.int 40 t)
  c_TEXT_LIMIT : ∃ t, mg "TEXT_LIMIT" = some (.int 6000 t)
  c_ROW_LIMIT : ∃ t, mg "ROW_LIMIT" = some (.int 120 t)
  c_TOKEN_LIMIT : ∃ t, mg "TOKEN_LIMIT" = some (.int 120 t)
  c_INDENT_LIMIT : ∃ t, mg "INDENT_LIMIT" = some (.int 11 t)
  c_KEYWORDS : TupT K mg "KEYWORDS" KW
  c_SIGNS : TupT K mg "SIGNS" SG
  c_OPENING : TupT K mg "OPENING" OPN
  c_ESCAPES : DictT K w mg "ESCAPES" escV
  c_CLOSING : DictT K w mg "CLOSING" cloV
/-- the class Scanner at C -/
structure ScT (K : PySem.W.Frag) (mg : Str → Option Value) (C : Addr) : Prop where
  cl : Cls K C
  gl : mg "Scanner" = some (.ref C)
  n_marks : NoAttr K C "marks"
  n_brackets : NoAttr K C "brackets"
  n_indents : NoAttr K C "indents"
  n_many : NoAttr K C "many"
  n_behind : NoAttr K C "behind"
  ini : ∃ fI fd, Mk K C fI ∧ Binds K fd p_Scanner___init__ [] ∧ Fun K "__init__" "Scanner.__init__" s_Scanner___init__ fI fd
  g_scan_row : Gvm K C "scan_row" "Scanner.scan_row" s_Scanner_scan_row p_Scanner_scan_row
  g_begin_line : Gvm K C "begin_line" "Scanner.begin_line" s_Scanner_begin_line p_Scanner_begin_line
  g_gather : Gvm K C "gather" "Scanner.gather" s_Scanner_gather p_Scanner_gather
  g_match_bracket : Gvm K C "match_bracket" "Scanner.match_bracket" s_Scanner_match_bracket p_Scanner_match_bracket
  g_end_line : Gvm K C "end_line" "Scanner.end_line" s_Scanner_end_line p_Scanner_end_line
  g_end_text : Gvm K C "end_text" "Scanner.end_text" s_Scanner_end_text p_Scanner_end_text
end D0
namespace D0
open PySem PySem.Spec PyProof.Rows L2 SX
def isDig (c : Nat) : Bool := decide (48 ≤ c ∧ c ≤ 57)
def spIsDigit : Sp := fun vs H Q _ => ∃ l : List Nat, vs = [.str (S l)] ∧ l.length ≤ 1 ∧ Q (.bl (l.any isDig)) H
/-- texts of the program are below this -/
abbrev big : Nat := 1000000
theorem big_line {n : Nat} (h : n ≤ big) : n ≤ sizeLine := by
  have : big ≤ sizeLine := by decide
  omega
theorem S_line {l : List Nat} (h : l.length ≤ big) : (S l).length ≤ sizeLine := by rw [S_len]; exact big_line h
def spDigitsEnd : Sp := fun vs H Q _ => ∃ (l : List Nat) (i : Nat), vs = [.str (S l), .int i] ∧ l.length ≤ big ∧ i ≤ l.length ∧ Q (.int ((i + ((l.drop i).takeWhile isDig).length : Nat) : Int)) H
theorem at_S {l : List Nat} {i : Nat} {c : Nat} (h : l[i]? = some c) : atI (S l).cps.toList (i : Int) = some c := by
  exact atI_nat h
theorem lex1 (a b : Nat) : decide ([a] < [b]) = decide (a < b) := by
  by_cases h : a < b
  · rw [decide_eq_true h]; exact decide_eq_true (List.Lex.rel h)
  · rw [decide_eq_false h]
    refine decide_eq_false fun z => ?_
    cases z with
    | rel r => exact h r
    | cons r => cases r
theorem tw_step {l : List Nat} {k c : Nat} (h : l[k]? = some c) (d : isDig c = true) : k + ((l.drop k).takeWhile isDig).length = (k + 1) + ((l.drop (k + 1)).takeWhile isDig).length := by
  obtain ⟨hk, e⟩ := List.getElem?_eq_some_iff.mp h
  rw [List.drop_eq_getElem_cons hk, e, List.takeWhile_cons, if_pos d, List.length_cons]
  omega
theorem tw_stop {l : List Nat} {k c : Nat} (h : l[k]? = some c) (d : isDig c = false) : ((l.drop k).takeWhile isDig).length = 0 := by
  obtain ⟨hk, e⟩ := List.getElem?_eq_some_iff.mp h
  rw [List.drop_eq_getElem_cons hk, e, List.takeWhile_cons, if_neg (by rw [d]; exact Bool.false_ne_true)]
  rfl
section
variable {P : Program} {w : World} {K : PySem.W.Frag} {mg : Str → Option Value} {base : Heap}
theorem ok_is_digit (G : Gv K mg "is_digit" s_is_digit p_is_digit) : OkD P w K mg base CX0 1 "is_digit" p_is_digit spIsDigit := by
  refine G.ok sc_is_digit (fun vs H Q E h => ?_) (fun f cdv A outer s H vs Q E hr h => ?_)
  · obtain ⟨l, rfl, _⟩ := h; rfl
  obtain ⟨l, rfl, hl, q⟩ := h
  refine ⟨_, pss_one (ps_ret (pe_chain op_le_str op_le_str pe_str (pv 0) pe_str)), ?_⟩
  have e0 : (Str.ofString "0").cps.toList = [48] := by decide +kernel
  have e9 : (Str.ofString "9").cps.toList = [57] := by decide +kernel
  refine ⟨_, rfl, _, _, rfl, rfl, _, rfl, ite2 (fun c => ?_) (fun c => ?_)⟩
  · refine ⟨_, _, rfl, rfl, ?_⟩
    show Q (.bl (!decide ((Str.ofString "9").cps.toList < (S l).cps.toList))) H
    rw [e9]
    rw [e0] at c
    match l, hl, c, q with
    | [], _, c, q => exact absurd c (by decide)
    | [x], _, c, q =>
      have c' : (!decide ([x] < [48])) = true := c
      rw [lex1] at c'
      show Q (.bl (!decide ([57] < [x]))) H
      rw [lex1]
      have e : (!decide (57 < x)) = [x].any isDig := by
        show _ = (isDig x || false)
        unfold isDig
        have : ¬ x < 48 := by simpa using c'
        by_cases h : x ≤ 57
        · have h2 : ¬ 57 < x := by omega
          simp [h, h2]; omega
        · have h2 : 57 < x := by omega
          simp [h, h2]
      rw [e]; exact q
  · show Q (.bl false) H
    rw [e0] at c
    match l, hl, c, q with
    | [], _, c, q => exact q
    | [x], _, c, q =>
      have c' : ¬ (!decide ([x] < [48])) = true := c
      rw [lex1] at c'
      have h : x < 48 := by simpa using c'
      have e : [x].any isDig = false := by
        show (isDig x || false) = false
        unfold isDig
        have : ¬ 48 ≤ x := by omega
        simp [this]
      rw [← e]; exact q
theorem ok_digits_end (G : Gv K mg "digits_end" s_digits_end p_digits_end) (O1 : OkD P w K mg base CX0 1 "is_digit" p_is_digit spIsDigit) (zlen : mg "len" = none) : OkD P w K mg base CX0 2 "digits_end" p_digits_end spDigitsEnd := by
  refine G.ok sc_digits_end (fun vs H Q E h => ?_) (fun f cdv A outer s H vs Q E hr h => ?_)
  · obtain ⟨l, i, rfl, _⟩ := h; rfl
  obtain ⟨l, i, rfl, hl, hi, q⟩ := h
  refine ⟨_, pss_cons (ps_set (i := 2) sc_digits_end.nd rfl (.inl rfl) (pv 1))
    (pss_cons (ps_while PassesOwn.never (PW.pt (pw_and (pt_cmpR op_lt (pv 2) (pe_callB call_len_str (by rfl) zlen PySem.boot_len (pa_cons (pv 0) pa_nil)) (nomark _)) (pw_and1 (pt_val (pcall O1 hr (pa_cons (pe_ix ix_str (pv 0) (pv 2) (fun _ _ => rfl)) pa_nil))))))
      (pss_one (ps_aug (i := 2) sc_digits_end.nd rfl (.inl rfl) pe_int ip_add)))
    (pss_one (ps_ret (pv 2)))), ?_⟩
  refine ⟨_, rfl, fun m σ H' => ∃ k : Nat, σ = [some (.str (S l)), some (.int i), some (.int k)] ∧ H' = H ∧ m = l.length - k ∧ k ≤ l.length ∧ i + ((l.drop i).takeWhile isDig).length = k + ((l.drop k).takeWhile isDig).length,
    ⟨_, i, rfl, rfl, rfl, hi, rfl⟩, ?_⟩
  rintro m σ H' ⟨k, rfl, rfl, rfl, hk, e⟩
  refine ⟨_, rfl, _, rfl, _, rfl, S_line hl, _, _, rfl, rfl, _, rfl, ite2 (fun c => ?_) (fun c => ?_)⟩
  · have c' : (k : Int) < ((S l).length : Int) := of_decide_eq_true c
    rw [S_len] at c'
    have hk' : k < l.length := by omega
    have g : l[k]? = some l[k] := List.getElem?_eq_getElem hk'
    refine ⟨_, rfl, _, rfl, S l, k, _, rfl, rfl, S_line hl, at_S g, [l[k]], rfl, Nat.le_refl 1, _, rfl, ite2 (fun d => ?_) (fun d => ?_)⟩
    · have d' : isDig l[k] = true := by simpa using d
      refine ⟨_, fun _ _ h => h, ?_⟩
      refine ⟨_, rfl, _, _, rfl, rfl, ?_⟩
      exact ⟨_, by omega, k + 1, rfl, rfl, rfl, by omega, by rw [e]; exact tw_step g d'⟩
    · have d' : isDig l[k] = false := by simpa using d
      refine ⟨_, rfl, ?_⟩
      rw [e, tw_stop g d'] at q
      exact q
  · have c' : ¬ (k : Int) < ((S l).length : Int) := of_decide_eq_false (Bool.eq_false_iff.mpr c)
    rw [S_len] at c'
    have hk' : k = l.length := by omega
    refine ⟨_, rfl, ?_⟩
    rw [e, hk', List.drop_length] at q
    rw [hk']
    exact q
end
end D0
namespace D0
open PySem PySem.Spec PyProof.Rows L2 SX
/-- a character that a row may hold -/
def rowc (c : Nat) : Bool := decide (32 ≤ c ∧ c ≤ 126 ∧ c ≠ 37)
theorem same_new {H : Hp} {p : Addr} (h : H p = none) (o : HO) : Same H (upd H p o) := fun b u q => by rw [upd_ne (ne_of_none q h)]; exact q
theorem tl_S (l : List Nat) : (S l).cps.toList = l := rfl
def spIsRow : Sp := fun vs H Q _ => ∃ l : List Nat, vs = [.str (S l)] ∧ l.length ≤ big ∧ ∀ H', Same H H' → Q (.bl (l.all rowc)) H'
theorem asc_S (l : List Nat) : Txt.isascii (S l) = l.all (fun c => decide (c < 128)) := by
  show (S l).cps.all _ = _
  rw [← Array.all_toList]
theorem pri_S (l : List Nat) : Txt.isprintable (S l) = l.all Unicode.isPrintable := by
  show (S l).cps.all _ = _
  rw [← Array.all_toList]
theorem pri_lt {c : Nat} (h : c < 128) : Unicode.isPrintable c = decide (32 ≤ c ∧ c ≤ 126) := by
  have z : ∀ c, c < 128 → Unicode.isPrintable c = decide (32 ≤ c ∧ c ≤ 126) := by decide +kernel
  exact z c h
theorem row_no1 {l : List Nat} (h : l.all (fun c => decide (c < 128)) = false) : l.all rowc = false := by
  cases e : l.all rowc with
  | false => rfl
  | true =>
    rw [List.all_eq_true] at e
    have : l.all (fun c => decide (c < 128)) = true := List.all_eq_true.mpr fun c hc => by
      have := e c hc
      unfold rowc at this
      have := of_decide_eq_true this
      exact decide_eq_true (by omega)
    rw [this] at h; cases h
theorem row_no2 {l : List Nat} (h0 : l.all (fun c => decide (c < 128)) = true) (h : l.all Unicode.isPrintable = false) : l.all rowc = false := by
  cases e : l.all rowc with
  | false => rfl
  | true =>
    rw [List.all_eq_true] at e h0
    have : l.all Unicode.isPrintable = true := List.all_eq_true.mpr fun c hc => by
      have h1 := e c hc
      unfold rowc at h1
      have h1 := of_decide_eq_true h1
      rw [pri_lt (by omega)]
      exact decide_eq_true ⟨h1.1, h1.2.1⟩
    rw [this] at h; cases h
theorem row_in {l : List Nat} (h0 : l.all (fun c => decide (c < 128)) = true) (h : l.all Unicode.isPrintable = true) : l.all rowc = !inV (.int 37) (l.map fun c => V.int (c : Nat)) := by
  rw [List.all_eq_true] at h0 h
  have e : inV (.int 37) (l.map fun c => V.int (c : Nat)) = l.any (fun c => c == 37) := by
    unfold inV
    rw [List.any_map]
    congr 1
    funext c
    show decide ((c : Int) = 37) = _
    by_cases z : c = 37
    · subst z; rfl
    · have z2 : ¬ (c : Int) = 37 := by omega
      rw [decide_eq_false z2]; exact (beq_eq_false_iff_ne.mpr z).symm
  rw [e, List.not_any_eq_all_not]
  rw [Bool.eq_iff_iff, List.all_eq_true, List.all_eq_true]
  constructor
  · intro k c hc
    have k1 := of_decide_eq_true (show decide _ = true from k c hc)
    simp; omega
  · intro k c hc
    have k1 : ¬ c = 37 := by simpa using k c hc
    have h1 := h c hc
    rw [pri_lt (of_decide_eq_true (h0 c hc))] at h1
    have h2 := of_decide_eq_true h1
    exact decide_eq_true ⟨h2.1, h2.2, k1⟩
section
variable {P : Program} {w : World} {K : PySem.W.Frag} {mg : Str → Option Value} {base : Heap}
theorem ok_is_row (G : Gv K mg "is_row" s_is_row p_is_row) (zord : mg "ord" = none) (gP : ∃ t, mg "PERCENT" = some (.int 37 t)) : OkD P w K mg base CX0 1 "is_row" p_is_row spIsRow := by
  refine G.ok sc_is_row (fun vs H Q E h => ?_) (fun f cdv A outer s H vs Q E hr h => ?_)
  · obtain ⟨l, rfl, _⟩ := h; rfl
  obtain ⟨l, rfl, hl, q⟩ := h
  refine ⟨_, pss_cons (ps_if (PW.pt (pw_or (pt_not (pt_val (pe_bm0 PySem.F.plainAttrs_str PySem.F.slot_str_isascii PySem.F.type_str_isascii mt_isascii (pv 0))))
      (pw_or1 (pt_not (pt_val (pe_bm0 PySem.F.plainAttrs_str PySem.F.slot_str_isprintable PySem.F.type_str_isprintable mt_isprintable (pv 0)))))))
      (pss_one (ps_ret pe_bl)) pss_nil)
    (pss_one (ps_ret (pe_cmpR op_notIn_seq (pe_gI gP)
      (pe_lc (own := [("sign", 1)]) (g := gName 1) (tt := tYes) rfl sc_is_row.nd (pi_str (pv 0)) (blkOk_by (own := [("sign", 1)]) (N := n_is_row) (sc := defScope s_is_row) (by decide +kernel))
        (fun _ _ _ _ _ => pg_name (i := 1) sc_is_row.nd rfl (Or.inl rfl)) (fun _ _ _ _ _ => pts_nil) (fun _ _ _ _ _ => pe_callB call_ord (by rfl) zord (by decide +kernel) (pa_cons (pv 1) pa_nil))) (by rfl)))), ?_⟩
  refine ⟨_, rfl, rfl, _, rfl, rfl, trivial, _, rfl, ?_⟩
  rw [asc_S]
  cases ha : l.all (fun c => decide (c < 128)) with
  | false =>
    refine iteT (iteT ?_)
    have := q H (Same.refl H)
    rw [row_no1 ha] at this
    exact this
  | true =>
    refine iteF ⟨_, rfl, rfl, _, rfl, rfl, trivial, _, rfl, ?_⟩
    rw [pri_S]
    cases hp : l.all Unicode.isPrintable with
    | false =>
      refine iteT ?_
      have := q H (Same.refl H)
      rw [row_no2 ha hp] at this
      exact this
    | true =>
      refine iteF ?_
      refine ⟨_, rfl, S l, rfl, fun D hD => ?_⟩
      refine lc_it walk_str (fun i H' => Same H H' ∧ H' D = some (.lst ((l.take i).map fun c => V.int (c : Nat)))) ⟨same_new hD _, upd_same⟩ (fun _ _ _ _ => trivial) ?_ ?_
      · rintro i x H1 H2 hi ⟨sm, hl1⟩ ⟨rfl, c, hc, rfl⟩
        have hc' : l[i]? = some c := by simpa using hc
        refine ⟨rfl, iteT (B := True) (iteT ?_)⟩
        refine ⟨_, rfl, ⟨#[c]⟩, rfl, rfl, _, hl1, ?_, ?_, ?_⟩
        · rw [List.length_map, List.length_take]
          have : big < sizeLine := by decide
          omega
        · intro b o e
          rw [upd_ne (ne_of_none e hD)]
          exact sm _ _ e
        · rw [upd_same, List.take_add_one, hc', List.map_append]
          rfl
      · rintro H1 ⟨sm, hl1⟩
        have e : l.take (S l).cps.size = l := List.take_of_length_le (by simp)
        rw [e] at hl1
        refine ⟨D, _, rfl, .inl (SqL.of hl1), rfl, ?_, ?_⟩
        · rw [List.all_map]; exact List.all_eq_true.mpr fun _ _ => rfl
        · have := q H1 sm
          rw [row_in ha hp] at this
          exact this
end
end D0
namespace D0
open PySem PySem.Spec PyProof.Rows L2 SX
theorem PE.of {X : Cx} {e : Expr} {t t' : TE} (h : PE X e t) (f : ∀ σ H Q, t' σ H Q → t σ H Q) : PE X e t' := ⟨fun pins s σ H Q I q => h.run pins s σ H Q I (f σ H Q q)⟩
def letc (c : Nat) : Bool := decide (97 ≤ c ∧ c ≤ 122) || decide (65 ≤ c ∧ c ≤ 90) || c == 95
def spIsLetter : Sp := fun vs H Q _ => ∃ l : List Nat, vs = [.str (S l)] ∧ l.length ≤ 1 ∧ Q (.bl (l.any letc)) H
theorem le_of {a b : Str} {x y : Nat} {l : List Nat} (ea : a.cps.toList = [x]) (eb : b.cps.toList = [y]) (hl : l.length ≤ 1) :
    (if (!decide ((S l).cps.toList < a.cps.toList)) = true then (!decide (b.cps.toList < (S l).cps.toList)) else false) = l.any fun c => decide (x ≤ c ∧ c ≤ y) := by
  rw [ea, eb]
  show (if (!decide (l < [x])) = true then (!decide ([y] < l)) else false) = _
  match l, hl with
  | [], _ => rfl
  | [c], _ =>
    rw [lex1, lex1]
    show _ = (decide (x ≤ c ∧ c ≤ y) || false)
    by_cases h1 : c < x <;> by_cases h2 : y < c <;> simp [h1, h2] <;> omega
def tBtw (i x y : Nat) : TE := fun σ H Q => ∃ l : List Nat, σ[i]? = some (some (.str (S l))) ∧ l.length ≤ 1 ∧ Q (.bl (l.any fun c => decide (x ≤ c ∧ c ≤ y))) H
theorem ch_of {a b : Str} {x y : Nat} {l : List Nat} {H : Hp} {Q : VK} (ea : a.cps.toList = [x]) (eb : b.cps.toList = [y]) (hl : l.length ≤ 1) (q : Q (.bl (l.any fun c => decide (x ≤ c ∧ c ≤ y))) H) :
    if (!decide ((S l).cps.toList < a.cps.toList)) = true then Q (.bl (!decide (b.cps.toList < (S l).cps.toList))) H else Q (.bl false) H := by
  rw [← le_of ea eb hl] at q
  by_cases c : (!decide ((S l).cps.toList < a.cps.toList)) = true
  · rw [if_pos c] at q ⊢; exact q
  · rw [if_neg c] at q ⊢; exact q
section
variable {P : Program} {w : World} {K : PySem.W.Frag} {mg : Str → Option Value} {base : Heap}
theorem ok_is_letter (G : Gv K mg "is_letter" s_is_letter p_is_letter) : OkD P w K mg base CX0 1 "is_letter" p_is_letter spIsLetter := by
  refine G.ok sc_is_letter (fun vs H Q E h => ?_) (fun f cdv A outer s H vs Q E hr h => ?_)
  · obtain ⟨l, rfl, _⟩ := h; rfl
  obtain ⟨l, rfl, hl, q⟩ := h
  have ea : (Str.ofString "a").cps.toList = [97] ∧ (Str.ofString "z").cps.toList = [122] ∧ (Str.ofString "A").cps.toList = [65] ∧ (Str.ofString "Z").cps.toList = [90] ∧ Str.ofString "_" = S [95] := by decide +kernel
  refine ⟨_, pss_one (ps_ret (pe_or (PE.of (t' := tBtw 0 97 122) (pe_chain op_le_str op_le_str pe_str (pv 0) pe_str) ?a1) (pe_or (PE.of (t' := tBtw 0 65 90) (pe_chain op_le_str op_le_str pe_str (pv 0) pe_str) ?a2) (pe_one (pe_cmpR op_eq (pv 0) pe_str (nomark _)))))), ?_⟩
  case a1 =>
    intro σ H Q ⟨l, e, hl, q⟩
    refine ⟨_, e, _, _, rfl, rfl, _, rfl, ?_⟩
    have := ch_of ea.1 ea.2.1 hl q
    refine ite2 (fun c => ⟨_, _, rfl, rfl, ?_⟩) (fun c => ?_)
    · rw [if_pos c] at this; exact this
    · rw [if_neg c] at this; exact this
  case a2 =>
    intro σ H Q ⟨l, e, hl, q⟩
    refine ⟨_, e, _, _, rfl, rfl, _, rfl, ?_⟩
    have := ch_of ea.2.2.1 ea.2.2.2.1 hl q
    refine ite2 (fun c => ⟨_, _, rfl, rfl, ?_⟩) (fun c => ?_)
    · rw [if_pos c] at this; exact this
    · rw [if_neg c] at this; exact this
  have eq : l.any letc = (l.any (fun c => decide (97 ≤ c ∧ c ≤ 122)) || (l.any (fun c => decide (65 ≤ c ∧ c ≤ 90)) || decide (V.str (S l) = V.str (Str.ofString "_")))) := by
    rw [ea.2.2.2.2]
    match l, hl with
    | [], _ => rfl
    | [c], _ =>
      have e2 : decide (V.str (S [c]) = V.str (S [95])) = (c == 95) := by
        by_cases h : c = 95
        · subst h; rw [decide_eq_true rfl]; rfl
        · rw [decide_eq_false (fun z => h (by have := S_inj (V.str.inj z); simpa using this))]; exact (beq_eq_false_iff_ne.mpr h).symm
      rw [e2]
      simp [letc, Bool.or_assoc]
  refine ⟨l, rfl, hl, _, rfl, ite2 (fun c => ?_) (fun c => ?_)⟩
  · rw [eq, c, Bool.true_or] at q; exact q
  · rw [eq, Bool.eq_false_iff.mpr c, Bool.false_or] at q
    refine ⟨l, rfl, hl, _, rfl, ite2 (fun c2 => ?_) (fun c2 => ?_)⟩
    · rw [c2, Bool.true_or] at q; exact q
    · rw [Bool.eq_false_iff.mpr c2, Bool.false_or] at q
      exact ⟨_, rfl, rfl, q⟩
def namc (c : Nat) : Bool := letc c || isDig c
def twl (f : Nat → Bool) (l : List Nat) (i : Nat) : Nat := i + ((l.drop i).takeWhile f).length
theorem twl_step {f : Nat → Bool} {l : List Nat} {k c : Nat} (h : l[k]? = some c) (d : f c = true) : twl f l k = twl f l (k + 1) := by
  obtain ⟨hk, e⟩ := List.getElem?_eq_some_iff.mp h
  unfold twl
  rw [List.drop_eq_getElem_cons hk, e, List.takeWhile_cons, if_pos d, List.length_cons]
  omega
theorem twl_stop {f : Nat → Bool} {l : List Nat} {k c : Nat} (h : l[k]? = some c) (d : f c = false) : twl f l k = k := by
  obtain ⟨hk, e⟩ := List.getElem?_eq_some_iff.mp h
  unfold twl
  rw [List.drop_eq_getElem_cons hk, e, List.takeWhile_cons, if_neg (by rw [d]; exact Bool.false_ne_true)]
  rfl
theorem twl_end {f : Nat → Bool} {l : List Nat} : twl f l l.length = l.length := by unfold twl; rw [List.drop_length]; rfl
theorem twl_le {f : Nat → Bool} {l : List Nat} {i : Nat} (h : i ≤ l.length) : twl f l i ≤ l.length := by
  unfold twl
  have := (List.takeWhile_prefix (p := f) (l := l.drop i)).length_le
  rw [List.length_drop] at this; omega
def spEnd (f : Nat → Bool) : Sp := fun vs H Q _ => ∃ (l : List Nat) (i : Nat), vs = [.str (S l), .int i] ∧ l.length ≤ big ∧ i ≤ l.length ∧ Q (.int ((twl f l i : Nat) : Int)) H
theorem ok_name_end (G : Gv K mg "name_end" s_name_end p_name_end) (O1 : OkD P w K mg base CX0 1 "is_digit" p_is_digit spIsDigit) (O2 : OkD P w K mg base CX0 1 "is_letter" p_is_letter spIsLetter) (zlen : mg "len" = none) : OkD P w K mg base CX0 2 "name_end" p_name_end (spEnd namc) := by
  refine G.ok sc_name_end (fun vs H Q E h => ?_) (fun f cdv A outer s H vs Q E hr h => ?_)
  · obtain ⟨l, i, rfl, _⟩ := h; rfl
  obtain ⟨l, i, rfl, hl, hi, q⟩ := h
  refine ⟨_, pss_cons (ps_set (i := 2) sc_name_end.nd rfl (.inl rfl) (pv 1))
    (pss_cons (ps_while PassesOwn.never (PW.pt (pw_and (pt_cmpR op_lt (pv 2) (pe_callB call_len_str (by rfl) zlen PySem.boot_len (pa_cons (pv 0) pa_nil)) (nomark _)) (pw_and1 (PW.pt (pw_or (pt_val (pcall O2 hr (pa_cons (pe_ix ix_str (pv 0) (pv 2) (fun _ _ => rfl)) pa_nil))) (pw_or1 (pt_val (pcall O1 hr (pa_cons (pe_ix ix_str (pv 0) (pv 2) (fun _ _ => rfl)) pa_nil)))))))))
      (pss_one (ps_aug (i := 2) sc_name_end.nd rfl (.inl rfl) pe_int ip_add)))
    (pss_one (ps_ret (pv 2)))), ?_⟩
  refine ⟨_, rfl, fun m σ H' => ∃ k : Nat, σ = [some (.str (S l)), some (.int i), some (.int k)] ∧ H' = H ∧ m = l.length - k ∧ k ≤ l.length ∧ twl namc l i = twl namc l k,
    ⟨_, i, rfl, rfl, rfl, hi, rfl⟩, ?_⟩
  rintro m σ H' ⟨k, rfl, rfl, rfl, hk, e⟩
  refine ⟨_, rfl, _, rfl, _, rfl, S_line hl, _, _, rfl, rfl, _, rfl, ite2 (fun c => ?_) (fun c => ?_)⟩
  · have c' : (k : Int) < ((S l).length : Int) := of_decide_eq_true c
    rw [S_len] at c'
    have hk' : k < l.length := by omega
    have g : l[k]? = some l[k] := List.getElem?_eq_getElem hk'
    have stop : namc l[k] = false → Q (.int ((k : Nat) : Int)) H' := fun d => by rw [e, twl_stop g d] at q; exact q
    have go : namc l[k] = true → twl namc l i = twl namc l (k + 1) := fun d => by rw [e]; exact twl_step g d
    refine ⟨_, rfl, _, rfl, S l, k, _, rfl, rfl, S_line hl, at_S g, [l[k]], rfl, Nat.le_refl 1, _, rfl, ite2 (fun d => ?_) (fun d => ?_)⟩
    · have d' : letc l[k] = true := by simpa using d
      refine ⟨_, fun _ _ h => h, ?_⟩
      exact ⟨_, rfl, _, _, rfl, rfl, _, by omega, k + 1, rfl, rfl, rfl, by omega, go (by unfold namc; rw [d']; rfl)⟩
    · have d' : letc l[k] = false := by simpa using d
      refine ⟨_, rfl, _, rfl, S l, k, _, rfl, rfl, S_line hl, at_S g, [l[k]], rfl, Nat.le_refl 1, _, rfl, ite2 (fun d2 => ?_) (fun d2 => ?_)⟩
      · have d2' : isDig l[k] = true := by simpa using d2
        refine ⟨_, fun _ _ h => h, ?_⟩
        exact ⟨_, rfl, _, _, rfl, rfl, _, by omega, k + 1, rfl, rfl, rfl, by omega, go (by unfold namc; rw [d', d2']; rfl)⟩
      · have d2' : isDig l[k] = false := by simpa using d2
        exact ⟨_, rfl, stop (by unfold namc; rw [d', d2']; rfl)⟩
  · have c' : ¬ (k : Int) < ((S l).length : Int) := of_decide_eq_false (Bool.eq_false_iff.mpr c)
    rw [S_len] at c'
    have hk' : k = l.length := by omega
    refine ⟨_, rfl, ?_⟩
    rw [e, hk', twl_end] at q
    rw [hk']
    exact q
def spc (c : Nat) : Bool := c == 32
theorem ok_spaces_end (G : Gv K mg "spaces_end" s_spaces_end p_spaces_end) (zlen : mg "len" = none) : OkD P w K mg base CX0 1 "spaces_end" p_spaces_end (spEnd spc) := by
  refine G.ok sc_spaces_end (fun vs H Q E h => ?_) (fun f cdv A outer s H vs Q E hr h => ?_)
  · obtain ⟨l, i, rfl, _⟩ := h; rfl
  obtain ⟨l, i, rfl, hl, hi, q⟩ := h
  refine ⟨_, pss_cons (ps_set (i := 2) sc_spaces_end.nd rfl (.inl rfl) (pv 1))
    (pss_cons (ps_while PassesOwn.never (PW.pt (pw_and (pt_cmpR op_lt (pv 2) (pe_callB call_len_str (by rfl) zlen PySem.boot_len (pa_cons (pv 0) pa_nil)) (nomark _)) (pw_and1 (pt_cmpR op_eq (pe_ix ix_str (pv 0) (pv 2) (fun _ _ => rfl)) pe_str (nomark _)))))
      (pss_one (ps_aug (i := 2) sc_spaces_end.nd rfl (.inl rfl) pe_int ip_add)))
    (pss_one (ps_ret (pv 2)))), ?_⟩
  refine ⟨_, rfl, fun m σ H' => ∃ k : Nat, σ = [some (.str (S l)), some (.int i), some (.int k)] ∧ H' = H ∧ m = l.length - k ∧ k ≤ l.length ∧ twl spc l i = twl spc l k,
    ⟨_, i, rfl, rfl, rfl, hi, rfl⟩, ?_⟩
  rintro m σ H' ⟨k, rfl, rfl, rfl, hk, e⟩
  refine ⟨_, rfl, _, rfl, _, rfl, S_line hl, _, _, rfl, rfl, _, rfl, ite2 (fun c => ?_) (fun c => ?_)⟩
  · have c' : (k : Int) < ((S l).length : Int) := of_decide_eq_true c
    rw [S_len] at c'
    have hk' : k < l.length := by omega
    have g : l[k]? = some l[k] := List.getElem?_eq_getElem hk'
    have e1 : decide (V.str ⟨#[l[k]]⟩ = V.str (Str.ofString " ")) = spc l[k] := by
      have z : Str.ofString " " = S [32] := by decide +kernel
      rw [z]
      unfold spc
      by_cases h : l[k] = 32
      · rw [h]; exact decide_eq_true rfl
      · rw [decide_eq_false (fun z => h (by have := S_inj (a := [l[k]]) (b := [32]) (V.str.inj z); simpa using this))]; exact (beq_eq_false_iff_ne.mpr h).symm
    refine ⟨_, rfl, _, rfl, S l, k, _, rfl, rfl, S_line hl, at_S g, rfl, _, rfl, ite2 (fun d => ?_) (fun d => ?_)⟩
    · rw [e1] at d
      refine ⟨_, fun _ _ h => h, ?_⟩
      exact ⟨_, rfl, _, _, rfl, rfl, _, by omega, k + 1, rfl, rfl, rfl, by omega, by rw [e]; exact twl_step g d⟩
    · rw [e1] at d
      refine ⟨_, rfl, ?_⟩
      rw [e, twl_stop g (Bool.eq_false_iff.mpr d)] at q
      exact q
  · have c' : ¬ (k : Int) < ((S l).length : Int) := of_decide_eq_false (Bool.eq_false_iff.mpr c)
    rw [S_len] at c'
    have hk' : k = l.length := by omega
    refine ⟨_, rfl, ?_⟩
    rw [e, hk', twl_end] at q
    rw [hk']
    exact q
end
end D0
namespace D0
open PySem PySem.Spec PyProof.Rows L2 SX NumText
theorem str_dec (a b : List Nat) : decide (V.str (S a) = V.str (S b)) = decide (a = b) := by
  by_cases h : a = b
  · subst h; rw [decide_eq_true rfl, decide_eq_true rfl]
  · rw [decide_eq_false h, decide_eq_false]
    intro z; exact h (S_inj (V.str.inj z))
theorem one_dec (a b : Nat) : decide (V.str (S [a]) = V.str (S [b])) = decide (a = b) := by
  rw [str_dec]
  by_cases h : a = b
  · subst h; rw [decide_eq_true rfl, decide_eq_true rfl]
  · rw [decide_eq_false h, decide_eq_false]; intro z; exact h (List.cons.inj z).1
theorem drop_min {α : Type} (l : List α) (a : Nat) : l.drop (min a l.length) = l.drop a := by
  by_cases h : a ≤ l.length
  · rw [Nat.min_eq_left h]
  · rw [Nat.min_eq_right (by omega), List.drop_length, List.drop_eq_nil_of_le (by omega)]
theorem cut_nn (l : List Nat) (a b : Nat) (h : a ≤ b) : cutS (S l) (some (a : Int)) (some (b : Int)) = S ((l.drop a).take (b - a)) := by
  unfold cutS
  rw [HT.sIx_nat, HT.sIx_nat, S_len]
  show S _ = S _
  congr 1
  show (l.drop (min a l.length)).take (min b l.length - min a l.length) = _
  rw [drop_min]
  by_cases hb : b ≤ l.length
  · rw [Nat.min_eq_left hb, Nat.min_eq_left (by omega)]
  · rw [List.take_of_length_le (by rw [List.length_drop]; omega), List.take_of_length_le (by rw [List.length_drop]; omega)]
theorem cut_n (l : List Nat) (a : Nat) : cutS (S l) (some (a : Int)) none = S (l.drop a) := by
  unfold cutS
  rw [HT.sIx_nat, HT.sIx_none, S_len]
  show S _ = S _
  congr 1
  show (l.drop (min a l.length)).take (l.length - min a l.length) = _
  rw [drop_min, List.take_of_length_le (by rw [List.length_drop]; omega)]
theorem cut_0 (l : List Nat) (b : Nat) : cutS (S l) none (some (b : Int)) = S (l.take b) := by
  unfold cutS
  rw [HT.sIx_nat, HT.sIx_none, S_len]
  show S _ = S _
  congr 1
  show (l.drop 0).take (min b l.length - 0) = _
  rw [List.drop_zero, Nat.sub_zero]
  by_cases hb : b ≤ l.length
  · rw [Nat.min_eq_left hb]
  · rw [List.take_of_length_le (by omega), List.take_of_length_le (by omega)]
/-- the sign at i, or nothing -/
def at1 (l : List Nat) (i : Nat) : List Nat := (l.drop i).take 1
theorem at1_cut (l : List Nat) (i : Nat) : cutS (S l) (some (i : Int)) (some ((i : Int) + 1)) = S (at1 l i) := by
  have := cut_nn l i (i + 1) (by omega)
  rw [Nat.add_sub_cancel_left] at this
  exact this
theorem at1_eq (l : List Nat) (i c : Nat) : decide (V.str (S (at1 l i)) = V.str (S [c])) = decide ((l.drop i).head? = some c) := by
  rw [str_dec]
  unfold at1
  cases h : l.drop i with
  | nil => rfl
  | cons a t =>
    show decide ([a] = [c]) = decide (some a = some c)
    by_cases e : a = c
    · subst e; rw [decide_eq_true rfl, decide_eq_true rfl]
    · rw [decide_eq_false (fun z => e (List.cons.inj z).1), decide_eq_false (fun z => e (Option.some.inj z))]
theorem split_at {X : Cx} {body : List Stmt} (n : Nat) {F : TS → Prop} (G : TS → Prop) (h1 : ∃ t, PSs X (body.drop n) t ∧ G t) (h2 : ∀ t, PSs X (body.drop n) t → G t → ∃ u, PSs X body u ∧ F u) : ∃ u, PSs X body u ∧ F u := by
  obtain ⟨t, a, b⟩ := h1
  exact h2 t a b
theorem int_dec {a b : Nat} : decide (V.int (a : Int) = V.int (b : Int)) = decide (a = b) := by
  by_cases h : a = b
  · subst h; rw [decide_eq_true rfl, decide_eq_true rfl]
  · rw [decide_eq_false h, decide_eq_false (fun z => h (by have := V.int.inj z; omega))]
theorem lt_dec {a b : Nat} : decide ((a : Int) < (b : Int)) = decide (a < b) := by
  by_cases h : a < b
  · rw [decide_eq_true h, decide_eq_true (by omega)]
  · rw [decide_eq_false h, decide_eq_false (by omega)]
theorem at1_nil {l : List Nat} {i : Nat} (h : l.drop i = []) : at1 l i = [] := by unfold at1; rw [h]; rfl
theorem at1_cons {l : List Nat} {i c : Nat} {t : List Nat} (h : l.drop i = c :: t) : at1 l i = [c] := by unfold at1; rw [h]; rfl
theorem drop_next {l : List Nat} {i c : Nat} {t : List Nat} (h : l.drop i = c :: t) : l.drop (i + 1) = t ∧ i < l.length := by
  have h1 : l.drop (i + 1) = (l.drop i).tail := by rw [List.tail_drop]
  refine ⟨by rw [h1, h]; rfl, ?_⟩
  have := congrArg List.length h
  rw [List.length_drop] at this
  simp at this; omega
theorem join_one (l : List Nat) : Txt.join (S []) (l.map fun c => S [c]) = S l := by
  have e : (l.map fun c => S [c]) = (l.map fun c => [c]).map S := by rw [List.map_map]; rfl
  rw [e, join_S]
  congr 1
  induction l with
  | nil => rfl
  | cons a t ih =>
    cases t with
    | nil => rfl
    | cons b r =>
      have ih := ih (by rw [List.map_map]; rfl)
      show [a] ++ ([] ++ TL.joinL [] ([b] :: r.map fun c => [c])) = a :: b :: r
      show a :: (TL.joinL [] ([b] :: r.map fun c => [c])) = a :: b :: r
      have ih' : TL.joinL [] ([b] :: r.map fun c => [c]) = b :: r := ih
      rw [ih']
end D0
namespace D0
open PySem PySem.Spec PyProof.Rows L2 SX NumText
theorem flat_strs : ∀ ls : List (List Nat), (ls.map fun l => V.str (S l)).all flatV = true
  | [] => rfl
  | a :: r => by rw [List.map_cons, List.all_cons, flat_strs r]; rfl
theorem in_strs (l : List Nat) : ∀ ls : List (List Nat), inV (.str (S l)) (ls.map fun l => V.str (S l)) = decide (l ∈ ls)
  | [] => rfl
  | a :: r => by
    have ih := in_strs l r
    unfold inV at ih ⊢
    rw [List.map_cons, List.any_cons, ih]
    have e : eqV (.str (S a)) (.str (S l)) = decide (l = a) := by
      show (S a == S l) = _
      rw [S_beq_eq]
      by_cases h : l = a
      · subst h; rfl
      · rw [decide_eq_false h, decide_eq_false (fun z => h z.symm)]
    rw [e]
    by_cases h : l = a <;> by_cases h2 : l ∈ r <;> simp [h, h2]
inductive Kd | name | keyword | number | text | sign | newline | indent | dedent | fin
def Kd.cp : Kd → List Nat
  | .name => [110, 97, 109, 101] | .keyword => [107, 101, 121, 119, 111, 114, 100] | .number => [110, 117, 109, 98, 101, 114] | .text => [116, 101, 120, 116] | .sign => [115, 105, 103, 110]
  | .newline => [110, 101, 119, 108, 105, 110, 101] | .indent => [105, 110, 100, 101, 110, 116] | .dedent => [100, 101, 100, 101, 110, 116] | .fin => [101, 110, 100]
inductive Wd | s (l : List Nat) | n (k : Nat)
def Wd.v : Wd → V
  | .s l => .str (S l)
  | .n k => .int (k : Nat)
abbrev Tr := Kd × Wd × Nat
def Tr.v (t : Tr) : List V := [.str (S t.1.cp), t.2.1.v, .int (t.2.2 : Nat)]
/-- what a scanner leaves: a new tuple, or the error BadToken at (ln, c) -/
def Outs (ec : Er → Addr) (ln : Int) (H : Hp) (Q : VK) (E : XK) : Except Nat Tr → Prop
  | .ok t => ∀ H' p, Same H H' → H' p = some (.tup (Tr.v t)) → Q (.ref p) H'
  | .error c => Rz ec .token ln (c : Nat) H E
def spScan (ec : Er → Addr) (f : List Nat → Nat → Except Nat Tr) (pre : List Nat → Nat → Prop) : Sp := fun vs H Q E => ∃ (l : List Nat) (i : Nat) (ln : Int), vs = [.str (S l), .int i, .int ln] ∧ l.length ≤ big ∧ i < l.length ∧ pre l i ∧ Outs ec ln H Q E (f l i)
def word (l : List Nat) (i j : Nat) : List Nat := (l.drop i).take (j - i)
def scanName (l : List Nat) (i : Nat) : Except Nat Tr :=
  if 30 < (word l i (twl namc l i)).length then .error (i + 1) else .ok (if word l i (twl namc l i) ∈ KW then .keyword else .name, .s (word l i (twl namc l i)), twl namc l i)
def numBad (l : List Nat) (i : Nat) : Bool :=
  decide (40 < (word l i (twl isDig l i)).length) || (decide (1 < (word l i (twl isDig l i)).length) && decide ((word l i (twl isDig l i)).head? = some 48)) || (decide (twl isDig l i < l.length) && ((l.drop (twl isDig l i)).take 1).any letc)
def scanNumber (l : List Nat) (i : Nat) : Except Nat Tr :=
  if numBad l i = true then .error (i + 1) else .ok (.number, .n (digitsVal (word l i (twl isDig l i))), twl isDig l i)
theorem three : 3 ≤ sizeLine := by decide
theorem tw_digits (l : List Nat) : AllDigits (l.takeWhile isDig) := fun c hc => by
  have : ∀ l : List Nat, ∀ c ∈ l.takeWhile isDig, isDig c = true := by
    intro l
    induction l with
    | nil => intro c h; cases h
    | cons a t ih =>
      intro c h
      rw [List.takeWhile_cons] at h
      cases ha : isDig a with
      | true => rw [ha, if_pos rfl] at h; rcases List.mem_cons.mp h with rfl | h; exact ha; exact ih c h
      | false => rw [ha] at h; cases h
  have := this l c hc
  unfold isDig at this
  exact of_decide_eq_true this
theorem word_tw {f : Nat → Bool} (l : List Nat) (i : Nat) : word l i (twl f l i) = (l.drop i).takeWhile f := by
  unfold word twl
  rw [Nat.add_sub_cancel_left]
  have h := List.takeWhile_append_dropWhile (p := f) (l := l.drop i)
  generalize (l.drop i).takeWhile f = a at *
  rw [← h, List.take_left' rfl]
theorem twl_ge {f : Nat → Bool} (l : List Nat) (i : Nat) : i ≤ twl f l i := Nat.le_add_right _ _
theorem iteD {b : Bool} {A B : Prop} (h1 : b = true → A) (h2 : b = false → B) : if b = true then A else B := by
  cases b with
  | true => rw [if_pos rfl]; exact h1 rfl
  | false => rw [if_neg Bool.false_ne_true]; exact h2 rfl
theorem iteT' {b : Bool} {A B : Prop} (h : b = true) (a : A) : if b = true then A else B := by rw [if_pos h]; exact a
theorem iteF' {b : Bool} {A B : Prop} (h : b = false) (a : B) : if b = true then A else B := by rw [if_neg (by rw [h]; exact Bool.false_ne_true)]; exact a
section
variable {P : Program} {w : World} {K : PySem.W.Frag} {mg : Str → Option Value} {base : Heap} {ec : Er → Addr}
theorem ok_scan_name (T : Txt K w mg) (ER : ErrT P w K mg base ec) (On : OkD P w K mg base CX0 2 "name_end" p_name_end (spEnd namc)) :
    OkD P w K mg base (L2.CX P w) 3 "scan_name" p_scan_name (spScan ec scanName fun _ _ => True) := by
  obtain ⟨kA, kG, kT⟩ := T.c_KEYWORDS
  refine T.g_scan_name.okX sc_scan_name (fun vs H Q E h => ?_) (fun f cdv A outer s H vs Q E hr h => ?_)
  · obtain ⟨l, i, ln, rfl, _⟩ := h; rfl
  obtain ⟨l, i, ln, rfl, hl, hi, _, q⟩ := h
  refine ⟨_, (pss_cons (ps_set (i := 3) sc_scan_name.nd rfl (.inl rfl) (pcall On hr (pa_cons (pv 0) (pa_cons (pv 1) pa_nil))))
      (pss_cons (ps_set (i := 4) sc_scan_name.nd rfl (.inl rfl) (pe_slice sl_str (pv 0) (po_some (pv 1)) (po_some (pv 3))))
      (pss_cons (ps_if (pt_cmpR op_gt (pe_callB call_len_str (by rfl) T.z_len PySem.boot_len (pa_cons (pv 4) pa_nil)) (pe_gI T.c_NAME_LIMIT) (nomark _)) (pss_one (ps_raise rfl (takes_of rfl rfl rfl rfl) (pmk_err ER .token hr (pa_cons (pv 2) (pa_cons (pe_op op_add (pv 1) pe_int) pa_nil))))) pss_nil)
      (pss_cons (ps_if (pt_cmpR op_in_seq (pv 4) (pe_glob (v := .ref kA) rfl kG rfl) (by rfl)) (pss_one (ps_ret (pe_tup (pa_cons pe_str (pa_cons (pv 4) (pa_cons (pv 3) pa_nil)))))) pss_nil)
      (pss_one (ps_ret (pe_tup (pa_cons pe_str (pa_cons (pv 4) (pa_cons (pv 3) pa_nil)))))))))), ?_⟩
  have zk : Str.ofString "keyword" = S (Kd.cp .keyword) ∧ Str.ofString "name" = S (Kd.cp .name) := by decide +kernel
  have hw : (word l i (twl namc l i)).length ≤ l.length := by unfold word; rw [List.length_take, List.length_drop]; omega
  refine ⟨_, rfl, _, rfl, l, i, rfl, hl, Nat.le_of_lt hi, ?_⟩
  refine ⟨_, rfl, _, rfl, _, rfl, _, rfl, _, rfl, S l, rfl, S_line hl, ?_⟩
  rw [cut_nn l i _ (twl_ge l i)]
  have e1 : decide ((30 : Int) < ((S (word l i (twl namc l i))).length : Int)) = decide (30 < (word l i (twl namc l i)).length) := by rw [S_len]; exact lt_dec (a := 30)
  refine ⟨_, rfl, _, rfl, (by have := S_line (l := word l i (twl namc l i)) (by omega); exact this), _, _, rfl, rfl, _, rfl, ?_⟩
  unfold scanName at q
  by_cases c : 30 < (word l i (twl namc l i)).length
  · rw [if_pos c] at q
    refine iteT' (e1.trans (decide_eq_true c)) ?_
    refine ⟨_, rfl, _, rfl, _, _, rfl, rfl, rz_mk ER q⟩
  rw [if_neg c] at q
  refine iteF' (e1.trans (decide_eq_false c)) ?_
  refine ⟨_, rfl, kA, _, rfl, .inr (kT _), rfl, flat_strs KW, _, rfl, ?_⟩
  have e2 := in_strs (word l i (twl namc l i)) KW
  by_cases c2 : word l i (twl namc l i) ∈ KW
  · rw [if_pos c2] at q
    refine iteT' (e2.trans (decide_eq_true c2)) ?_
    refine ⟨_, rfl, _, rfl, three, fun p hp => q _ p (same_new hp _) ?_⟩
    rw [upd_same, zk.1]; rfl
  · rw [if_neg c2] at q
    refine iteF' (e2.trans (decide_eq_false c2)) ?_
    refine ⟨_, rfl, _, rfl, three, fun p hp => q _ p (same_new hp _) ?_⟩
    rw [upd_same, zk.2]; rfl
end
end D0
namespace D0
open PySem PySem.Spec PyProof.Rows L2 SX NumText
section
variable {P : Program} {w : World} {K : PySem.W.Frag} {mg : Str → Option Value} {base : Heap} {ec : Er → Addr}
theorem ok_scan_number (T : Txt K w mg) (ER : ErrT P w K mg base ec) (Od : OkD P w K mg base CX0 2 "digits_end" p_digits_end spDigitsEnd) (Ol : OkD P w K mg base CX0 1 "is_letter" p_is_letter spIsLetter) :
    OkD P w K mg base (L2.CX P w) 3 "scan_number" p_scan_number (spScan ec scanNumber fun l i => ∃ c, l[i]? = some c ∧ isDig c = true) := by
  refine T.g_scan_number.okX sc_scan_number (fun vs H Q E h => ?_) (fun f cdv A outer s H vs Q E hr h => ?_)
  · obtain ⟨l, i, ln, rfl, _⟩ := h; rfl
  obtain ⟨l, i, ln, rfl, hl, hi, ⟨c0, hc0, hd0⟩, q⟩ := h
  have zk : Str.ofString "number" = S (Kd.cp .number) ∧ Str.ofString "0" = S [48] := by decide +kernel
  have hw : (word l i (twl isDig l i)).length ≤ l.length := by unfold word; rw [List.length_take, List.length_drop]; omega
  have hne : word l i (twl isDig l i) ≠ [] := by
    rw [word_tw]
    obtain ⟨hk, e⟩ := List.getElem?_eq_some_iff.mp hc0
    rw [List.drop_eq_getElem_cons hk, e, List.takeWhile_cons, if_pos hd0]
    exact fun z => by cases z
  have hdg : AllDigits (word l i (twl isDig l i)) := by rw [word_tw]; exact tw_digits _
  have hge := twl_ge (f := isDig) l i
  have hle := twl_le (f := isDig) (Nat.le_of_lt hi)
  unfold scanNumber at q
  generalize hW : word l i (twl isDig l i) = W at *
  generalize hJ : twl isDig l i = J at *
  have nb : numBad l i = (decide (40 < W.length) || (decide (1 < W.length) && decide (W.head? = some 48)) || (decide (J < l.length) && ((l.drop J).take 1).any letc)) := by unfold numBad; rw [hJ, hW]
  have e1 : decide ((1 : Int) < ((S W).length : Int)) = decide (1 < W.length) := by rw [S_len]; exact lt_dec (a := 1)
  have e2 : decide ((J : Int) < ((S l).length : Int)) = decide (J < l.length) := by rw [S_len]; exact lt_dec
  have e3 : decide ((40 : Int) < ((S W).length : Int)) = decide (40 < W.length) := by rw [S_len]; exact lt_dec (a := 40)
  refine split_at 4 (fun t => ∀ p g : Bool, p = (decide (1 < W.length) && decide (W.head? = some 48)) → g = (decide (J < l.length) && ((l.drop J).take 1).any letc) →
    t { nx := fun _ H' => Q .non H', rt := Q } [some (.str (S l)), some (.int i), some (.int ln), some (.int J), some (.str (S W)), some (.bl p), some (.bl g)] H) ?_ (fun t ht hg => ?_)
  · refine ⟨_, (pss_cons (ps_if (PW.pt (pw_or (pt_cmpR op_gt (pe_callB call_len_str (by rfl) T.z_len PySem.boot_len (pa_cons (pv 4) pa_nil)) (pe_gI T.c_NUMBER_LIMIT) (nomark _)) (pw_or (pt_val (pv 5)) (pw_or1 (pt_val (pv 6)))))) (pss_one (ps_raise rfl (takes_of rfl rfl rfl rfl) (pmk_err ER .token hr (pa_cons (pv 2) (pa_cons (pe_op op_add (pv 1) pe_int) pa_nil))))) pss_nil)
      (pss_one (ps_ret (pe_tup (pa_cons pe_str (pa_cons (pe_callTy call_int_str (by rfl) T.z_int PyProof.Rows.boot_int (pa_cons (pv 4) pa_nil)) (pa_cons (pv 3) pa_nil))))))), ?_⟩
    intro p g hp hg
    rw [nb, ← hp, ← hg] at q
    have bad : (if true = true then Except.error (i + 1) else Except.ok (Kd.number, Wd.n (digitsVal W), J) : Except Nat Tr) = .error (i + 1) := rfl
    refine ⟨_, rfl, _, rfl, (by have := S_line (l := W) (by omega); exact this), _, _, rfl, rfl, _, rfl, ?_⟩
    by_cases c1 : 40 < W.length
    · refine iteT' (e3.trans (decide_eq_true c1)) ?_
      rw [decide_eq_true c1, Bool.true_or, Bool.true_or] at q
      exact ⟨_, rfl, _, rfl, _, _, rfl, rfl, rz_mk ER q⟩
    refine iteF' (e3.trans (decide_eq_false c1)) ?_
    rw [decide_eq_false c1, Bool.false_or] at q
    refine ⟨_, rfl, _, rfl, ?_⟩
    cases p with
    | true =>
      refine iteT ?_
      exact ⟨_, rfl, _, rfl, _, _, rfl, rfl, rz_mk ER q⟩
    | false =>
      refine iteF ⟨_, rfl, _, rfl, ?_⟩
      cases g with
      | true => exact ⟨_, rfl, _, rfl, _, _, rfl, rfl, rz_mk ER q⟩
      | false =>
        refine ⟨_, rfl, S W, _, rfl, intText_digits (x := S W) hdg hne (by rw [S_len]; omega), by rw [S_len]; omega, _, rfl, three, fun p hp => q _ p (same_new hp _) ?_⟩
        rw [upd_same, zk.1]; rfl
  · refine split_at 3 (fun t => ∀ p : Bool, p = (decide (1 < W.length) && decide (W.head? = some 48)) →
      t { nx := fun _ H' => Q .non H', rt := Q } [some (.str (S l)), some (.int i), some (.int ln), some (.int J), some (.str (S W)), some (.bl p), none] H)
      ⟨_, pss_cons (ps_set (i := 6) sc_scan_number.nd rfl (.inl rfl) (pe_and (pe_cmpR op_lt (pv 3) (pe_callB call_len_str (by rfl) T.z_len PySem.boot_len (pa_cons (pv 0) pa_nil)) (nomark _)) (pe_one (pcall Ol hr (pa_cons (pe_ix ix_str (pv 0) (pv 3) (fun _ _ => rfl)) pa_nil))))) ht, fun p hp => ?_⟩ (fun t ht hg3 => ?_)
    · refine ⟨_, rfl, _, rfl, _, rfl, S_line hl, _, _, rfl, rfl, _, rfl, iteD (b := decide ((J : Int) < ((S l).length : Int))) (fun c => ?_) (fun c => ?_)⟩
      · rw [e2] at c
        have hJl : J < l.length := of_decide_eq_true c
        have gJ : l[J]? = some l[J] := List.getElem?_eq_getElem hJl
        have eJ : (l.drop J).take 1 = [l[J]] := by rw [List.drop_eq_getElem_cons hJl]; rfl
        exact ⟨_, rfl, _, rfl, S l, J, _, rfl, rfl, S_line hl, at_S gJ, [l[J]], rfl, Nat.le_refl 1, hg p _ hp (by rw [c, eJ]; rfl)⟩
      · rw [e2] at c
        exact hg p false hp (by rw [c]; rfl)
    refine ⟨_, pss_cons (ps_set (i := 3) sc_scan_number.nd rfl (.inl rfl) (pcall Od hr (pa_cons (pv 0) (pa_cons (pv 1) pa_nil)))) (pss_cons (ps_set (i := 4) sc_scan_number.nd rfl (.inl rfl) (pe_slice sl_str (pv 0) (po_some (pv 1)) (po_some (pv 3)))) (pss_cons (ps_set (i := 5) sc_scan_number.nd rfl (.inl rfl) (pe_and (pe_cmpR op_gt (pe_callB call_len_str (by rfl) T.z_len PySem.boot_len (pa_cons (pv 4) pa_nil)) pe_int (nomark _)) (pe_one (pe_cmpR op_eq (pe_ix ix_str (pv 4) pe_int (fun _ _ => rfl)) pe_str (nomark _))))) ht)), ?_⟩
    refine ⟨_, rfl, _, rfl, l, i, rfl, hl, Nat.le_of_lt hi, ?_⟩
    show ∃ x, _
    have hJ' : i + (List.takeWhile isDig (List.drop i l)).length = J := hJ
    rw [hJ']
    refine ⟨_, rfl, _, rfl, _, rfl, _, rfl, _, rfl, S l, rfl, S_line hl, ?_⟩
    rw [cut_nn l i _ hge, show (l.drop i).take (J - i) = W from hW]
    refine ⟨_, rfl, _, rfl, (by have := S_line (l := W) (by omega); exact this), _, _, rfl, rfl, _, rfl, ?_⟩
    refine iteD (b := decide ((1 : Int) < ((S W).length : Int))) (fun c => ?_) (fun c => ?_)
    · obtain ⟨w0, t, rfl⟩ : ∃ w0 t, W = w0 :: t := by
        cases W with
        | nil => exact absurd rfl hne
        | cons a t => exact ⟨a, t, rfl⟩
      refine ⟨_, rfl, S (w0 :: t), 0, w0, rfl, rfl, (by have := S_line (l := w0 :: t) (by omega); exact this), at_S (l := w0 :: t) (i := 0) rfl, rfl, ?_⟩
      refine hg3 (decide (V.str (S [w0]) = V.str (Str.ofString "0"))) ?_
      rw [← e1, c, zk.2, one_dec, Bool.true_and]
      show _ = decide (some w0 = some 48)
      by_cases h : w0 = 48
      · subst h; rfl
      · rw [decide_eq_false h, decide_eq_false (fun z => h (Option.some.inj z))]
    · exact hg3 false (by rw [← e1, c]; rfl)
end
end D0
namespace D0
open PySem PySem.Spec PyProof.Rows L2 SX NumText
/-- behind an opening quote q at st; esc: a \ stands before -/
def scanT (q st : Nat) : Bool → List Nat → Nat → List Nat → Except Nat Tr
  | _, [], _, _ => .error (st + 1)
  | true, c :: r, at_, acc => match escV [c] with
    | none => .error at_
    | some m => scanT q st false r (at_ + 1) (acc ++ m)
  | false, c :: r, at_, acc =>
    if c = q then .ok (.text, .s acc, at_ + 1) else if c = 92 then scanT q st true r (at_ + 1) acc else scanT q st false r (at_ + 1) (acc ++ [c])
def scanText (l : List Nat) (i : Nat) : Except Nat Tr := scanT ((l.drop i).headD 0) i false (l.drop (i + 1)) (i + 1) []
theorem escV_one {c : Nat} {m : List Nat} (h : escV [c] = some m) : ∃ d, m = [d] := by
  unfold escV at h
  split at h <;> first | exact ⟨_, (Option.some.inj h).symm⟩ | cases h
theorem same_upd {H H' : Hp} {D : Addr} {o : HO} (s : Same H H') (h : H D = none) : Same H (upd H' D o) := fun b u e => by rw [upd_ne (ne_of_none e h)]; exact s b u e
section
variable {P : Program} {w : World} {K : PySem.W.Frag} {mg : Str → Option Value} {base : Heap} {ec : Er → Addr}
theorem ok_scan_text (T : Txt K w mg) (ER : ErrT P w K mg base ec) :
    OkD P w K mg base (L2.CX P w) 3 "scan_text" p_scan_text (spScan ec scanText fun _ _ => True) := by
  obtain ⟨dE, es, en, gE, KE, hE⟩ := T.c_ESCAPES
  refine T.g_scan_text.okX sc_scan_text (fun vs H Q E h => ?_) (fun f cdv A outer s H vs Q E hr h => ?_)
  · obtain ⟨l, i, ln, rfl, _⟩ := h; rfl
  obtain ⟨l, i, ln, rfl, hl, hi, _, q⟩ := h
  have hl' : l.length ≤ 1000000 := hl
  have lim : (1000000 : Nat) < sizeLine := by decide
  have zk : Str.ofString "text" = S (Kd.cp .text) ∧ Str.ofString "\\" = S [92] ∧ Str.ofString "" = S [] := by decide +kernel
  have gi : l[i]? = some l[i] := List.getElem?_eq_getElem hi
  have eR : scanText l i = scanT l[i] i false (l.drop (i + 1)) (i + 1) [] := by unfold scanText; rw [List.drop_eq_getElem_cons hi]; rfl
  generalize scanText l i = R at q eR
  generalize hqc : l[i] = qc at *
  have eL : ∀ k : Nat, decide (V.int (k : Int) = V.int ((S l).length : Int)) = decide (k = l.length) := fun k => by rw [S_len]; exact int_dec
  refine split_at 3 (fun t => ∀ (D : Addr) (k : Nat) (acc : List Nat) (H' : Hp), k ≤ l.length → acc.length ≤ k → Same H H' → H' D = some (.lst (acc.map fun c => V.str (S [c]))) →
    (k = l.length → R = .error (i + 1)) → (k < l.length → R = .ok (.text, .s acc, k + 1)) →
    t { nx := fun _ H' => Q .non H', rt := Q } [some (.str (S l)), some (.int i), some (.int ln), some (.ref D), some (.int k)] H') ?_ (fun t ht hg => ?_)
  · refine ⟨_, (pss_cons (ps_if (pt_cmpR op_eq (pv 4) (pe_callB call_len_str (by rfl) T.z_len PySem.boot_len (pa_cons (pv 0) pa_nil)) (nomark _)) (pss_one (ps_raise rfl (takes_of rfl rfl rfl rfl) (pmk_err ER .token hr (pa_cons (pv 2) (pa_cons (pe_op op_add (pv 1) pe_int) pa_nil))))) pss_nil)
      (pss_one (ps_ret (pe_tup (pa_cons pe_str (pa_cons (pe_join pe_str (pv 3)) (pa_cons (pe_op op_add (pv 4) pe_int) pa_nil))))))), ?_⟩
    intro D k acc H' hk ha sm hD h1 h2
    refine ⟨_, rfl, _, rfl, _, rfl, S_line hl, rfl, _, rfl, ?_⟩
    by_cases c : k = l.length
    · refine iteT' ((eL k).trans (decide_eq_true c)) ?_
      have e := h1 c
      rw [e] at q
      exact ⟨_, rfl, _, rfl, _, _, rfl, rfl, rz_mk ER fun d H2 s2 n2 => q d H2 (sm.trans s2) (sm.free n2)⟩
    · refine iteF' ((eL k).trans (decide_eq_false c)) ?_
      rw [h2 (by omega)] at q
      refine ⟨⟨S [], by rw [← zk.2.2]⟩, _, rfl, S [], D, acc.map fun c => S [c], by rw [← zk.2.2], rfl, .inl (SqL.of (by rw [hD, List.map_map]; rfl)), ?_, _, rfl, _, _, rfl, rfl, three, fun p hp => ?_⟩
      · have e : ((acc.map fun c => S [c]).map (·.length)).sum = acc.length := by
          clear hD h2 q h1 ha
          induction acc with
          | nil => rfl
          | cons a t ih => rw [List.map_cons, List.map_cons, List.sum_cons, ih, List.length_cons]; show 1 + _ = _; omega
        rw [e]
        show _ + _ * 0 ≤ _
        omega
      · refine q _ p (sm.trans (same_new hp _)) ?_
        rw [upd_same, join_one, zk.1]
        rfl
  refine ⟨_, pss_cons (ps_set (i := 3) sc_scan_text.nd rfl (.inl rfl) (pe_lst pa_nil)) (pss_cons (ps_set (i := 4) sc_scan_text.nd rfl (.inl rfl) (pe_op op_add (pv 1) pe_int)) (pss_cons
    (ps_while (passes_of rfl) (PW.pt (pw_and (pt_cmpR op_lt (pv 4) (pe_callB call_len_str (by rfl) T.z_len PySem.boot_len (pa_cons (pv 0) pa_nil)) (nomark _)) (pw_and1 (pt_cmpR op_ne (pe_ix ix_str (pv 0) (pv 4) (fun _ _ => rfl)) (pe_ix ix_str (pv 0) (pv 1) (fun _ _ => rfl)) (nomark _)))))
      (pss_cons (ps_if (pt_cmpR op_eq (pe_ix ix_str (pv 0) (pv 4) (fun _ _ => rfl)) pe_str (nomark _)) (pss_cons (ps_aug (i := 4) sc_scan_text.nd rfl (.inl rfl) pe_int ip_add)
      (pss_cons (ps_if (pt_cmpR op_eq (pv 4) (pe_callB call_len_str (by rfl) T.z_len PySem.boot_len (pa_cons (pv 0) pa_nil)) (nomark _)) (pss_one ps_break) pss_nil)
      (pss_cons (ps_if (pt_cmpR (op_notIn_kd KE) (pe_ix ix_str (pv 0) (pv 4) (fun _ _ => rfl)) (pe_glob (v := .ref dE) rfl gE rfl) (by rfl)) (pss_one (ps_raise rfl (takes_of rfl rfl rfl rfl) (pmk_err ER .token hr (pa_cons (pv 2) (pa_cons (pv 4) pa_nil))))) pss_nil)
      (pss_one (ps_expr (pe_bm PySem.F.plainAttrs_list PySem.F.slot_list_append PySem.F.type_list_append mt_append (pv 3) (pa_cons (pe_ix ix_kdict (pe_glob (v := .ref dE) rfl gE rfl) (pe_ix ix_str (pv 0) (pv 4) (fun _ _ => rfl)) (fun _ _ => rfl)) pa_nil))))))) (pss_one (ps_expr (pe_bm PySem.F.plainAttrs_list PySem.F.slot_list_append PySem.F.type_list_append mt_append (pv 3) (pa_cons (pe_ix ix_str (pv 0) (pv 4) (fun _ _ => rfl)) pa_nil)))))
      (pss_one (ps_aug (i := 4) sc_scan_text.nd rfl (.inl rfl) pe_int ip_add)))) ht)), ?_⟩
  refine ⟨Nat.zero_le _, fun D hD => ?_⟩
  refine ⟨_, rfl, _, _, rfl, rfl, ?_⟩
  refine ⟨fun m σ H' => ∃ (k : Nat) (acc : List Nat), σ = [some (.str (S l)), some (.int i), some (.int ln), some (.ref D), some (.int k)] ∧ m = l.length + 1 - k ∧ k ≤ l.length ∧ acc.length + (i + 1) ≤ k ∧ Same H H' ∧
      H' D = some (.lst (acc.map fun c => V.str (S [c]))) ∧ R = scanT qc i false (l.drop k) k acc,
    ⟨_, i + 1, [], rfl, rfl, by omega, by simp, same_new hD _, upd_same, eR⟩, ?_⟩
  rintro m σ H' ⟨k, acc, rfl, rfl, hk, hacc, sm, hD', he⟩
  have e2 : decide ((k : Int) < ((S l).length : Int)) = decide (k < l.length) := by rw [S_len]; exact lt_dec
  refine ⟨_, rfl, _, rfl, _, rfl, S_line hl, _, _, rfl, rfl, _, rfl, iteD (b := decide ((k : Int) < ((S l).length : Int))) (fun c => ?_) (fun c => ?_)⟩
  · rw [e2] at c
    have hkl : k < l.length := of_decide_eq_true c
    have gk : l[k]? = some l[k] := List.getElem?_eq_getElem hkl
    have hdr : l.drop k = l[k] :: l.drop (k + 1) := List.drop_eq_getElem_cons hkl
    generalize hck : l[k] = ck at *
    rw [hdr] at he
    refine ⟨_, rfl, _, rfl, S l, k, _, rfl, rfl, S_line hl, at_S gk, _, rfl, _, rfl, S l, i, _, rfl, rfl, S_line hl, at_S gi, rfl, _, rfl, ?_⟩
    have ed : (!decide (V.str (S [ck]) = V.str (S [qc]))) = !decide (ck = qc) := by rw [one_dec]
    by_cases cq : ck = qc
    · refine iteF' (ed.trans (by rw [decide_eq_true cq]; rfl)) ?_
      refine hg D k acc H' hk (by omega) sm hD' (fun z => by omega) (fun _ => ?_)
      rw [he]; unfold scanT; rw [if_pos cq]
    · refine iteT' (ed.trans (by rw [decide_eq_false cq]; rfl)) ?_
      refine ⟨_, fun _ _ h => h, ?_⟩
      unfold scanT at he
      rw [if_neg cq] at he
      refine ⟨_, rfl, _, rfl, S l, k, _, rfl, rfl, S_line hl, at_S gk, rfl, _, rfl, ?_⟩
      have e92 : decide (V.str (S [ck]) = V.str (Str.ofString "\\")) = decide (ck = 92) := by rw [zk.2.1, one_dec]
      by_cases c92 : ck = 92
      · refine iteT' (e92.trans (decide_eq_true c92)) ?_
        rw [if_pos c92] at he
        refine ⟨_, rfl, _, _, rfl, rfl, ?_⟩
        refine ⟨_, rfl, _, rfl, _, rfl, S_line hl, rfl, _, rfl, ?_⟩
        by_cases cl : k + 1 = l.length
        · refine iteT' ((eL (k + 1)).trans (decide_eq_true cl)) ?_
          refine hg D (k + 1) acc H' (by omega) (by omega) sm hD' (fun _ => ?_) (fun z => by omega)
          rw [he, cl, List.drop_length]; rfl
        · refine iteF' ((eL (k + 1)).trans (decide_eq_false cl)) ?_
          have hkl1 : k + 1 < l.length := by omega
          have gk1 : l[k + 1]? = some l[k + 1] := List.getElem?_eq_getElem hkl1
          have hdr1 : l.drop (k + 1) = l[k + 1] :: l.drop (k + 1 + 1) := List.drop_eq_getElem_cons hkl1
          generalize hc1 : l[k + 1] = c1 at *
          rw [hdr1] at he
          unfold scanT at he
          obtain ⟨r, hr1, hr2, hr3⟩ := hE [c1]
          refine ⟨_, rfl, _, rfl, S l, (k + 1 : Nat), _, rfl, rfl, S_line hl, at_S gk1, S [c1], r, rfl, rfl, hr1, _, rfl, ?_⟩
          cases hx : escV [c1] with
          | none =>
            refine iteT' (by rw [hr2, hx]; rfl) ?_
            rw [hx] at he
            rw [he] at q
            exact ⟨_, rfl, _, rfl, rz_mk ER fun d H2 s2 n2 => q d H2 (sm.trans s2) (sm.free n2)⟩
          | some m =>
            refine iteF' (by rw [hr2, hx]; rfl) ?_
            rw [hx] at he
            obtain ⟨u0, hu, ru⟩ := hr3 m hx
            obtain ⟨d, rfl⟩ := escV_one hx
            rw [hu] at hr1
            refine ⟨_, rfl, .inl ⟨rfl, _, SqL.of hD'⟩, _, rfl, _, rfl, S l, (k + 1 : Nat), _, rfl, rfl, S_line hl, at_S gk1, dE, S [c1], _, rfl, rfl, ⟨_, _, _, KE.at_, KE.lit, hr1, ru⟩, D, _, _, rfl, rfl, hD', by rw [List.length_map]; omega, ?_⟩
            refine ⟨_, rfl, _, _, rfl, rfl, ?_⟩
            refine ⟨_, by omega, k + 2, acc ++ [d], rfl, rfl, by omega, by rw [List.length_append]; simp; omega, ?_, ?_, ?_⟩
            · exact same_upd sm hD
            · rw [upd_same, List.map_append]; rfl
            · rw [he]
      · refine iteF' (e92.trans (decide_eq_false c92)) ?_
        rw [if_neg c92] at he
        refine ⟨_, rfl, .inl ⟨rfl, _, SqL.of hD'⟩, _, rfl, _, rfl, S l, (k : Nat), _, rfl, rfl, S_line hl, at_S gk, D, _, _, rfl, rfl, hD', by rw [List.length_map]; omega, ?_⟩
        refine ⟨_, rfl, _, _, rfl, rfl, ?_⟩
        refine ⟨_, by omega, k + 1, acc ++ [ck], rfl, rfl, by omega, by rw [List.length_append]; simp; omega, ?_, ?_, ?_⟩
        · exact same_upd sm hD
        · rw [upd_same, List.map_append]; rfl
        · rw [he]
  · rw [e2] at c
    have hkl : ¬ k < l.length := of_decide_eq_false c
    refine hg D k acc H' hk (by omega) sm hD' (fun z => ?_) (fun z => absurd z hkl)
    rw [he, z, List.drop_length]; rfl
end
end D0
namespace D0
open PySem PySem.Spec PyProof.Rows L2 SX NumText
theorem sw_S (l wd : List Nat) (i : Nat) (hw : wd ≠ []) : Txt.startswith3 (S l) (S wd) (i : Int) = decide ((l.drop i).take wd.length = wd) := by
  have e : fromIndex (S l).length (i : Int) = i := by
    unfold fromIndex
    rw [if_neg (by omega)]
    omega
  have hl : (S wd).length = wd.length := S_len wd
  have hp := List.length_pos_iff.mpr hw
  unfold Txt.startswith3
  rw [e]
  by_cases h : (l.drop i).take wd.length = wd
  · rw [decide_eq_true h]
    have a := PySem.StrLaws.take_at (x := S l) (y := S wd) (k := i) (by omega) h
    rw [Bool.and_eq_true]
    exact ⟨decide_eq_true a.1, a.2⟩
  · rw [decide_eq_false h]
    cases z : (decide (i + (S wd).length ≤ (S l).length) && PySem.Builtin.Str.subAt (S l) (S wd) i) with
    | false => rfl
    | true =>
      rw [Bool.and_eq_true] at z
      exact absurd (PySem.StrLaws.at_take (x := S l) (y := S wd) (k := i) ⟨of_decide_eq_true z.1, z.2⟩) h
def scanSign (l : List Nat) (i : Nat) : Except Nat Tr :=
  match SG.find? (fun s => decide ((l.drop i).take s.length = s)) with
  | some s => .ok (.sign, .s s, i + s.length)
  | none => .error (i + 1)
def scanTok (l : List Nat) (i : Nat) : Except Nat Tr :=
  if (l.drop i).headD 0 |> letc then scanName l i else if (l.drop i).headD 0 |> isDig then scanNumber l i else if (l.drop i).headD 0 = 34 ∨ (l.drop i).headD 0 = 39 then scanText l i else scanSign l i
theorem SG_len : ∀ s ∈ SG, s ≠ [] ∧ s.length ≤ 3 := by decide
theorem find_none {α : Type} {p : α → Bool} : ∀ {l : List α}, (∀ a ∈ l, p a = false) → l.find? p = none
  | [], _ => rfl
  | a :: r, h => by rw [List.find?_cons, h a (List.mem_cons_self)]; exact find_none fun b hb => h b (List.mem_cons_of_mem _ hb)
theorem find_at {α : Type} {p : α → Bool} : ∀ {l : List α} {j : Nat} {a : α}, l[j]? = some a → p a = true → (∀ b ∈ l.take j, p b = false) → l.find? p = some a
  | b :: r, 0, a, h, pa, _ => by
    have : b = a := by simpa using h
    subst this
    rw [List.find?_cons, pa]
  | b :: r, j + 1, a, h, pa, hn => by
    rw [List.take_succ_cons] at hn
    rw [List.find?_cons, hn b List.mem_cons_self]
    exact find_at (by simpa using h) pa fun c hc => hn c (List.mem_cons_of_mem _ hc)
section
variable {P : Program} {w : World} {K : PySem.W.Frag} {mg : Str → Option Value} {base : Heap} {ec : Er → Addr}
theorem ok_scan_sign (T : Txt K w mg) (ER : ErrT P w K mg base ec) :
    OkD P w K mg base (L2.CX P w) 3 "scan_sign" p_scan_sign (spScan ec scanSign fun _ _ => True) := by
  obtain ⟨sA, sG, sT⟩ := T.c_SIGNS
  refine T.g_scan_sign.okX sc_scan_sign (fun vs H Q E h => ?_) (fun f cdv A outer s H vs Q E hr h => ?_)
  · obtain ⟨l, i, ln, rfl, _⟩ := h; rfl
  obtain ⟨l, i, ln, rfl, hl, hi, _, q⟩ := h
  have zk : Str.ofString "sign" = S (Kd.cp .sign) := by decide +kernel
  refine ⟨_, (pss_cons (ps_for (passes_of rfl) rfl (pi_tup (pe_glob (v := .ref sA) rfl sG rfl)) (pg_name (i := 3) sc_scan_sign.nd rfl (Or.inl rfl))
      (pss_one (ps_if (pt_val (pe_bm PySem.F.plainAttrs_str PySem.F.slot_str_startswith PySem.F.type_str_startswith mt_startswith3 (pv 0) (pa_cons (pv 3) (pa_cons (pv 1) pa_nil)))) (pss_one (ps_ret (pe_tup (pa_cons pe_str (pa_cons (pv 3) (pa_cons (pe_op op_add (pv 1) (pe_callB call_len_str (by rfl) T.z_len PySem.boot_len (pa_cons (pv 3) pa_nil))) pa_nil)))))) pss_nil)))
      (pss_one (ps_raise rfl (takes_of rfl rfl rfl rfl) (pmk_err ER .token hr (pa_cons (pv 2) (pa_cons (pe_op op_add (pv 1) pe_int) pa_nil)))))), ?_⟩
  refine ⟨sA, rfl, ⟨_, sT _⟩, for_it (walk_tup (xs := SG.map fun l => V.str (S l))) (fun j σ H' => H' = H ∧ (∃ y, σ = [some (.str (S l)), some (.int i), some (.int ln), y]) ∧ ∀ s ∈ SG.take j, decide ((l.drop i).take s.length = s) = false)
    ⟨rfl, ⟨none, rfl⟩, fun s h => by cases h⟩ (fun j σ H' _ h => sT _) ?_ ?_⟩
  · rintro j x σ H1 H2 hj ⟨rfl, ⟨y, rfl⟩, hn⟩ ⟨rfl, hx⟩
    rw [List.getElem?_map] at hx
    obtain ⟨sg, hs, rfl⟩ := Option.map_eq_some_iff.mp hx
    have hsm : sg ∈ SG := List.mem_of_getElem? hs
    obtain ⟨s1, s2⟩ := SG_len sg hsm
    refine ⟨_, rfl, rfl, _, rfl, _, rfl, S l, S sg, i, rfl, rfl, _, rfl, ?_⟩
    rw [sw_S l sg i s1]
    refine iteD (fun c => ?_) (fun c => ?_)
    · refine ⟨_, rfl, _, rfl, _, rfl, _, rfl, (by show (S sg).length ≤ sizeLine; rw [S_len]; exact Nat.le_trans s2 three), _, _, rfl, rfl, three, fun p hp => ?_⟩
      unfold scanSign at q
      rw [find_at hs c hn] at q
      refine q _ p (same_new hp _) ?_
      rw [upd_same, zk, S_len]; rfl
    · refine ⟨rfl, ⟨_, rfl⟩, fun b hb => ?_⟩
      rw [List.take_add_one, hs] at hb
      rcases List.mem_append.mp hb with hb | hb
      · exact hn b hb
      · have : b = sg := by simpa using hb
        subst this; exact c
  · rintro σ H' ⟨rfl, ⟨y, rfl⟩, hn⟩
    rw [List.length_map, List.take_length] at hn
    unfold scanSign at q
    rw [find_none hn] at q
    exact ⟨_, rfl, _, rfl, _, _, rfl, rfl, rz_mk ER q⟩
theorem ok_scan_token (T : Txt K w mg) (ER : ErrT P w K mg base ec) (Od : OkD P w K mg base CX0 1 "is_digit" p_is_digit spIsDigit) (Ol : OkD P w K mg base CX0 1 "is_letter" p_is_letter spIsLetter)
    (O1 : OkD P w K mg base (L2.CX P w) 3 "scan_name" p_scan_name (spScan ec scanName fun _ _ => True))
    (O2 : OkD P w K mg base (L2.CX P w) 3 "scan_number" p_scan_number (spScan ec scanNumber fun l i => ∃ c, l[i]? = some c ∧ isDig c = true))
    (O3 : OkD P w K mg base (L2.CX P w) 3 "scan_text" p_scan_text (spScan ec scanText fun _ _ => True))
    (O4 : OkD P w K mg base (L2.CX P w) 3 "scan_sign" p_scan_sign (spScan ec scanSign fun _ _ => True)) :
    OkD P w K mg base (L2.CX P w) 4 "scan_token" p_scan_token (spScan ec scanTok fun _ _ => True) := by
  refine T.g_scan_token.okX sc_scan_token (fun vs H Q E h => ?_) (fun f cdv A outer s H vs Q E hr h => ?_)
  · obtain ⟨l, i, ln, rfl, _⟩ := h; rfl
  obtain ⟨l, i, ln, rfl, hl, hi, _, q⟩ := h
  have z : Str.ofString "\"" = S [34] ∧ Str.ofString "'" = S [39] := by decide +kernel
  have gi : l[i]? = some l[i] := List.getElem?_eq_getElem hi
  have hd : (l.drop i).headD 0 = l[i] := by rw [List.drop_eq_getElem_cons hi]; rfl
  unfold scanTok at q
  rw [hd] at q
  generalize hc : l[i] = c at *
  refine ⟨_, (pss_cons (ps_set (i := 3) sc_scan_token.nd rfl (.inl rfl) (pe_ix ix_str (pv 0) (pv 1) (fun _ _ => rfl)))
      (pss_cons (ps_if (pt_val (pcall Ol hr (pa_cons (pv 3) pa_nil))) (pss_one (ps_ret (pcallE O1 hr (passes_call (takes_of rfl rfl rfl rfl) (fun _ _ _ _ h => h)) (pa_cons (pv 0) (pa_cons (pv 1) (pa_cons (pv 2) pa_nil)))))) pss_nil)
      (pss_cons (ps_if (pt_val (pcall Od hr (pa_cons (pv 3) pa_nil))) (pss_one (ps_ret (pcallE O2 hr (passes_call (takes_of rfl rfl rfl rfl) (fun _ _ _ _ h => h)) (pa_cons (pv 0) (pa_cons (pv 1) (pa_cons (pv 2) pa_nil)))))) pss_nil)
      (pss_cons (ps_if (PW.pt (pw_or (pt_cmpR op_eq (pv 3) pe_str (nomark _)) (pw_or1 (pt_cmpR op_eq (pv 3) pe_str (nomark _))))) (pss_one (ps_ret (pcallE O3 hr (passes_call (takes_of rfl rfl rfl rfl) (fun _ _ _ _ h => h)) (pa_cons (pv 0) (pa_cons (pv 1) (pa_cons (pv 2) pa_nil)))))) pss_nil)
      (pss_one (ps_ret (pcallE O4 hr (passes_call (takes_of rfl rfl rfl rfl) (fun _ _ _ _ h => h)) (pa_cons (pv 0) (pa_cons (pv 1) (pa_cons (pv 2) pa_nil)))))))))), ?_⟩
  refine ⟨_, rfl, _, rfl, S l, i, _, rfl, rfl, S_line hl, at_S gi, _, rfl, [c], rfl, Nat.le_refl 1, _, rfl, ?_⟩
  have e1 : [c].any letc = letc c := by simp
  have e2 : [c].any isDig = isDig c := by simp
  cases c1 : letc c with
  | true =>
    rw [c1] at q
    refine iteT' (e1.trans c1) ⟨_, rfl, _, rfl, _, rfl, l, i, ln, rfl, hl, hi, trivial, q⟩
  | false =>
  rw [c1] at q
  refine iteF' (e1.trans c1) ⟨_, rfl, [c], rfl, Nat.le_refl 1, _, rfl, ?_⟩
  cases c2 : isDig c with
  | true =>
    rw [c2] at q
    refine iteT' (e2.trans c2) ⟨_, rfl, _, rfl, _, rfl, l, i, ln, rfl, hl, hi, ⟨c, gi, c2⟩, q⟩
  | false =>
  rw [c2] at q
  refine iteF' (e2.trans c2) ⟨_, rfl, rfl, _, rfl, ?_⟩
  have e3 : decide (V.str (S [c]) = V.str (Str.ofString "\"")) = decide (c = 34) := by rw [z.1, one_dec]
  have e4 : decide (V.str (S [c]) = V.str (Str.ofString "'")) = decide (c = 39) := by rw [z.2, one_dec]
  by_cases c3 : c = 34
  · rw [if_neg Bool.false_ne_true, if_neg Bool.false_ne_true, if_pos (.inl c3)] at q
    refine iteT' (e3.trans (decide_eq_true c3)) ⟨_, rfl, _, rfl, _, rfl, l, i, ln, rfl, hl, hi, trivial, q⟩
  refine iteF' (e3.trans (decide_eq_false c3)) ⟨_, rfl, rfl, _, rfl, ?_⟩
  by_cases c4 : c = 39
  · rw [if_neg Bool.false_ne_true, if_neg Bool.false_ne_true, if_pos (.inr c4)] at q
    refine iteT' (e4.trans (decide_eq_true c4)) ⟨_, rfl, _, rfl, _, rfl, l, i, ln, rfl, hl, hi, trivial, q⟩
  rw [if_neg Bool.false_ne_true, if_neg Bool.false_ne_true, if_neg (by rintro (h | h); exact c3 h; exact c4 h)] at q
  exact iteF' (e4.trans (decide_eq_false c4)) ⟨_, rfl, _, rfl, _, rfl, l, i, ln, rfl, hl, hi, trivial, q⟩
end
end D0
namespace D0
open PySem PySem.Spec PyProof.Rows L2 SX NumText
abbrev fM : Str := "marks"
abbrev fB : Str := "brackets"
abbrev fI : Str := "indents"
abbrev fN : Str := "many"
abbrev fH : Str := "behind"
theorem f_ne : fM ≠ fB ∧ fM ≠ fI ∧ fM ≠ fN ∧ fM ≠ fH ∧ fB ≠ fI ∧ fB ≠ fN ∧ fB ≠ fH ∧ fI ≠ fN ∧ fI ≠ fH ∧ fN ≠ fH := by decide +kernel
/-- the fields of a scanner -/
def pf (lm lb li : Addr) (m b : Int) : List (Str × V) := putF fH (.int b) (putF fN (.int m) (putF fI (.ref li) (putF fB (.ref lb) (putF fM (.ref lm) []))))
theorem pf_eq (lm lb li : Addr) (m b : Int) : pf lm lb li m b = [(fM, .ref lm), (fB, .ref lb), (fI, .ref li), (fN, .int m), (fH, .int b)] := by
  obtain ⟨h1, h2, h3, h4, h5, h6, h7, h8, h9, h10⟩ := f_ne
  unfold pf
  simp only [putF, if_neg h1, if_neg h2, if_neg h3, if_neg h4, if_neg h5, if_neg h6, if_neg h7, if_neg h8, if_neg h9, if_neg h10]
section
variable {lm lb li : Addr} {m b : Int}
theorem lk_M : (pf lm lb li m b).lookup fM = some (.ref lm) := by
  obtain ⟨h1, h2, h3, h4, h5, h6, h7, h8, h9, h10⟩ := f_ne
  unfold pf
  rw [lookup_putF, if_neg h4, lookup_putF, if_neg h3, lookup_putF, if_neg h2, lookup_putF, if_neg h1, lookup_putF, if_pos rfl]
theorem lk_B : (pf lm lb li m b).lookup fB = some (.ref lb) := by
  obtain ⟨h1, h2, h3, h4, h5, h6, h7, h8, h9, h10⟩ := f_ne
  unfold pf
  rw [lookup_putF, if_neg h7, lookup_putF, if_neg h6, lookup_putF, if_neg h5, lookup_putF, if_pos rfl]
theorem lk_I : (pf lm lb li m b).lookup fI = some (.ref li) := by
  obtain ⟨h1, h2, h3, h4, h5, h6, h7, h8, h9, h10⟩ := f_ne
  unfold pf
  rw [lookup_putF, if_neg h9, lookup_putF, if_neg h8, lookup_putF, if_pos rfl]
theorem lk_N : (pf lm lb li m b).lookup fN = some (.int m) := by
  obtain ⟨h1, h2, h3, h4, h5, h6, h7, h8, h9, h10⟩ := f_ne
  unfold pf
  rw [lookup_putF, if_neg h10, lookup_putF, if_pos rfl]
theorem lk_H : (pf lm lb li m b).lookup fH = some (.int b) := by
  unfold pf
  rw [lookup_putF, if_pos rfl]
theorem pf_N (c : Int) : putF fN (.int c) (pf lm lb li m b) = pf lm lb li c b := by
  obtain ⟨h1, h2, h3, h4, h5, h6, h7, h8, h9, h10⟩ := f_ne
  rw [pf_eq, pf_eq]
  simp only [putF, if_neg h3, if_neg h6, if_neg h8, if_pos]
theorem pf_H (c : Int) : putF fH (.int c) (pf lm lb li m b) = pf lm lb li m c := by
  obtain ⟨h1, h2, h3, h4, h5, h6, h7, h8, h9, h10⟩ := f_ne
  rw [pf_eq, pf_eq]
  simp only [putF, if_neg h4, if_neg h7, if_neg h9, if_neg h10, if_pos]
theorem pf_len : (pf lm lb li m b).length < 1000 := by rw [pf_eq]; show 5 < 1000; decide
theorem pf_no {x : Str} (h : x ≠ fM ∧ x ≠ fB ∧ x ≠ fI ∧ x ≠ fN ∧ x ≠ fH) : (pf lm lb li m b).lookup x = none := by
  obtain ⟨h1, h2, h3, h4, h5⟩ := h
  unfold pf
  rw [lookup_putF, if_neg h5, lookup_putF, if_neg h4, lookup_putF, if_neg h3, lookup_putF, if_neg h2, lookup_putF, if_neg h1]
  rfl
end
structure Mk where
  k : Kd
  w : Wd
  ln : Nat
  col : Nat
def Mk.vs (m : Mk) : List V := [.str (S m.k.cp), m.w.v, .int (m.ln : Nat), .int (m.col : Nat)]
structure Sc where
  marks : List Mk
  br : List Mk
  ind : List Nat
  many : Nat
  behind : Nat
/-- the values are the marks -/
def Mks (H : Hp) (vs : List V) (ms : List Mk) : Prop := vs.length = ms.length ∧ ∀ (i : Nat) (m : Mk), ms[i]? = some m → ∃ a : Addr, vs[i]? = some (V.ref a) ∧ H a = some (.tup m.vs)
theorem Mks.nil {H : Hp} : Mks H [] [] := ⟨rfl, fun i m h => by simp at h⟩
theorem Mks.snoc {H : Hp} {vs : List V} {ms : List Mk} {m : Mk} {a : Addr} (h : Mks H vs ms) (ha : H a = some (.tup m.vs)) : Mks H (vs ++ [V.ref a]) (ms ++ [m]) := by
  refine ⟨by simp [h.1], fun i x hx => ?_⟩
  by_cases c : i < ms.length
  · rw [List.getElem?_append_left c] at hx
    obtain ⟨b, h1, h2⟩ := h.2 i x hx
    exact ⟨b, by rw [List.getElem?_append_left (by rw [h.1]; exact c)]; exact h1, h2⟩
  · rw [List.getElem?_append_right (by omega)] at hx
    have e : i - ms.length = 0 := by
      have := (List.getElem?_eq_some_iff.mp hx).1
      simp at this; omega
    rw [e] at hx
    have : m = x := by simpa using hx
    subst this
    exact ⟨a, by rw [List.getElem?_append_right (by rw [h.1]; omega), h.1, e]; rfl, ha⟩
theorem Mks.pop {H : Hp} {vs : List V} {ms : List Mk} (h : Mks H vs ms) : Mks H vs.dropLast ms.dropLast := by
  refine ⟨by rw [List.length_dropLast, List.length_dropLast, h.1], fun i x hx => ?_⟩
  rw [List.getElem?_dropLast] at hx
  split at hx
  · rename_i c
    obtain ⟨b, h1, h2⟩ := h.2 i x hx
    exact ⟨b, by rw [List.getElem?_dropLast, if_pos (by rw [h.1]; exact c)]; exact h1, h2⟩
  · cases hx
theorem Mks.mono {H H' : Hp} {vs : List V} {ms : List Mk} (h : Mks H vs ms) (k : ∀ a t, H a = some (.tup t) → H' a = some (.tup t)) : Mks H' vs ms :=
  ⟨h.1, fun i m e => let ⟨a, h1, h2⟩ := h.2 i m e; ⟨a, h1, k _ _ h2⟩⟩
theorem keepL {H : Hp} {l : Addr} {xs : List V} {o : HO} (h : H l = some (.lst xs)) : ∀ a t, H a = some (.tup t) → upd H l o a = some (.tup t) := fun a t e => by
  rw [upd_ne (fun z => by rw [z, h] at e; cases e)]; exact e
theorem keepI {H : Hp} {l C dx : Addr} {fs : List (Str × V)} {o : HO} (h : H l = some (.ins C dx fs)) : ∀ a t, H a = some (.tup t) → upd H l o a = some (.tup t) := fun a t e => by
  rw [upd_ne (fun z => by rw [z, h] at e; cases e)]; exact e
theorem keepN {H : Hp} {l : Addr} {o : HO} (h : H l = none) : ∀ a t, H a = some (.tup t) → upd H l o a = some (.tup t) := fun a t e => by
  rw [upd_ne (fun z => by rw [z, h] at e; cases e)]; exact e
/-- behind H0 a scanner stands at p in the state s; dx, lm, lb, li: its dict and its lists -/
structure ScA (C : Addr) (H0 H : Hp) (p dx lm lb li : Addr) (s : Sc) : Prop where
  sm : Same H0 H
  p0 : H0 p = none
  m0 : H0 lm = none
  b0 : H0 lb = none
  i0 : H0 li = none
  nmb : lm ≠ lb
  nmi : lm ≠ li
  nbi : lb ≠ li
  hp : H p = some (.ins C dx (pf lm lb li s.many s.behind))
  hm : ∃ vs, H lm = some (.lst vs) ∧ Mks H vs s.marks
  hb : ∃ vs, H lb = some (.lst vs) ∧ Mks H vs s.br.reverse
  hi : H li = some (.lst (s.ind.reverse.map fun n => V.int (n : Nat)))
section
variable {C : Addr} {H0 H : Hp} {p dx lm lb li : Addr} {s : Sc}
/-- a new object -/
theorem ScA.fresh (A : ScA C H0 H p dx lm lb li s) {q : Addr} {o : HO} (h : H q = none) : ScA C H0 (upd H q o) p dx lm lb li s := by
  obtain ⟨vs, h1, h2⟩ := A.hm
  obtain ⟨ws, h3, h4⟩ := A.hb
  refine ⟨A.sm.trans (same_new h _), A.p0, A.m0, A.b0, A.i0, A.nmb, A.nmi, A.nbi, ?_, ⟨vs, ?_, h2.mono (keepN h)⟩, ⟨ws, ?_, h4.mono (keepN h)⟩, ?_⟩
  · rw [upd_ne (ne_of_none A.hp h)]; exact A.hp
  · rw [upd_ne (ne_of_none h1 h)]; exact h1
  · rw [upd_ne (ne_of_none h3 h)]; exact h3
  · rw [upd_ne (ne_of_none A.hi h)]; exact A.hi
theorem ScA.pm (A : ScA C H0 H p dx lm lb li s) : p ≠ lm := by obtain ⟨vs, h1, _⟩ := A.hm; exact ne_of A.hp h1 (by intro z; cases z)
theorem ScA.pb (A : ScA C H0 H p dx lm lb li s) : p ≠ lb := by obtain ⟨vs, h1, _⟩ := A.hb; exact ne_of A.hp h1 (by intro z; cases z)
theorem ScA.pi (A : ScA C H0 H p dx lm lb li s) : p ≠ li := ne_of A.hp A.hi (by intro z; cases z)
/-- the list of marks grows -/
theorem ScA.mark (A : ScA C H0 H p dx lm lb li s) {vs : List V} {a : Addr} {m : Mk} (h : H lm = some (.lst vs)) (ha : H a = some (.tup m.vs)) :
    ScA C H0 (upd H lm (.lst (vs ++ [V.ref a]))) p dx lm lb li { s with marks := s.marks ++ [m] } := by
  obtain ⟨us, h1, h2⟩ := A.hm
  obtain ⟨ws, h3, h4⟩ := A.hb
  have e : us = vs := by rw [h] at h1; cases h1; rfl
  subst e
  refine ⟨same_upd A.sm A.m0, A.p0, A.m0, A.b0, A.i0, A.nmb, A.nmi, A.nbi, ?_, ⟨_, upd_same, (h2.snoc ha).mono (keepL h)⟩, ⟨ws, ?_, h4.mono (keepL h)⟩, ?_⟩
  · rw [upd_ne A.pm]; exact A.hp
  · rw [upd_ne (Ne.symm A.nmb)]; exact h3
  · rw [upd_ne (Ne.symm A.nmi)]; exact A.hi
/-- the list of indents is another -/
theorem ScA.inds (A : ScA C H0 H p dx lm lb li s) {ns : List Nat} {vs : List V} (e : vs = ns.reverse.map fun n => V.int (n : Nat)) :
    ScA C H0 (upd H li (.lst vs)) p dx lm lb li { s with ind := ns } := by
  subst e
  obtain ⟨us, h1, h2⟩ := A.hm
  obtain ⟨ws, h3, h4⟩ := A.hb
  refine ⟨same_upd A.sm A.i0, A.p0, A.m0, A.b0, A.i0, A.nmb, A.nmi, A.nbi, ?_, ⟨us, ?_, h2.mono (keepL A.hi)⟩, ⟨ws, ?_, h4.mono (keepL A.hi)⟩, upd_same⟩
  · rw [upd_ne A.pi]; exact A.hp
  · rw [upd_ne A.nmi]; exact h1
  · rw [upd_ne A.nbi]; exact h3
/-- the list of brackets is another -/
theorem ScA.brs (A : ScA C H0 H p dx lm lb li s) {bs : List Mk} {vs vs0 : List V} (h0 : H lb = some (.lst vs0)) (e : Mks H vs bs.reverse) :
    ScA C H0 (upd H lb (.lst vs)) p dx lm lb li { s with br := bs } := by
  obtain ⟨us, h1, h2⟩ := A.hm
  refine ⟨same_upd A.sm A.b0, A.p0, A.m0, A.b0, A.i0, A.nmb, A.nmi, A.nbi, ?_, ⟨us, ?_, h2.mono (keepL h0)⟩, ⟨_, upd_same, e.mono (keepL h0)⟩, ?_⟩
  · rw [upd_ne A.pb]; exact A.hp
  · rw [upd_ne A.nmb]; exact h1
  · rw [upd_ne (Ne.symm A.nbi)]; exact A.hi
/-- a field is another -/
theorem ScA.flds (A : ScA C H0 H p dx lm lb li s) {n b : Nat} {fs : List (Str × V)} (e : fs = pf lm lb li n b) : ScA C H0 (upd H p (.ins C dx fs)) p dx lm lb li { s with many := n, behind := b } := by
  subst e
  obtain ⟨us, h1, h2⟩ := A.hm
  obtain ⟨ws, h3, h4⟩ := A.hb
  refine ⟨same_upd A.sm A.p0, A.p0, A.m0, A.b0, A.i0, A.nmb, A.nmi, A.nbi, upd_same, ⟨us, ?_, h2.mono (keepI A.hp)⟩, ⟨ws, ?_, h4.mono (keepI A.hp)⟩, ?_⟩
  · rw [upd_ne (Ne.symm A.pm)]; exact h1
  · rw [upd_ne (Ne.symm A.pb)]; exact h3
  · rw [upd_ne (Ne.symm A.pi)]; exact A.hi
end
def ScAt (C : Addr) (H0 H : Hp) (p : Addr) (s : Sc) : Prop := ∃ dx lm lb li, ScA C H0 H p dx lm lb li s
def sc0 : Sc := ⟨[], [], [0], 0, 1⟩
def spInit (C : Addr) : Sp := fun vs H Q _ => ∃ (H0 : Hp) (p dx : Addr), vs = [.ref p] ∧ Same H0 H ∧ H0 p = none ∧ H p = some (.ins C dx []) ∧ ∀ H' : Hp, ScAt C H0 H' p sc0 → Q .non H'
section
variable {P : Program} {w : World} {K : PySem.W.Frag} {mg : Str → Option Value} {base : Heap} {ec : Er → Addr} {C : Addr}
theorem ok_Scanner___init__ (SC0 : ScT K mg C) {f : Addr} {fd : FuncData} (F : Fun K "__init__" "Scanner.__init__" s_Scanner___init__ f fd) : FnOk P w K mg base CX0 1 f fd p_Scanner___init__ (spInit C) := by
  refine F.ok sc_Scanner___init__ (fun vs H Q E h => ?_) (fun cdv A outer s H vs Q E hr h => ?_)
  · obtain ⟨H0, p, dx, rfl, _⟩ := h; rfl
  obtain ⟨H0, p, dx, rfl, sm, p0, hp, q⟩ := h
  refine ⟨_, (pss_cons (ps_fld (pv 0) (pe_lst pa_nil) rfl)
      (pss_cons (ps_fld (pv 0) (pe_lst pa_nil) rfl)
      (pss_cons (ps_fld (pv 0) (pe_lst (pa_cons pe_int pa_nil)) rfl)
      (pss_cons (ps_fld (pv 0) pe_int rfl)
      (pss_one (ps_fld (pv 0) pe_int rfl)))))), ?_⟩
  refine ⟨Nat.zero_le _, fun lm hm => ?_⟩
  have npm : p ≠ lm := ne_of_none hp hm
  refine ⟨_, rfl, p, C, dx, [], rfl, (by rw [upd_ne npm]; exact hp), SC0.cl, SC0.n_marks, (by show 0 < 1000; decide), ?_⟩
  refine ⟨Nat.zero_le _, fun lb hb => ?_⟩
  have npb : p ≠ lb := fun z => by rw [z, upd_same] at hb; cases hb
  rw [upd_ne (Ne.symm npb)] at hb
  have nmb : lm ≠ lb := fun z => by rw [z, upd_same] at hb; cases hb
  rw [upd_ne (Ne.symm nmb)] at hb
  refine ⟨_, rfl, p, C, dx, _, rfl, (by rw [upd_ne npb, upd_same]), SC0.cl, SC0.n_brackets, (by show 1 < 1000; decide), ?_⟩
  refine ⟨(by show 1 ≤ sizeLine; decide), fun li hi => ?_⟩
  have npi : p ≠ li := fun z => by rw [z, upd_same] at hi; cases hi
  rw [upd_ne (Ne.symm npi)] at hi
  have nbi : lb ≠ li := fun z => by rw [z, upd_same] at hi; cases hi
  rw [upd_ne (Ne.symm nbi), upd_ne (Ne.symm npi)] at hi
  have nmi : lm ≠ li := fun z => by rw [z, upd_same] at hi; cases hi
  rw [upd_ne (Ne.symm nmi)] at hi
  refine ⟨_, rfl, p, C, dx, _, rfl, (by rw [upd_ne npi, upd_same]), SC0.cl, SC0.n_indents, (by rw [show putF "brackets" (V.ref lb) (putF "marks" (V.ref lm) []) = [(fM, .ref lm), (fB, .ref lb)] by simp only [putF, if_neg f_ne.1]]; show 2 < 1000; decide), ?_⟩
  have e3 : putF fI (V.ref li) (putF fB (V.ref lb) (putF fM (V.ref lm) [])) = [(fM, V.ref lm), (fB, V.ref lb), (fI, V.ref li)] := by
    obtain ⟨h1, h2, h3, h4, h5, h6, h7, h8, h9, h10⟩ := f_ne
    simp only [putF, if_neg h1, if_neg h2, if_neg h5]
  have e4 : putF fN (V.int 0) (putF fI (V.ref li) (putF fB (V.ref lb) (putF fM (V.ref lm) []))) = [(fM, V.ref lm), (fB, V.ref lb), (fI, V.ref li), (fN, V.int 0)] := by
    obtain ⟨h1, h2, h3, h4, h5, h6, h7, h8, h9, h10⟩ := f_ne
    rw [e3]; simp only [putF, if_neg h3, if_neg h6, if_neg h8]
  refine ⟨_, rfl, p, C, dx, _, rfl, upd_same, SC0.cl, SC0.n_many, (by show (putF fI (V.ref li) (putF fB (V.ref lb) (putF fM (V.ref lm) []))).length < 1000; rw [e3]; show 3 < 1000; decide), ?_⟩
  refine ⟨_, rfl, p, C, dx, _, rfl, upd_same, SC0.cl, SC0.n_behind, (by show (putF fN (V.int 0) (putF fI (V.ref li) (putF fB (V.ref lb) (putF fM (V.ref lm) [])))).length < 1000; rw [e4]; show 4 < 1000; decide), ?_⟩
  have hm0 : H0 lm = none := sm.free hm
  have hb0 : H0 lb = none := sm.free hb
  have hi0 : H0 li = none := sm.free hi
  refine q _ ⟨dx, lm, lb, li, ⟨fun b o e => ?_, p0, hm0, hb0, hi0, nmb, nmi, nbi, upd_same, ⟨[], ?_, Mks.nil⟩, ⟨[], ?_, Mks.nil⟩, ?_⟩⟩
  · have n1 := ne_of_none e p0
    have n2 := ne_of_none e hm0
    have n3 := ne_of_none e hb0
    have n4 := ne_of_none e hi0
    rw [upd_ne n1, upd_ne n1, upd_ne n1, upd_ne n4, upd_ne n1, upd_ne n3, upd_ne n1, upd_ne n2]
    exact sm _ _ e
  · rw [upd_ne (Ne.symm npm), upd_ne (Ne.symm npm), upd_ne (Ne.symm npm), upd_ne nmi, upd_ne (Ne.symm npm), upd_ne nmb, upd_ne (Ne.symm npm), upd_same]
  · rw [upd_ne (Ne.symm npb), upd_ne (Ne.symm npb), upd_ne (Ne.symm npb), upd_ne nbi, upd_ne (Ne.symm npb), upd_same]
  · rw [upd_ne (Ne.symm npi), upd_ne (Ne.symm npi), upd_ne (Ne.symm npi), upd_same]; rfl
end
end D0
namespace D0
open PySem PySem.Spec PyProof.Rows L2 SX NumText
theorem rz_up {ec : Er → Addr} {k : Er} {l c : Int} {H0 H : Hp} {E : XK} (s : Same H0 H) (h : Rz ec k l c H0 E) : Rz ec k l c H E := fun d H2 s2 n2 => h d H2 (s.trans s2) (s.free n2)
def OutS (ec : Er → Addr) (C : Addr) (H0 : Hp) (p : Addr) (Q : VK) (E : XK) : Except (Er × Nat × Nat) Sc → Prop
  | .ok s => ∀ H', ScAt C H0 H' p s → Q .non H'
  | .error e => Rz ec e.1 (e.2.1 : Nat) (e.2.2 : Nat) H0 E
def popW (n : Nat) : List Nat → List Nat
  | [] => []
  | t :: r => if n < t then popW n r else t :: r
def dedent (ln col : Nat) : Mk := ⟨.dedent, .s [], ln, col⟩
def finish (n ln col : Nat) (s : Sc) : Except (Er × Nat × Nat) Sc :=
  if (popW n s.ind).headD 0 < n then .error (.indent, ln, col) else .ok { s with ind := popW n s.ind, marks := s.marks ++ List.replicate (s.ind.length - (popW n s.ind).length) (dedent ln col) }
def beginLine (ln col : Nat) (s : Sc) : Except (Er × Nat × Nat) Sc :=
  if 0 < col - 1 ∧ s.marks = [] then .error (.indent, ln, col)
  else if s.ind.headD 0 < col - 1 then
    (if 11 < s.ind.length + 1 then .error (.deep, ln, col) else finish (col - 1) ln col { s with ind := (col - 1) :: s.ind, marks := s.marks ++ [⟨.indent, .s [], ln, col⟩] })
  else finish (col - 1) ln col s
theorem top_at {t : Nat} {r : List Nat} : atI ((t :: r).reverse.map fun n => V.int (n : Nat)) (-1) = some (V.int (t : Nat)) := by
  rw [List.reverse_cons, List.map_append]; exact atI_last _ _
/-- a stack of indents stands -/
def Ind (l : List Nat) : Prop := l.getLast? = some 0 ∧ l.length ≤ 12
theorem Ind.ne {l : List Nat} (h : Ind l) : l ≠ [] := fun z => by rw [z] at h; cases h.1
theorem Ind.tail {t : Nat} {r : List Nat} (h : Ind (t :: r)) (ht : 0 < t) : Ind r := by
  obtain ⟨a, b⟩ := h
  cases r with
  | nil => simp at a; omega
  | cons x y => exact ⟨by rw [List.getLast?_cons_cons] at a; exact a, by simp at b ⊢; omega⟩
def lim : Nat := 12000000
theorem lim_line : lim + 100 < sizeLine := by decide
def spBegin (ec : Er → Addr) (C : Addr) : Sp := fun vs H Q E => ∃ (H0 : Hp) (p : Addr) (s : Sc) (ln col : Nat), vs = [.ref p, .int ln, .int col] ∧ 1 ≤ col ∧ ScAt C H0 H p s ∧ Ind s.ind ∧ s.ind.length ≤ 11 ∧ s.marks.length ≤ lim ∧ OutS ec C H0 p Q E (beginLine ln col s)
theorem four : 4 ≤ sizeLine := by decide
section
variable {P : Program} {w : World} {K : PySem.W.Frag} {mg : Str → Option Value} {base : Heap} {ec : Er → Addr} {C : Addr}
theorem m_no : True := trivial
theorem ok_Scanner_begin_line (T : Txt K w mg) (ER : ErrT P w K mg base ec) (SC0 : ScT K mg C) :
    OkM P w K mg base C (L2.CX P w) 3 "begin_line" p_Scanner_begin_line (spBegin ec C) := by
  refine SC0.g_begin_line.okX sc_Scanner_begin_line (fun vs H Q E h => ?_) (fun f cdv A outer s H vs Q E hr h => ?_)
  · obtain ⟨H0, p, s, ln, col, rfl, _⟩ := h; rfl
  obtain ⟨H0, p, s, ln, col, rfl, hcol, ⟨dx, lm, lb, li, A⟩, hI, hI2, hM, q⟩ := h
  have zk : Str.ofString "indent" = S (Kd.cp .indent) ∧ Str.ofString "dedent" = S (Kd.cp .dedent) ∧ Str.ofString "" = S [] := by decide +kernel
  have hn : ((col : Int) - 1) = ((col - 1 : Nat) : Int) := by omega
  generalize hN : col - 1 = n at *
  refine split_at 3 (fun t => ∀ (s1 : Sc) (H1 : Hp), ScA C H0 H1 p dx lm lb li s1 → Ind s1.ind → s1.marks.length ≤ lim + 1 → OutS ec C H0 p Q E (finish n ln col s1) →
    t { nx := fun _ H' => Q .non H', rt := Q } [some (.ref p), some (.int ln), some (.int col), some (.int n)] H1) ?_ (fun t ht hg => ?_)
  · refine ⟨_, (pss_cons (ps_while (passes_of rfl) (pt_cmpR op_lt (pv 3) (pe_ix ix_list (pe_fld (pv 0) rfl) (pe_un un_neg pe_int) (fun _ _ => rfl)) (nomark _))
        (pss_cons (ps_expr (pe_bm0 PySem.F.plainAttrs_list PySem.F.slot_list_pop PySem.F.type_list_pop mt_pop (pe_fld (pv 0) rfl)))
      (pss_one (ps_expr (pe_bm PySem.F.plainAttrs_list PySem.F.slot_list_append PySem.F.type_list_append mt_append (pe_fld (pv 0) rfl) (pa_cons (pe_tup (pa_cons pe_str (pa_cons pe_str (pa_cons (pv 1) (pa_cons (pv 2) pa_nil))))) pa_nil))))))
      (pss_one (ps_if (pt_cmpR op_gt (pv 3) (pe_ix ix_list (pe_fld (pv 0) rfl) (pe_un un_neg pe_int) (fun _ _ => rfl)) (nomark _)) (pss_one (ps_raise rfl (takes_of rfl rfl rfl rfl) (pmk_err ER .indent hr (pa_cons (pv 1) (pa_cons (pv 2) pa_nil))))) pss_nil))), ?_⟩
    intro s1 H1 A1 hI1 hM1 q1
    refine ⟨fun m σ H' => ∃ (st : List Nat), σ = [some (.ref p), some (.int ln), some (.int col), some (.int n)] ∧ m = st.length ∧ Ind st ∧ st.length ≤ s1.ind.length ∧ popW n s1.ind = popW n st ∧
      ScA C H0 H' p dx lm lb li { s1 with ind := st, marks := s1.marks ++ List.replicate (s1.ind.length - st.length) (dedent ln col) },
      ⟨_, s1.ind, rfl, rfl, hI1, Nat.le_refl _, rfl, by rw [Nat.sub_self]; show ScA C H0 H1 p dx lm lb li { s1 with ind := s1.ind, marks := s1.marks ++ [] }; rw [List.append_nil]; exact A1⟩, ?_⟩
    rintro m σ H' ⟨st, rfl, rfl, hI2, hle, he, A2⟩
    cases st with
    | nil => exact absurd rfl hI2.ne
    | cons t r =>
    refine ⟨_, rfl, _, rfl, p, C, dx, _, _, rfl, A2.hp, SC0.cl, SC0.n_indents, lk_I, 1, rfl, li, _, -1, _, rfl, rfl, SqL.of A2.hi, top_at, _, _, rfl, rfl, _, rfl, iteD (b := decide ((n : Int) < (t : Int))) (fun c => ?_) (fun c => ?_)⟩
    · have c' : n < t := by have := of_decide_eq_true c; omega
      refine ⟨_, fun _ _ h => h, ?_⟩
      have hi3 := A2.hi
      refine ⟨_, rfl, p, C, dx, _, _, rfl, A2.hp, SC0.cl, SC0.n_indents, lk_I, .inl ⟨rfl, _, SqL.of hi3⟩, li, _, .int (t : Nat), rfl, rfl, hi3, ?_, ?_⟩
      · show (((t :: r).reverse.map fun n => V.int (n : Nat)))[((t :: r).reverse.map fun n => V.int (n : Nat)).length - 1]? = some (V.int (t : Nat))
        rw [List.reverse_cons, List.map_append, List.length_append, List.getElem?_append_right (by simp)]
        simp
      have A3 : ScA C H0 (upd H' li (.lst ((t :: r).reverse.map fun n => V.int (n : Nat)).dropLast)) p dx lm lb li { s1 with ind := r, marks := s1.marks ++ List.replicate (s1.ind.length - (t :: r).length) (dedent ln col) } :=
        A2.inds (ns := r) (by rw [List.reverse_cons, List.map_append]; simp)
      obtain ⟨vs, hv, hvm⟩ := A3.hm
      refine ⟨_, rfl, p, C, dx, _, _, rfl, A3.hp, SC0.cl, SC0.n_marks, lk_M, .inl ⟨rfl, _, SqL.of hv⟩, _, rfl, _, rfl, four, fun q hq => ?_⟩
      have A4 := A3.fresh (o := .tup [.str (Str.ofString "dedent"), .str (Str.ofString ""), .int ln, .int col]) hq
      obtain ⟨vs', hv', hvm'⟩ := A4.hm
      refine ⟨lm, _, _, rfl, rfl, hv', ?_, ?_⟩
      · rw [hvm'.1]
        have := lim_line
        show (s1.marks ++ List.replicate _ _).length < _
        rw [List.length_append, List.length_replicate]
        have := hI1.2
        omega
      · have A5 := A4.mark (m := dedent ln col) hv' (by rw [upd_same, zk.2.1, zk.2.2]; rfl)
        refine ⟨_, Nat.lt_succ_self _, r, rfl, rfl, hI2.tail (by omega), by simp at hle; omega, ?_, ?_⟩
        · rw [he]; show (if n < t then popW n r else t :: r) = _; rw [if_pos c']
        · have e : (s1.marks ++ List.replicate (s1.ind.length - (t :: r).length) (dedent ln col)) ++ [dedent ln col] = s1.marks ++ List.replicate (s1.ind.length - r.length) (dedent ln col) := by
            rw [List.append_assoc, ← List.replicate_succ']
            congr 2
            simp only [List.length_cons] at hle ⊢
            omega
          rw [← e]
          exact A5
    · have c' : ¬ n < t := by have := of_decide_eq_false c; omega
      have hp : popW n s1.ind = t :: r := by rw [he]; show (if n < t then popW n r else t :: r) = _; rw [if_neg c']
      unfold finish at q1
      rw [hp] at q1
      refine ⟨_, rfl, _, rfl, p, C, dx, _, _, rfl, A2.hp, SC0.cl, SC0.n_indents, lk_I, 1, rfl, li, _, -1, _, rfl, rfl, SqL.of A2.hi, top_at, _, _, rfl, rfl, _, rfl, iteD (b := decide ((t : Int) < (n : Int))) (fun c => ?_) (fun c => ?_)⟩
      · have c2 : t < n := by have := of_decide_eq_true c; omega
        rw [if_pos (show (t :: r).headD 0 < n from c2)] at q1
        exact ⟨_, rfl, _, rfl, rz_mk ER (rz_up A2.sm q1)⟩
      · have c2 : ¬ t < n := by have := of_decide_eq_false c; omega
        rw [if_neg (show ¬ (t :: r).headD 0 < n from c2)] at q1
        exact q1 _ ⟨dx, lm, lb, li, A2⟩
  · refine split_at 1 (fun t => t { nx := fun _ H' => Q .non H', rt := Q } [some (.ref p), some (.int ln), some (.int col), some (.int n)] H) ?_ (fun t ht hg => ?_)
    rotate_left
    · refine ⟨_, pss_cons (ps_set (i := 3) sc_Scanner_begin_line.nd rfl (.inl rfl) (pe_op op_sub (pv 2) pe_int)) ht, ?_⟩
      rw [← hn] at hg
      exact ⟨_, rfl, _, _, rfl, rfl, hg⟩
    obtain ⟨vs, hv, hvm⟩ := A.hm
    unfold beginLine at q
    rw [hN] at q
    refine split_at 1 (fun t => ¬ (0 < n ∧ s.marks = []) → t { nx := fun _ H' => Q .non H', rt := Q } [some (.ref p), some (.int ln), some (.int col), some (.int n)] H) ⟨_, pss_cons
      (ps_if (pt_cmpR op_gt (pv 3) (pe_ix ix_list (pe_fld (pv 0) rfl) (pe_un un_neg pe_int) (fun _ _ => rfl)) (nomark _)) (pss_cons (ps_expr (pe_bm PySem.F.plainAttrs_list PySem.F.slot_list_append PySem.F.type_list_append mt_append (pe_fld (pv 0) rfl) (pa_cons (pv 3) pa_nil)))
      (pss_cons (ps_if (pt_cmpR op_gt (pe_callB call_len_seq (by rfl) T.z_len PySem.boot_len (pa_cons (pe_fld (pv 0) rfl) pa_nil)) (pe_gI T.c_INDENT_LIMIT) (nomark _)) (pss_one (ps_raise rfl (takes_of rfl rfl rfl rfl) (pmk_err ER .deep hr (pa_cons (pv 1) (pa_cons (pv 2) pa_nil))))) pss_nil)
      (pss_one (ps_expr (pe_bm PySem.F.plainAttrs_list PySem.F.slot_list_append PySem.F.type_list_append mt_append (pe_fld (pv 0) rfl) (pa_cons (pe_tup (pa_cons pe_str (pa_cons pe_str (pa_cons (pv 1) (pa_cons (pv 2) pa_nil))))) pa_nil)))))) pss_nil) ht, fun hno => ?_⟩ (fun t ht2 rest => ?_)
    rotate_left
    · refine ⟨_, (pss_cons
        (ps_if (PW.pt (pw_and (pt_cmpR op_gt (pv 3) pe_int (nomark _)) (pw_and1 (pt_not (pt_truth (pe_fld (pv 0) rfl) (fun _ => rfl)))))) (pss_one (ps_raise rfl (takes_of rfl rfl rfl rfl) (pmk_err ER .indent hr (pa_cons (pv 1) (pa_cons (pv 2) pa_nil))))) pss_nil) ht2), ?_⟩
      refine ⟨_, rfl, _, _, rfl, rfl, _, rfl, iteD (b := decide ((0 : Int) < (n : Int))) (fun c => ?_) (fun c => ?_)⟩
      · have c' : 0 < n := by have := of_decide_eq_true c; omega
        refine ⟨_, rfl, p, C, dx, _, _, rfl, A.hp, SC0.cl, SC0.n_marks, lk_M, _, .inl ⟨vs, SqL.of hv, rfl⟩, ?_⟩
        cases hms : vs with
        | nil =>
          have hm0 : s.marks = [] := List.eq_nil_of_length_eq_zero (by rw [← hvm.1, hms]; rfl)
          rw [if_pos ⟨c', hm0⟩] at q
          exact iteT ⟨_, rfl, _, rfl, rz_mk ER (rz_up A.sm q)⟩
        | cons x y =>
          have hm0 : s.marks ≠ [] := fun z => by rw [hms, z] at hvm; have := hvm.1; simp at this
          exact iteF (rest fun z => hm0 z.2)
      · have c' : ¬ 0 < n := by have := of_decide_eq_false c; omega
        exact iteF (rest fun z => c' z.1)
    rw [if_neg hno] at q
    have hIs := A.hi
    obtain ⟨t0, r0, e0⟩ : ∃ t0 r0, s.ind = t0 :: r0 := by
      cases h : s.ind with
      | nil => exact absurd h hI.ne
      | cons a b => exact ⟨a, b, rfl⟩
    have htop : atI (s.ind.reverse.map fun n => V.int (n : Nat)) (-1) = some (V.int (t0 : Nat)) := by rw [e0]; exact top_at
    have hd0 : s.ind.headD 0 = t0 := by rw [e0]; rfl
    rw [hd0] at q
    refine ⟨_, rfl, _, rfl, p, C, dx, _, _, rfl, A.hp, SC0.cl, SC0.n_indents, lk_I, 1, rfl, li, _, -1, _, rfl, rfl, SqL.of hIs, htop, _, _, rfl, rfl, _, rfl, iteD (b := decide ((t0 : Int) < (n : Int))) (fun c => ?_) (fun c => ?_)⟩
    · have c' : t0 < n := by have := of_decide_eq_true c; omega
      rw [if_pos c'] at q
      have A1 := A.inds (ns := n :: s.ind) (vs := (s.ind.reverse.map fun n => V.int (n : Nat)) ++ [V.int (n : Nat)]) (by rw [List.reverse_cons, List.map_append]; rfl)
      refine ⟨_, rfl, p, C, dx, _, _, rfl, A.hp, SC0.cl, SC0.n_indents, lk_I, .inl ⟨rfl, _, SqL.of hIs⟩, _, rfl, li, _, _, rfl, rfl, hIs, ?_, ?_⟩
      · rw [List.length_map, List.length_reverse]
        have : 12 < sizeLine := by decide
        omega
      have e2 : decide ((11 : Int) < ((((s.ind.reverse.map fun n => V.int (n : Nat)) ++ [V.int (n : Nat)]).length : Nat) : Int)) = decide (11 < s.ind.length + 1) := by
        rw [List.length_append, List.length_map, List.length_reverse]; exact lt_dec (a := 11)
      refine ⟨_, rfl, p, C, dx, _, _, rfl, A1.hp, SC0.cl, SC0.n_indents, lk_I, li, _, rfl, .inl (SqL.of upd_same), _, _, rfl, rfl, _, rfl, ?_⟩
      by_cases c2 : 11 < s.ind.length + 1
      · rw [if_pos c2] at q
        refine iteT' (e2.trans (decide_eq_true c2)) ?_
        exact ⟨_, rfl, _, rfl, rz_mk ER (rz_up A1.sm q)⟩
      rw [if_neg c2] at q
      refine iteF' (e2.trans (decide_eq_false c2)) ?_
      refine ⟨_, rfl, p, C, dx, _, _, rfl, A1.hp, SC0.cl, SC0.n_marks, lk_M, .inl ⟨rfl, vs, SqL.of (by rw [upd_ne A.nmi]; exact hv)⟩, _, rfl, _, rfl, four, fun u hu => ?_⟩
      have A2 := A1.fresh (o := .tup [.str (Str.ofString "indent"), .str (Str.ofString ""), .int ln, .int col]) hu
      obtain ⟨vs', hv', hvm'⟩ := A2.hm
      refine ⟨lm, _, _, rfl, rfl, hv', ?_, ?_⟩
      · rw [hvm'.1]
        have := lim_line
        show s.marks.length < _
        omega
      · have A5 := A2.mark (m := ⟨.indent, .s [], ln, col⟩) hv' (by rw [upd_same, zk.1, zk.2.2]; rfl)
        refine hg _ _ A5 ⟨?_, ?_⟩ ?_ q
        · show (n :: s.ind).getLast? = some 0
          rw [e0, List.getLast?_cons_cons, ← e0]; exact hI.1
        · show s.ind.length + 1 ≤ 12; omega
        · show (s.marks ++ [_]).length ≤ lim + 1
          rw [List.length_append]; show s.marks.length + 1 ≤ _; omega
    · have c' : ¬ t0 < n := by have := of_decide_eq_false c; omega
      rw [if_neg c'] at q
      exact hg s H A hI (by omega) q
end
end D0
namespace D0
open PySem PySem.Spec PyProof.Rows L2 SX NumText
theorem at_last {α : Type} {vs : List α} {n : Nat} {v : α} (h : vs[n]? = some v) (e : vs.length = n + 1) : atI vs (-1) = some v ∧ vs[vs.length - 1]? = some v := by
  have h2 : vs[vs.length - 1]? = some v := by rw [e]; exact h
  refine ⟨?_, h2⟩
  have h3 : vs.getLast? = some v := by rw [List.getLast?_eq_getElem?]; exact h2
  obtain ⟨ys, rfl⟩ := List.getLast?_eq_some_iff.mp h3
  exact atI_last ys v
theorem Mks.top {H : Hp} {vs : List V} {b : Mk} {r : List Mk} (h : Mks H vs (b :: r).reverse) : ∃ a, atI vs (-1) = some (V.ref a) ∧ vs[vs.length - 1]? = some (V.ref a) ∧ H a = some (.tup b.vs) := by
  have e : (b :: r).reverse[r.length]? = some b := by
    rw [List.reverse_cons, List.getElem?_append_right (by simp)]; simp
  obtain ⟨a, h1, h2⟩ := h.2 r.length b e
  have hl : vs.length = r.length + 1 := by rw [h.1]; simp
  have := at_last h1 hl
  exact ⟨a, this.1, this.2, h2⟩
theorem Mks.last {H : Hp} {vs : List V} {b : Mk} {ms : List Mk} (h : Mks H vs ms) (hb : ms.getLast? = some b) : ∃ a, atI vs (-1) = some (V.ref a) ∧ H a = some (.tup b.vs) := by
  obtain ⟨ys, rfl⟩ := List.getLast?_eq_some_iff.mp hb
  obtain ⟨a, h1, h2⟩ := h.2 ys.length b (by simp)
  have hl : vs.length = ys.length + 1 := by rw [h.1]; simp
  exact ⟨a, (at_last h1 hl).1, h2⟩
def wl : Wd → List Nat
  | .s l => l
  | .n _ => []
def isS : Wd → Bool
  | .s _ => true
  | .n _ => false
theorem isS_v {x : Wd} (h : isS x = true) : x.v = .str (S (wl x)) := by cases x with
  | s l => rfl
  | n k => cases h
def matchBr (m : Mk) (s : Sc) : Except (Er × Nat × Nat) Sc :=
  if wl m.w ∈ OPN then .ok { s with br := m :: s.br } else
  match cloV (wl m.w) with
  | none => .ok s
  | some o => match s.br with
    | [] => .error (.token, m.ln, m.col)
    | b :: r => if wl b.w = o then .ok { s with br := r } else .error (.token, m.ln, m.col)
def BrOk (s : Sc) : Prop := (∀ b ∈ s.br, isS b.w = true) ∧ s.br.length ≤ 1000
def spMatch (ec : Er → Addr) (C : Addr) : Sp := fun vs H Q E => ∃ (H0 : Hp) (p a : Addr) (s : Sc) (m : Mk), vs = [.ref p, .ref a] ∧ H a = some (.tup m.vs) ∧ isS m.w = true ∧ ScAt C H0 H p s ∧ BrOk s ∧ OutS ec C H0 p Q E (matchBr m s)
section
variable {P : Program} {w : World} {K : PySem.W.Frag} {mg : Str → Option Value} {base : Heap} {ec : Er → Addr} {C : Addr}
theorem ok_Scanner_match_bracket (T : Txt K w mg) (ER : ErrT P w K mg base ec) (SC0 : ScT K mg C) :
    OkM P w K mg base C (L2.CX P w) 3 "match_bracket" p_Scanner_match_bracket (spMatch ec C) := by
  obtain ⟨oA, oG, oT⟩ := T.c_OPENING
  obtain ⟨dC, es, en, gC, KC, hC⟩ := T.c_CLOSING
  refine SC0.g_match_bracket.okX sc_Scanner_match_bracket (fun vs H Q E h => ?_) (fun f cdv A outer s H vs Q E hr h => ?_)
  · obtain ⟨H0, p, a, s, m, rfl, _⟩ := h; rfl
  obtain ⟨H0, p, a, s, m, rfl, ha, hw, ⟨dx, lm, lb, li, A⟩, ⟨hB1, hB2⟩, q⟩ := h
  have a1 : atI m.vs (1 : Int) = some (.str (S (wl m.w))) := by rw [← isS_v hw]; exact atI_nat (j := 1) rfl
  have a2 : atI m.vs (2 : Int) = some (.int (m.ln : Nat)) := atI_nat (j := 2) rfl
  have a3 : atI m.vs (3 : Int) = some (.int (m.col : Nat)) := atI_nat (j := 3) rfl
  unfold matchBr at q
  generalize hwl : wl m.w = W at *
  obtain ⟨vb, hvb, hvm⟩ := A.hb
  refine ⟨_, (pss_cons (ps_set (i := 2) sc_Scanner_match_bracket.nd rfl (.inl rfl) (pe_ix ix_tup (pv 1) pe_int (fun _ _ => rfl)))
      (pss_one (ps_if (pt_cmpR op_in_seq (pv 2) (pe_glob (v := .ref oA) rfl oG rfl) (by rfl)) (pss_one (ps_expr (pe_bm PySem.F.plainAttrs_list PySem.F.slot_list_append PySem.F.type_list_append mt_append (pe_fld (pv 0) rfl) (pa_cons (pv 1) pa_nil)))) (pss_one (ps_if (pt_cmpR (op_in_kd KC) (pv 2) (pe_glob (v := .ref dC) rfl gC rfl) (by rfl)) (pss_cons (ps_if (PW.pt (pw_or (pt_not (pt_truth (pe_fld (pv 0) rfl) (fun _ => rfl))) (pw_or1 (pt_cmpR op_ne (pe_ix ix_tup (pe_ix ix_list (pe_fld (pv 0) rfl) (pe_un un_neg pe_int) (fun _ _ => rfl)) pe_int (fun _ _ => rfl)) (pe_ix ix_kdict (pe_glob (v := .ref dC) rfl gC rfl) (pv 2) (fun _ _ => rfl)) (nomark _))))) (pss_one (ps_raise rfl (takes_of rfl rfl rfl rfl) (pmk_err ER .token hr (pa_cons (pe_ix ix_tup (pv 1) pe_int (fun _ _ => rfl)) (pa_cons (pe_ix ix_tup (pv 1) pe_int (fun _ _ => rfl)) pa_nil))))) pss_nil)
      (pss_one (ps_expr (pe_bm0 PySem.F.plainAttrs_list PySem.F.slot_list_pop PySem.F.type_list_pop mt_pop (pe_fld (pv 0) rfl))))) pss_nil))))), ?_⟩
  refine ⟨_, rfl, a, _, 1, _, rfl, rfl, SqT.of ha, a1, ?_⟩
  refine ⟨_, rfl, oA, _, rfl, .inr (oT _), rfl, flat_strs OPN, _, rfl, ?_⟩
  have e2 := in_strs W OPN
  by_cases c : W ∈ OPN
  · rw [if_pos c] at q
    refine iteT' (e2.trans (decide_eq_true c)) ?_
    refine ⟨_, rfl, p, C, dx, _, _, rfl, A.hp, SC0.cl, SC0.n_brackets, lk_B, .inl ⟨rfl, _, SqL.of hvb⟩, _, rfl, lb, _, _, rfl, rfl, hvb, ?_, ?_⟩
    · rw [hvm.1, List.length_reverse]
      have : 1000 < sizeLine := by decide
      omega
    · exact q _ ⟨dx, lm, lb, li, A.brs hvb (by rw [List.reverse_cons]; exact hvm.snoc ha)⟩
  rw [if_neg c] at q
  refine iteF' (e2.trans (decide_eq_false c)) ?_
  obtain ⟨r, hr1, hr2, hr3⟩ := hC W
  refine ⟨_, rfl, S W, r, rfl, rfl, hr1, _, rfl, ?_⟩
  cases hx : cloV W with
  | none =>
    rw [hx] at q
    exact iteF' (by rw [hr2, hx]; rfl) (q _ ⟨dx, lm, lb, li, A⟩)
  | some o =>
    rw [hx] at q
    obtain ⟨u0, hu, ru⟩ := hr3 o hx
    rw [hu] at hr1
    refine iteT' (by rw [hr2, hx]; rfl) ?_
    refine ⟨_, rfl, p, C, dx, _, _, rfl, A.hp, SC0.cl, SC0.n_brackets, lk_B, _, .inl ⟨vb, SqL.of hvb, rfl⟩, ?_⟩
    cases hbr : s.br with
    | nil =>
      rw [hbr] at q hvm
      have : vb = [] := List.eq_nil_of_length_eq_zero (by rw [hvm.1]; rfl)
      subst this
      exact iteT (iteT ⟨_, rfl, a, _, 2, _, rfl, rfl, SqT.of ha, a2, _, rfl, a, _, 3, _, rfl, rfl, SqT.of ha, a3, rz_mk ER (rz_up A.sm q)⟩)
    | cons b r =>
      rw [hbr] at q
      have hvm' := hvm
      rw [hbr] at hvm'
      obtain ⟨ab, t1, t2, t3⟩ := hvm'.top
      have hne : vb ≠ [] := fun z => by rw [z, hbr] at hvm; have := hvm.1; simp at this
      have hem : (!!vb.isEmpty) = false := by cases vb with
        | nil => exact absurd rfl hne
        | cons x y => rfl
      have hbw : isS b.w = true := hB1 b (by rw [hbr]; exact List.mem_cons_self)
      have b1 : atI b.vs (1 : Int) = some (.str (S (wl b.w))) := by rw [← isS_v hbw]; exact atI_nat (j := 1) rfl
      refine iteF' hem ?_
      refine ⟨_, rfl, p, C, dx, _, _, rfl, A.hp, SC0.cl, SC0.n_brackets, lk_B, 1, rfl, lb, _, -1, _, rfl, rfl, SqL.of hvb, t1, ab, _, 1, _, rfl, rfl, SqT.of t3, b1, _, rfl, dC, S W, _, rfl, rfl, ⟨_, _, _, KC.at_, KC.lit, hr1, ru⟩, rfl, _, rfl, ?_⟩
      have e5 : (!decide (V.str (S (wl b.w)) = V.str (S o))) = !decide (wl b.w = o) := by rw [str_dec]
      by_cases c5 : wl b.w = o
      · have q : OutS ec C H0 p Q E (if wl b.w = o then .ok { s with br := r } else .error (.token, m.ln, m.col)) := q
        rw [if_pos c5] at q
        refine iteF' (e5.trans (by rw [decide_eq_true c5]; rfl)) ?_
        refine ⟨_, rfl, p, C, dx, _, _, rfl, A.hp, SC0.cl, SC0.n_brackets, lk_B, .inl ⟨rfl, _, SqL.of hvb⟩, lb, _, _, rfl, rfl, hvb, t2, ?_⟩
        exact q _ ⟨dx, lm, lb, li, A.brs hvb (by have := hvm'.pop; rw [List.reverse_cons, List.dropLast_concat] at this; exact this)⟩
      · have q : OutS ec C H0 p Q E (if wl b.w = o then .ok { s with br := r } else .error (.token, m.ln, m.col)) := q
        rw [if_neg c5] at q
        refine iteT' (e5.trans (by rw [decide_eq_false c5]; rfl)) ?_
        exact ⟨_, rfl, a, _, 2, _, rfl, rfl, SqT.of ha, a2, _, rfl, a, _, 3, _, rfl, rfl, SqT.of ha, a3, rz_mk ER (rz_up A.sm q)⟩
end
end D0
namespace D0
open PySem PySem.Spec PyProof.Rows L2 SX NumText
def isSg : Kd → Bool
  | .sign => true
  | _ => false
def addM (m : Mk) (s : Sc) : Sc := { s with marks := s.marks ++ [m] }
def gatherP (m : Mk) (s : Sc) : Except (Er × Nat × Nat) Sc :=
  if 120 < s.many + 1 then .error (.long, m.ln, m.col) else
  if isSg m.k = true then (matchBr m { s with many := s.many + 1 }).map (addM m) else .ok (addM m { s with many := s.many + 1 })
theorem sg_dec (k : Kd) : decide (V.str (S k.cp) = V.str (Str.ofString "sign")) = isSg k := by
  have z : Str.ofString "sign" = S (Kd.cp .sign) := by decide +kernel
  rw [z, str_dec]
  cases k <;> rfl
def spGather (ec : Er → Addr) (C : Addr) : Sp := fun vs H Q E => ∃ (H0 : Hp) (p a : Addr) (s : Sc) (m : Mk), vs = [.ref p, .ref a] ∧ H a = some (.tup m.vs) ∧ (isSg m.k = true → isS m.w = true) ∧ ScAt C H0 H p s ∧ BrOk s ∧ s.marks.length ≤ lim + 20 ∧ OutS ec C H0 p Q E (gatherP m s)
def endLine (ln : Nat) (s : Sc) : Sc := { s with marks := s.marks ++ [⟨.newline, .s [], ln, s.behind⟩], many := 0 }
def spEndLine (C : Addr) : Sp := fun vs H Q _ => ∃ (H0 : Hp) (p : Addr) (s : Sc) (ln : Nat), vs = [.ref p, .int ln] ∧ ScAt C H0 H p s ∧ s.marks.length ≤ lim + 20 ∧ ∀ H', ScAt C H0 H' p (endLine ln s) → Q .non H'
theorem no_match : ("match_bracket" : Str) ≠ fM ∧ ("match_bracket" : Str) ≠ fB ∧ ("match_bracket" : Str) ≠ fI ∧ ("match_bracket" : Str) ≠ fN ∧ ("match_bracket" : Str) ≠ fH := by decide +kernel
theorem ScA.hold {C : Addr} {H0 H : Hp} {p dx lm lb li a : Addr} {s : Sc} {t : List V} (A : ScA C H0 H p dx lm lb li s) (ha : H a = some (.tup t)) : ScA C (upd H0 a (.tup t)) H p dx lm lb li s ∧ Same H0 (upd H0 a (.tup t)) := by
  obtain ⟨vs, h1, h2⟩ := A.hm
  obtain ⟨ws, h3, h4⟩ := A.hb
  have np : p ≠ a := ne_of A.hp ha (by intro z; cases z)
  have nm : lm ≠ a := ne_of h1 ha (by intro z; cases z)
  have nb : lb ≠ a := ne_of h3 ha (by intro z; cases z)
  have ni : li ≠ a := ne_of A.hi ha (by intro z; cases z)
  refine ⟨⟨fun b u e => ?_, by rw [upd_ne np]; exact A.p0, by rw [upd_ne nm]; exact A.m0, by rw [upd_ne nb]; exact A.b0, by rw [upd_ne ni]; exact A.i0, A.nmb, A.nmi, A.nbi, A.hp, ⟨vs, h1, h2⟩, ⟨ws, h3, h4⟩, A.hi⟩, fun b u e => ?_⟩
  · by_cases z : b = a
    · rw [z, upd_same] at e; rw [z, ha]; exact e
    · rw [upd_ne z] at e; exact A.sm _ _ e
  · by_cases z : b = a
    · have := A.sm _ _ e; rw [z, ha] at this; rw [z, upd_same]; exact this
    · rw [upd_ne z]; exact e
theorem ScAt.weak {C : Addr} {H0 H0' H : Hp} {p : Addr} {s : Sc} (A : ScAt C H0' H p s) (h : Same H0 H0') : ScAt C H0 H p s := by
  obtain ⟨dx, lm, lb, li, A⟩ := A
  exact ⟨dx, lm, lb, li, ⟨h.trans A.sm, h.free A.p0, h.free A.m0, h.free A.b0, h.free A.i0, A.nmb, A.nmi, A.nbi, A.hp, A.hm, A.hb, A.hi⟩⟩
section
variable {P : Program} {w : World} {K : PySem.W.Frag} {mg : Str → Option Value} {base : Heap} {ec : Er → Addr} {C : Addr}
theorem matchBr_marks {m : Mk} {s s' : Sc} (h : matchBr m s = .ok s') : s'.marks = s.marks ∧ s'.many = s.many ∧ s'.ind = s.ind ∧ s'.behind = s.behind := by
  unfold matchBr at h
  split at h
  · cases h; exact ⟨rfl, rfl, rfl, rfl⟩
  · split at h
    · cases h; exact ⟨rfl, rfl, rfl, rfl⟩
    · split at h
      · cases h
      · split at h
        · cases h; exact ⟨rfl, rfl, rfl, rfl⟩
        · cases h
theorem ok_Scanner_gather (T : Txt K w mg) (ER : ErrT P w K mg base ec) (SC0 : ScT K mg C) (OM : OkM P w K mg base C (L2.CX P w) 3 "match_bracket" p_Scanner_match_bracket (spMatch ec C)) :
    OkM P w K mg base C (L2.CX P w) 4 "gather" p_Scanner_gather (spGather ec C) := by
  refine SC0.g_gather.okX sc_Scanner_gather (fun vs H Q E h => ?_) (fun f cdv A outer s H vs Q E hr h => ?_)
  · obtain ⟨H0, p, a, s, m, rfl, _⟩ := h; rfl
  obtain ⟨H0, p, a, s, m, rfl, ha, hw, ⟨dx, lm, lb, li, A⟩, hB, hM, q⟩ := h
  have a0 : atI m.vs (0 : Int) = some (.str (S m.k.cp)) := atI_nat (j := 0) rfl
  have a2 : atI m.vs (2 : Int) = some (.int (m.ln : Nat)) := atI_nat (j := 2) rfl
  have a3 : atI m.vs (3 : Int) = some (.int (m.col : Nat)) := atI_nat (j := 3) rfl
  refine split_at 3 (fun t => ∀ (s2 : Sc) (H2 : Hp), ScAt C H0 H2 p s2 → s2.marks.length ≤ lim + 20 → H2 a = some (.tup m.vs) → (∀ H', ScAt C H0 H' p (addM m s2) → Q .non H') →
    t { nx := fun _ H' => Q .non H', rt := Q } [some (.ref p), some (.ref a)] H2) ?_ (fun t ht hg => ?_)
  · refine ⟨_, pss_one (ps_expr (pe_bm PySem.F.plainAttrs_list PySem.F.slot_list_append PySem.F.type_list_append mt_append (pe_fld (pv 0) rfl) (pa_cons (pv 1) pa_nil))), ?_⟩
    rintro s2 H2 ⟨dx, lm, lb, li, A2⟩ hM2 ha2 q2
    obtain ⟨vs, hv, hvm⟩ := A2.hm
    refine ⟨_, rfl, p, C, dx, _, _, rfl, A2.hp, SC0.cl, SC0.n_marks, lk_M, .inl ⟨rfl, _, SqL.of hv⟩, _, rfl, lm, _, _, rfl, rfl, hv, ?_, ?_⟩
    · rw [hvm.1]
      have := lim_line
      omega
    · exact q2 _ ⟨dx, lm, lb, li, A2.mark hv ha2⟩
  · refine ⟨_, pss_cons (ps_fldaug (pv 0) pe_int ip_add) (pss_cons (ps_if (pt_cmpR op_gt (pe_fld (pv 0) rfl) (pe_gI T.c_TOKEN_LIMIT) (nomark _)) (pss_one (ps_raise rfl (takes_of rfl rfl rfl rfl) (pmk_err ER .long hr (pa_cons (pe_ix ix_tup (pv 1) pe_int (fun _ _ => rfl)) (pa_cons (pe_ix ix_tup (pv 1) pe_int (fun _ _ => rfl)) pa_nil))))) pss_nil)
      (pss_cons (ps_if (pt_cmpR op_eq (pe_ix ix_tup (pv 1) pe_int (fun _ _ => rfl)) pe_str (nomark _)) (pss_one (ps_expr (pmethE OM SC0.cl hr (passes_call (takes_of rfl rfl rfl rfl) (fun _ _ _ _ h => h)) (pv 0) (pa_cons (pv 1) pa_nil)))) pss_nil) ht)), ?_⟩
    have A1 := A.flds (n := s.many + 1) (b := s.behind) (fs := putF fN (.int ((s.many : Int) + 1)) (pf lm lb li s.many s.behind)) (pf_N _)
    have ha1 : upd H p (.ins C dx (putF fN (.int ((s.many : Int) + 1)) (pf lm lb li s.many s.behind))) a = some (.tup m.vs) := keepI A.hp _ _ ha
    refine ⟨_, rfl, p, C, dx, _, _, rfl, A.hp, SC0.cl, SC0.n_many, lk_N, _, _, rfl, rfl, dx, _, A.hp, pf_len, ?_⟩
    have e1 : decide ((120 : Int) < ((s.many + 1 : Nat) : Int)) = decide (120 < s.many + 1) := lt_dec (a := 120)
    refine ⟨_, rfl, p, C, dx, _, _, rfl, A1.hp, SC0.cl, SC0.n_many, lk_N, _, _, rfl, rfl, _, rfl, ?_⟩
    unfold gatherP at q
    by_cases c : 120 < s.many + 1
    · rw [if_pos c] at q
      refine iteT' (e1.trans (decide_eq_true c)) ?_
      exact ⟨_, rfl, a, _, 2, _, rfl, rfl, SqT.of ha1, a2, _, rfl, a, _, 3, _, rfl, rfl, SqT.of ha1, a3, rz_mk ER (rz_up A1.sm q)⟩
    rw [if_neg c] at q
    refine iteF' (e1.trans (decide_eq_false c)) ?_
    refine ⟨_, rfl, a, _, 0, _, rfl, rfl, SqT.of ha1, a0, rfl, _, rfl, ?_⟩
    have e2 := sg_dec m.k
    cases hk : isSg m.k with
    | true =>
      rw [hk, if_pos rfl] at q
      refine iteT' (e2.trans hk) ?_
      obtain ⟨A2, sm2⟩ := A1.hold ha1
      refine ⟨_, rfl, p, dx, _, rfl, A1.hp, pf_no no_match, _, rfl, _, p, a, _, m, rfl, ha1, hw hk, ⟨dx, lm, lb, li, A2⟩, hB, ?_⟩
      cases hr1 : matchBr m { s with many := s.many + 1 } with
      | error e => rw [hr1] at q; exact rz_up sm2 q
      | ok s2 =>
        rw [hr1] at q
        intro H2 A3
        have A3w := A3.weak sm2
        obtain ⟨_, _, _, _, A3'⟩ := A3
        exact hg s2 H2 A3w (by rw [(matchBr_marks hr1).1]; exact hM) (A3'.sm _ _ upd_same) q
    | false =>
      rw [hk, if_neg Bool.false_ne_true] at q
      exact iteF' (e2.trans hk) (hg _ _ ⟨dx, lm, lb, li, A1⟩ hM ha1 q)
theorem ok_Scanner_end_line (SC0 : ScT K mg C) : OkM P w K mg base C CX0 1 "end_line" p_Scanner_end_line (spEndLine C) := by
  refine SC0.g_end_line.ok sc_Scanner_end_line (fun vs H Q E h => ?_) (fun f cdv A outer s H vs Q E hr h => ?_)
  · obtain ⟨H0, p, s, ln, rfl, _⟩ := h; rfl
  obtain ⟨H0, p, s, ln, rfl, ⟨dx, lm, lb, li, A⟩, hM, q⟩ := h
  have zk : Str.ofString "newline" = S (Kd.cp .newline) ∧ Str.ofString "" = S [] := by decide +kernel
  refine ⟨_, (pss_cons (ps_expr (pe_bm PySem.F.plainAttrs_list PySem.F.slot_list_append PySem.F.type_list_append mt_append (pe_fld (pv 0) rfl) (pa_cons (pe_tup (pa_cons pe_str (pa_cons pe_str (pa_cons (pv 1) (pa_cons (pe_fld (pv 0) rfl) pa_nil))))) pa_nil)))
      (pss_one (ps_fld (pv 0) pe_int rfl))), ?_⟩
  obtain ⟨vs, hv, hvm⟩ := A.hm
  refine ⟨_, rfl, p, C, dx, _, _, rfl, A.hp, SC0.cl, SC0.n_marks, lk_M, .inl ⟨rfl, _, SqL.of hv⟩, _, rfl, _, rfl, p, C, dx, _, _, rfl, A.hp, SC0.cl, SC0.n_behind, lk_H, four, fun u hu => ?_⟩
  have A2 := A.fresh (o := .tup [.str (Str.ofString "newline"), .str (Str.ofString ""), .int ln, .int s.behind]) hu
  obtain ⟨vs', hv', hvm'⟩ := A2.hm
  refine ⟨lm, _, _, rfl, rfl, hv', ?_, ?_⟩
  · rw [hvm'.1]
    have := lim_line
    omega
  have A3 := A2.mark (m := ⟨.newline, .s [], ln, s.behind⟩) hv' (by rw [upd_same, zk.1, zk.2]; rfl)
  refine ⟨_, rfl, p, C, dx, _, rfl, A3.hp, SC0.cl, SC0.n_many, pf_len, ?_⟩
  exact q _ ⟨dx, lm, lb, li, A3.flds (n := 0) (b := s.behind) (pf_N 0)⟩
end
end D0
namespace D0
open PySem PySem.Spec PyProof.Rows L2 SX NumText
/-! ### what a token and a line do to the state -/
theorem scanT_ok {q st : Nat} : ∀ {e : Bool} {l : List Nat} {at_ : Nat} {acc : List Nat} {t : Tr}, scanT q st e l at_ acc = .ok t → at_ + 1 ≤ t.2.2 ∧ t.2.2 ≤ at_ + l.length ∧ t.1 = .text
  | e, [], at_, acc, t, h => by cases e <;> (unfold scanT at h; cases h)
  | true, c :: r, at_, acc, t, h => by
    unfold scanT at h
    split at h
    · cases h
    · have := scanT_ok h; simp only [List.length_cons]; exact ⟨by omega, by omega, this.2.2⟩
  | false, c :: r, at_, acc, t, h => by
    unfold scanT at h
    split at h
    · cases h; simp only [List.length_cons]; exact ⟨Nat.le_refl _, by omega, by first | rfl | trivial⟩
    · split at h
      · have := scanT_ok h; simp only [List.length_cons]; exact ⟨by omega, by omega, this.2.2⟩
      · have := scanT_ok h; simp only [List.length_cons]; exact ⟨by omega, by omega, this.2.2⟩
theorem twl_gt {f : Nat → Bool} {l : List Nat} {i : Nat} (hi : i < l.length) (h : f l[i] = true) : i + 1 ≤ twl f l i := by
  have g : l[i]? = some l[i] := List.getElem?_eq_getElem hi
  rw [twl_step g h]
  exact twl_ge l (i + 1)
theorem scanTok_ok {l : List Nat} {i : Nat} {t : Tr} (hi : i < l.length) (h : scanTok l i = .ok t) : i + 1 ≤ t.2.2 ∧ t.2.2 ≤ l.length ∧ (isSg t.1 = true → isS t.2.1 = true) := by
  have hd : (l.drop i).headD 0 = l[i] := by rw [List.drop_eq_getElem_cons hi]; rfl
  unfold scanTok at h
  rw [hd] at h
  by_cases c1 : letc l[i] = true
  · rw [if_pos c1] at h
    unfold scanName at h
    split at h
    · cases h
    · cases h
      refine ⟨twl_gt hi (by unfold namc; rw [c1]; rfl), twl_le (Nat.le_of_lt hi), fun z => ?_⟩
      rfl
  rw [if_neg c1] at h
  by_cases c2 : isDig l[i] = true
  · rw [if_pos c2] at h
    unfold scanNumber at h
    split at h
    · cases h
    · cases h
      exact ⟨twl_gt hi c2, twl_le (Nat.le_of_lt hi), fun z => by cases z⟩
  rw [if_neg c2] at h
  split at h
  · unfold scanText at h
    have := scanT_ok h
    rw [List.length_drop] at this
    exact ⟨by omega, by omega, fun z => by rw [this.2.2] at z; cases z⟩
  · unfold scanSign at h
    cases hf : SG.find? (fun s => decide ((l.drop i).take s.length = s)) with
    | none => rw [hf] at h; cases h
    | some s =>
      rw [hf] at h
      cases h
      have hm := List.mem_of_find?_eq_some hf
      have hp' := List.find?_some hf
      have hp := of_decide_eq_true (show decide ((l.drop i).take s.length = s) = true from hp')
      have hs := (SG_len s hm).1
      have hl := congrArg List.length hp
      rw [List.length_take, List.length_drop] at hl
      have : 0 < s.length := List.length_pos_iff.mpr hs
      exact ⟨by show i + 1 ≤ i + s.length; omega, by show i + s.length ≤ l.length; omega, fun _ => rfl⟩
structure SI (s : Sc) : Prop where
  ind : Ind s.ind
  il : s.ind.length ≤ 11
  brw : ∀ b ∈ s.br, isS b.w = true
  brl : s.br.length ≤ s.many
  my : s.many ≤ 120
theorem popW_suf (n : Nat) : ∀ l : List Nat, popW n l <:+ l
  | [] => List.suffix_refl _
  | t :: r => by
    unfold popW
    split
    · exact (popW_suf n r).trans (List.suffix_cons t r)
    · exact List.suffix_refl _
theorem Ind.pop {n : Nat} : ∀ {l : List Nat}, Ind l → Ind (popW n l)
  | [], h => h
  | t :: r, h => by
    unfold popW
    split
    · rename_i c
      exact Ind.pop (h.tail (by omega))
    · exact h
theorem finish_ok {n ln col : Nat} {s s' : Sc} (h : finish n ln col s = .ok s') (hI : Ind s.ind) : Ind s'.ind ∧ s'.ind.length ≤ s.ind.length ∧ s'.marks.length ≤ s.marks.length + s.ind.length ∧ s'.br = s.br ∧ s'.many = s.many ∧ s'.behind = s.behind := by
  unfold finish at h
  split at h
  · cases h
  · cases h
    refine ⟨hI.pop, (popW_suf n s.ind).length_le, ?_, rfl, rfl, rfl⟩
    show (s.marks ++ List.replicate _ _).length ≤ _
    rw [List.length_append, List.length_replicate]; omega
theorem begin_ok {ln col : Nat} {s s' : Sc} (h : beginLine ln col s = .ok s') (hs : SI s) : SI s' ∧ s'.marks.length ≤ s.marks.length + 13 ∧ s'.br = s.br ∧ s'.many = s.many ∧ s'.behind = s.behind := by
  have hi := hs.il
  unfold beginLine at h
  split at h
  · cases h
  split at h
  · split at h
    · cases h
    · rename_i c1 c2 c3
      have hI2 : Ind ((col - 1) :: s.ind) := by
        obtain ⟨t0, r0, e0⟩ : ∃ t0 r0, s.ind = t0 :: r0 := by
          cases h : s.ind with
          | nil => exact absurd h hs.ind.ne
          | cons a b => exact ⟨a, b, rfl⟩
        exact ⟨by rw [e0, List.getLast?_cons_cons, ← e0]; exact hs.ind.1, by simp; omega⟩
      obtain ⟨h1, h2, h3, h4, h5, h6⟩ := finish_ok h hI2
      have h2 : s'.ind.length ≤ s.ind.length + 1 := h2
      have h3 : s'.marks.length ≤ (s.marks ++ [_]).length + (s.ind.length + 1) := h3
      have h4 : s'.br = s.br := h4
      have h5 : s'.many = s.many := h5
      rw [List.length_append] at h3
      simp only [List.length_cons, List.length_nil] at h3
      exact ⟨⟨h1, by omega, by rw [h4]; exact hs.brw, by rw [h4, h5]; exact hs.brl, by rw [h5]; exact hs.my⟩, by omega, h4, h5, h6⟩
  · obtain ⟨h1, h2, h3, h4, h5, h6⟩ := finish_ok h hs.ind
    exact ⟨⟨h1, by omega, by rw [h4]; exact hs.brw, by rw [h4, h5]; exact hs.brl, by rw [h5]; exact hs.my⟩, by omega, h4, h5, h6⟩
theorem matchBr_br {m : Mk} {s s' : Sc} (h : matchBr m s = .ok s') (hm : isS m.w = true) (hb : ∀ b ∈ s.br, isS b.w = true) : (∀ b ∈ s'.br, isS b.w = true) ∧ s'.br.length ≤ s.br.length + 1 := by
  unfold matchBr at h
  split at h
  · cases h; exact ⟨fun b hb' => by rcases List.mem_cons.mp hb' with rfl | h; exact hm; exact hb b h, Nat.le_refl _⟩
  · split at h
    · cases h; exact ⟨hb, by omega⟩
    · split at h
      · cases h
      · rename_i heq
        split at h
        · cases h
          rw [heq] at hb
          exact ⟨fun b hb' => hb b (List.mem_cons_of_mem _ hb'), by rw [heq]; simp; omega⟩
        · cases h
theorem gather_ok {m : Mk} {s s' : Sc} (h : gatherP m s = .ok s') (hs : SI s) (hm : isSg m.k = true → isS m.w = true) : SI s' ∧ s'.marks.length = s.marks.length + 1 ∧ s'.behind = s.behind := by
  unfold gatherP at h
  split at h
  · cases h
  rename_i c
  split at h
  · rename_i hk
    cases hr : matchBr m { s with many := s.many + 1 } with
    | error e => rw [hr] at h; cases h
    | ok s2 =>
      rw [hr] at h
      cases h
      obtain ⟨e1, e2, e3, e4⟩ := matchBr_marks hr
      obtain ⟨b1, b2⟩ := matchBr_br hr (hm hk) hs.brw
      have e2 : s2.many = s.many + 1 := e2
      have e3 : s2.ind = s.ind := e3
      have e1 : s2.marks = s.marks := e1
      have b2 : s2.br.length ≤ s.br.length + 1 := b2
      have := hs.brl
      refine ⟨⟨by show Ind s2.ind; rw [e3]; exact hs.ind, by show s2.ind.length ≤ 11; rw [e3]; exact hs.il, b1, by show s2.br.length ≤ s2.many; omega, by show s2.many ≤ 120; omega⟩, ?_, e4⟩
      show (s2.marks ++ [m]).length = _
      rw [e1, List.length_append]; rfl
  · cases h
    have := hs.brl
    refine ⟨⟨hs.ind, hs.il, hs.brw, by show s.br.length ≤ s.many + 1; omega, by show s.many + 1 ≤ 120; omega⟩, ?_, rfl⟩
    show (s.marks ++ [m]).length = _
    rw [List.length_append]; rfl
end D0
namespace D0
open PySem PySem.Spec PyProof.Rows L2 SX NumText
theorem ScA.same {C : Addr} {H0 H H' : Hp} {p dx lm lb li : Addr} {s : Sc} (A : ScA C H0 H p dx lm lb li s) (k : Same H H') : ScA C H0 H' p dx lm lb li s := by
  obtain ⟨vs, h1, h2⟩ := A.hm
  obtain ⟨ws, h3, h4⟩ := A.hb
  exact ⟨A.sm.trans k, A.p0, A.m0, A.b0, A.i0, A.nmb, A.nmi, A.nbi, k _ _ A.hp, ⟨vs, k _ _ h1, h2.mono fun a t e => k _ _ e⟩, ⟨ws, k _ _ h3, h4.mono fun a t e => k _ _ e⟩, k _ _ A.hi⟩
abbrev Er3 := Er × Nat × Nat
def liftE (ln : Nat) : Except Nat Tr → Except Er3 Tr
  | .ok t => .ok t
  | .error c => .error (.token, ln, c)
def beg (ln at_ : Nat) (s : Sc) : Except Er3 Sc := if s.many = 0 then beginLine ln (at_ + 1) s else .ok s
def tokS (l : List Nat) (ln at_ : Nat) (s : Sc) : Except Er3 (Nat × Sc) :=
  (liftE ln (scanTok l at_)).bind fun t => (gatherP ⟨t.1, t.2.1, ln, at_ + 1⟩ s).map fun s2 => (twl spc l t.2.2, { s2 with behind := t.2.2 + 1 })
def stepR (l : List Nat) (ln at_ : Nat) (s : Sc) : Except Er3 (Nat × Sc) := (beg ln at_ s).bind (tokS l ln at_)
/-- is there a token at at -/
def here (l : List Nat) (at_ : Nat) : Bool := decide (at_ < l.length) && !decide ((l.drop at_).headD 0 = 35)
def runRow (l : List Nat) (ln : Nat) : Nat → Nat → Sc → Except Er3 Sc
  | 0, _, s => .ok s
  | f + 1, at_, s => if here l at_ = true then (stepR l ln at_ s).bind fun r => runRow l ln f r.1 r.2 else .ok s
def fin (ln : Nat) (s : Sc) : Sc := if 0 < s.many ∧ s.br = [] then endLine ln s else s
def scanRow (l : List Nat) (ln : Nat) (s : Sc) : Except Er3 Sc := (runRow l ln (l.length + 1) (twl spc l 0) s).map (fin ln)
theorem runRow_stop {l : List Nat} {ln : Nat} {f at_ : Nat} {s : Sc} (h : here l at_ = false) : runRow l ln f at_ s = .ok s := by
  cases f with
  | zero => rfl
  | succ f => unfold runRow; rw [h]; rfl
theorem tokS_ok {l : List Nat} {ln at_ : Nat} {s : Sc} {r : Nat × Sc} (hat : at_ < l.length) (hs : SI s) (h : tokS l ln at_ s = .ok r) : at_ + 1 ≤ r.1 ∧ r.1 ≤ l.length ∧ SI r.2 ∧ r.2.marks.length = s.marks.length + 1 := by
  unfold tokS at h
  cases ht : scanTok l at_ with
  | error c => rw [ht] at h; cases h
  | ok t =>
    rw [ht] at h
    obtain ⟨h1, h2, h3⟩ := scanTok_ok hat ht
    have h : (gatherP ⟨t.1, t.2.1, ln, at_ + 1⟩ s).map (fun s2 => (twl spc l t.2.2, { s2 with behind := t.2.2 + 1 })) = .ok r := h
    cases hg : gatherP ⟨t.1, t.2.1, ln, at_ + 1⟩ s with
    | error e => rw [hg] at h; cases h
    | ok s2 =>
      rw [hg] at h
      cases h
      obtain ⟨g1, g2, g3⟩ := gather_ok hg hs h3
      have := twl_ge (f := spc) l t.2.2
      exact ⟨by show at_ + 1 ≤ twl spc l t.2.2; omega, twl_le h2, ⟨g1.ind, g1.il, g1.brw, g1.brl, g1.my⟩, g2⟩
def wb : Stmt → List Stmt
  | .While _ b _ _ => b
  | _ => []
def spScanRow (ec : Er → Addr) (C : Addr) : Sp := fun vs H Q E => ∃ (H0 : Hp) (p : Addr) (s : Sc) (l : List Nat) (ln : Nat), vs = [.ref p, .str (S l), .int ln] ∧ l.length ≤ 120 ∧ ScAt C H0 H p s ∧ SI s ∧ s.marks.length + 2000 ≤ lim ∧ OutS ec C H0 p Q E (scanRow l ln s)
theorem no_names : (("begin_line" : Str) ≠ fM ∧ ("begin_line" : Str) ≠ fB ∧ ("begin_line" : Str) ≠ fI ∧ ("begin_line" : Str) ≠ fN ∧ ("begin_line" : Str) ≠ fH) ∧
  (("gather" : Str) ≠ fM ∧ ("gather" : Str) ≠ fB ∧ ("gather" : Str) ≠ fI ∧ ("gather" : Str) ≠ fN ∧ ("gather" : Str) ≠ fH) ∧
  (("end_line" : Str) ≠ fM ∧ ("end_line" : Str) ≠ fB ∧ ("end_line" : Str) ≠ fI ∧ ("end_line" : Str) ≠ fN ∧ ("end_line" : Str) ≠ fH) ∧
  (("scan_row" : Str) ≠ fM ∧ ("scan_row" : Str) ≠ fB ∧ ("scan_row" : Str) ≠ fI ∧ ("scan_row" : Str) ≠ fN ∧ ("scan_row" : Str) ≠ fH) ∧
  (("end_text" : Str) ≠ fM ∧ ("end_text" : Str) ≠ fB ∧ ("end_text" : Str) ≠ fI ∧ ("end_text" : Str) ≠ fN ∧ ("end_text" : Str) ≠ fH) := by decide +kernel
section
variable {P : Program} {w : World} {K : PySem.W.Frag} {mg : Str → Option Value} {base : Heap} {ec : Er → Addr} {C : Addr}
theorem ok_Scanner_scan_row (T : Txt K w mg) (ER : ErrT P w K mg base ec) (SC0 : ScT K mg C) (Os : OkD P w K mg base CX0 1 "spaces_end" p_spaces_end (spEnd spc))
    (Ot : OkD P w K mg base (L2.CX P w) 4 "scan_token" p_scan_token (spScan ec scanTok fun _ _ => True))
    (OB : OkM P w K mg base C (L2.CX P w) 3 "begin_line" p_Scanner_begin_line (spBegin ec C))
    (OG : OkM P w K mg base C (L2.CX P w) 4 "gather" p_Scanner_gather (spGather ec C))
    (OE : OkM P w K mg base C CX0 1 "end_line" p_Scanner_end_line (spEndLine C)) :
    OkM P w K mg base C (L2.CX P w) 5 "scan_row" p_Scanner_scan_row (spScanRow ec C) := by
  refine SC0.g_scan_row.okX sc_Scanner_scan_row (fun vs H Q E h => ?_) (fun f cdv A outer sh H vs Q E hr h => ?_)
  · obtain ⟨H0, p, s, l, ln, rfl, _⟩ := h; rfl
  obtain ⟨H0, p, s, l, ln, rfl, hl, hA, hs, hM, q⟩ := h
  have hl' : l.length ≤ 1000000 := by omega
  have limv : lim = 12000000 := rfl
  unfold scanRow at q
  generalize hR0 : runRow l ln (l.length + 1) (twl spc l 0) s = R0 at q
  -- what follows the begin of a line
  obtain ⟨t, ht, hg⟩ : ∃ t, PSs (cxOf (L2.CX P w) P w K mg base n_Scanner_scan_row "Scanner.scan_row" (defScope s_Scanner_scan_row) f cdv A outer sh H E) (List.drop 1 (wb ((defBody s_Scanner_scan_row).getD 1 (.Pass ⟨0, 0, 0, 0⟩)))) t ∧
      ∀ (D : Ends) (at_ : Nat) (s1 : Sc) (H1 : Hp) (y4 y5 y6 : Option V), at_ < l.length → ScAt C H0 H1 p s1 → SI s1 → s1.marks.length ≤ lim →
        (∀ e, tokS l ln at_ s1 = .error e → Rz ec e.1 (e.2.1 : Nat) (e.2.2 : Nat) H0 E) →
        (∀ r H2 z4 z5 z6, tokS l ln at_ s1 = .ok r → ScAt C H0 H2 p r.2 → D.nx [some (.ref p), some (.str (S l)), some (.int ln), some (.int (r.1 : Nat)), z4, z5, z6] H2) →
        t D [some (.ref p), some (.str (S l)), some (.int ln), some (.int at_), y4, y5, y6] H1 := by
    refine ⟨_, (pss_cons (ps_asg (pcallE Ot hr (passes_call (takes_of rfl rfl rfl rfl) (fun _ _ _ _ h => h)) (pa_cons (pv 1) (pa_cons (pv 3) (pa_cons (pv 2) pa_nil)))) (pg_tup (by rfl) (pgs_cons (pg_name (i := 4) sc_Scanner_scan_row.nd rfl (Or.inl rfl)) (pgs_cons (pg_name (i := 5) sc_Scanner_scan_row.nd rfl (Or.inl rfl)) (pgs_cons (pg_name (i := 6) sc_Scanner_scan_row.nd rfl (Or.inl rfl)) pgs_nil)))))
      (pss_cons (ps_expr (pmethE OG SC0.cl hr (passes_call (takes_of rfl rfl rfl rfl) (fun _ _ _ _ h => h)) (pv 0) (pa_cons (pe_tup (pa_cons (pv 4) (pa_cons (pv 5) (pa_cons (pv 2) (pa_cons (pe_op op_add (pv 3) pe_int) pa_nil))))) pa_nil)))
      (pss_cons (ps_fld (pv 0) (pe_op op_add (pv 6) pe_int) rfl)
      (pss_one (ps_set (i := 3) sc_Scanner_scan_row.nd rfl (.inl rfl) (pcall Os hr (pa_cons (pv 1) (pa_cons (pv 6) pa_nil)))))))), ?_⟩
    rintro D at_ s1 H1 y4 y5 y6 hat ⟨dx, lm, lb, li, A1⟩ hs1 hM1 hE hO
    refine ⟨_, rfl, _, rfl, _, rfl, l, at_, (ln : Int), rfl, hl', hat, trivial, ?_⟩
    unfold tokS at hE hO
    cases hst : scanTok l at_ with
    | error c =>
      rw [hst] at hE
      exact rz_up A1.sm (hE _ rfl)
    | ok tr =>
      obtain ⟨k, wd, j⟩ := tr
      rw [hst] at hE hO
      obtain ⟨hj1, hj2, hsg⟩ := scanTok_ok hat hst
      intro H2 q2 sm2 hq2
      have A2 := A1.same sm2
      refine ⟨q2, _, rfl, SqT.of hq2, rfl, _, _, rfl, _, _, rfl, _, [], rfl, rfl, ?_⟩
      refine ⟨_, rfl, p, dx, _, rfl, A2.hp, pf_no no_names.2.1, _, rfl, _, rfl, _, rfl, _, rfl, _, _, rfl, rfl, four, fun u hu => ?_⟩
      have A3 := A2.fresh (o := .tup [.str (S k.cp), wd.v, .int (ln : Nat), .int ((at_ : Int) + 1)]) hu
      refine ⟨H0, p, u, s1, ⟨k, wd, ln, at_ + 1⟩, rfl, upd_same, hsg, ⟨dx, lm, lb, li, A3⟩, ⟨hs1.brw, by have := hs1.brl; have := hs1.my; omega⟩, by omega, ?_⟩
      have hE' : ∀ e, gatherP ⟨k, wd, ln, at_ + 1⟩ s1 = .error e → Rz ec e.1 (e.2.1 : Nat) (e.2.2 : Nat) H0 E := fun e he => hE e (by show (gatherP ⟨k, wd, ln, at_ + 1⟩ s1).map _ = _; rw [he]; rfl)
      cases hgp : gatherP ⟨k, wd, ln, at_ + 1⟩ s1 with
      | error e => exact hE' e hgp
      | ok s2 =>
        rintro H3 ⟨dx', lm', lb', li', A4⟩
        refine ⟨_, rfl, _, _, rfl, rfl, ?_⟩
        refine ⟨_, rfl, p, C, dx', _, rfl, A4.hp, SC0.cl, SC0.n_behind, pf_len, ?_⟩
        have A5 := A4.flds (n := s2.many) (b := j + 1) (fs := putF fH (.int ((j : Int) + 1)) (pf lm' lb' li' s2.many s2.behind)) (pf_H _)
        refine ⟨_, rfl, _, rfl, l, j, rfl, hl', hj2, ?_⟩
        exact hO (twl spc l j, { s2 with behind := j + 1 }) _ _ _ _ (by show (gatherP ⟨k, wd, ln, at_ + 1⟩ s1).map _ = _; rw [hgp]; rfl) ⟨_, _, _, _, A5⟩
  have zh : Str.ofString "#" = S [35] := by decide +kernel
  refine split_at 2 (fun t => ∀ (s2 : Sc) (H2 : Hp) (y3 y4 y5 y6 : Option V), ScAt C H0 H2 p s2 → SI s2 → s2.marks.length ≤ lim → OutS ec C H0 p Q E (.ok (fin ln s2)) →
    t { nx := fun _ H' => Q .non H', rt := Q } [some (.ref p), some (.str (S l)), some (.int ln), y3, y4, y5, y6] H2) ?_ (fun t2 ht2 hg2 => ?_)
  · refine ⟨_, pss_one (ps_if (PW.pt (pw_and (pt_cmpR op_gt (pe_fld (pv 0) rfl) pe_int (nomark _)) (pw_and1 (pt_not (pt_truth (pe_fld (pv 0) rfl) (fun _ => rfl)))))) (pss_one (ps_expr (pmethE OE SC0.cl hr pass0 (pv 0) (pa_cons (pv 2) pa_nil)))) pss_nil), ?_⟩
    rintro s2 H2 y3 y4 y5 y6 ⟨dx, lm, lb, li, A2⟩ hs2 hM2 q2
    obtain ⟨vb, hvb, hvm⟩ := A2.hb
    refine ⟨_, rfl, p, C, dx, _, _, rfl, A2.hp, SC0.cl, SC0.n_many, lk_N, _, _, rfl, rfl, _, rfl, iteD (b := decide ((0 : Int) < (s2.many : Int))) (fun c => ?_) (fun c => ?_)⟩
    · have c' : 0 < s2.many := by have := of_decide_eq_true c; omega
      refine ⟨_, rfl, p, C, dx, _, _, rfl, A2.hp, SC0.cl, SC0.n_brackets, lk_B, _, .inl ⟨vb, SqL.of hvb, rfl⟩, ?_⟩
      cases hvv : vb with
      | nil =>
        have hm0 : s2.br = [] := by
          have := hvm.1
          rw [hvv, List.length_reverse] at this
          exact List.eq_nil_of_length_eq_zero this.symm
        refine iteT ⟨_, rfl, p, dx, _, rfl, A2.hp, pf_no no_names.2.2.1, _, rfl, H0, p, s2, ln, rfl, ⟨dx, lm, lb, li, A2⟩, by omega, ?_⟩
        have e : fin ln s2 = endLine ln s2 := by unfold fin; rw [if_pos ⟨c', hm0⟩]
        rw [← e]
        exact q2
      | cons x y =>
        have hm0 : s2.br ≠ [] := fun z => by
          have := hvm.1
          rw [hvv, z] at this
          simp at this
        have e : fin ln s2 = s2 := by unfold fin; rw [if_neg (fun z => hm0 z.2)]
        rw [e] at q2
        exact iteF (q2 _ ⟨dx, lm, lb, li, A2⟩)
    · have c' : ¬ 0 < s2.many := by have := of_decide_eq_false c; omega
      have e : fin ln s2 = s2 := by unfold fin; rw [if_neg (fun z => c' z.1)]
      rw [e] at q2
      exact iteF (q2 _ ⟨dx, lm, lb, li, A2⟩)
  refine ⟨_, pss_cons (ps_set (i := 3) sc_Scanner_scan_row.nd rfl (.inl rfl) (pcall Os hr (pa_cons (pv 1) (pa_cons pe_int pa_nil)))) (pss_cons
    (ps_while (passes_of rfl) (PW.pt (pw_and (pt_cmpR op_lt (pv 3) (pe_callB call_len_str (by rfl) T.z_len PySem.boot_len (pa_cons (pv 1) pa_nil)) (nomark _)) (pw_and1 (pt_cmpR op_ne (pe_ix ix_str (pv 1) (pv 3) (fun _ _ => rfl)) pe_str (nomark _)))))
      (pss_cons (ps_if (pt_cmpR op_eq (pe_fld (pv 0) rfl) pe_int (nomark _)) (pss_one (ps_expr (pmethE OB SC0.cl hr (passes_call (takes_of rfl rfl rfl rfl) (fun _ _ _ _ h => h)) (pv 0) (pa_cons (pv 2) (pa_cons (pe_op op_add (pv 3) pe_int) pa_nil))))) pss_nil) ht)) ht2), ?_⟩
  refine ⟨_, rfl, l, 0, rfl, hl', Nat.zero_le _, ?_⟩
  have h0l := twl_le (f := spc) (l := l) (i := 0) (Nat.zero_le _)
  refine ⟨fun m σ H' => ∃ (at_ : Nat) (s1 : Sc) (y4 y5 y6 : Option V), σ = [some (.ref p), some (.str (S l)), some (.int ln), some (.int at_), y4, y5, y6] ∧ m + at_ ≥ l.length + 1 ∧ at_ ≤ l.length ∧ ScAt C H0 H' p s1 ∧ SI s1 ∧
      s1.marks.length ≤ s.marks.length + 14 * at_ ∧ R0 = runRow l ln m at_ s1,
    ⟨l.length + 1, twl spc l 0, s, none, none, none, rfl, by omega, h0l, hA, hs, by omega, hR0.symm⟩, ?_⟩
  rintro m σ H' ⟨at_, s1, y4, y5, y6, rfl, hm, hat, ⟨dx, lm, lb, li, A1⟩, hs1, hM1, he⟩
  have e2 : decide ((at_ : Int) < ((S l).length : Int)) = decide (at_ < l.length) := by rw [S_len]; exact lt_dec
  have stop : here l at_ = false → _ := fun hh => hg2 s1 H' (some (.int at_)) y4 y5 y6 ⟨dx, lm, lb, li, A1⟩ hs1 (by omega) (by rw [he, runRow_stop hh] at q; exact q)
  refine ⟨_, rfl, _, rfl, _, rfl, S_line hl', _, _, rfl, rfl, _, rfl, iteD (b := decide ((at_ : Int) < ((S l).length : Int))) (fun c => ?_) (fun c => ?_)⟩
  · rw [e2] at c
    have hlt : at_ < l.length := of_decide_eq_true c
    have ga : l[at_]? = some l[at_] := List.getElem?_eq_getElem hlt
    have hd : (l.drop at_).headD 0 = l[at_] := by rw [List.drop_eq_getElem_cons hlt]; rfl
    refine ⟨_, rfl, _, rfl, S l, at_, _, rfl, rfl, S_line hl', at_S ga, rfl, _, rfl, ?_⟩
    have e3 : (!decide (V.str (S [l[at_]]) = V.str (Str.ofString "#"))) = here l at_ := by
      unfold here
      rw [zh, one_dec, hd, decide_eq_true hlt, Bool.true_and]
    cases hh : here l at_ with
    | false => exact iteF' (e3.trans hh) (stop hh)
    | true =>
      refine iteT' (e3.trans hh) ?_
      refine ⟨_, fun _ _ h => h, ?_⟩
      obtain ⟨m', rfl⟩ : ∃ m', m = m' + 1 := ⟨m - 1, by omega⟩
      unfold runRow at he
      rw [hh, if_pos rfl] at he
      have errs : ∀ s1', beg ln at_ s1 = .ok s1' → ∀ e, tokS l ln at_ s1' = .error e → Rz ec e.1 (e.2.1 : Nat) (e.2.2 : Nat) H0 E := fun s1' hb e ht' => by
        have h1 : stepR l ln at_ s1 = .error e := by unfold stepR; rw [hb]; exact ht'
        rw [h1] at he
        rw [he] at q
        exact q
      have oks : ∀ (s1' : Sc) (r : Nat × Sc) (H2 : Hp) (z4 z5 z6 : Option V), beg ln at_ s1 = .ok s1' → SI s1' → s1'.marks.length ≤ s.marks.length + 14 * at_ + 13 → tokS l ln at_ s1' = .ok r → ScAt C H0 H2 p r.2 →
          ∃ m'', m'' < m' + 1 ∧ ∃ (at2 : Nat) (s2 : Sc) (y4 y5 y6 : Option V), [some (.ref p), some (.str (S l)), some (.int ln), some (.int (r.1 : Nat)), z4, z5, z6] = [some (.ref p), some (.str (S l)), some (.int ln), some (.int at2), y4, y5, y6] ∧ m'' + at2 ≥ l.length + 1 ∧ at2 ≤ l.length ∧ ScAt C H0 H2 p s2 ∧ SI s2 ∧
            s2.marks.length ≤ s.marks.length + 14 * at2 ∧ R0 = runRow l ln m'' at2 s2 := fun s1' r H2 z4 z5 z6 hb hs1' hm1 ht' hA2 => by
        obtain ⟨h1, h2, h3, h4⟩ := tokS_ok hlt hs1' ht'
        refine ⟨m', Nat.lt_succ_self _, r.1, r.2, z4, z5, z6, rfl, by omega, h2, hA2, h3, by omega, ?_⟩
        rw [he]
        unfold stepR
        rw [hb]
        show (tokS l ln at_ s1').bind _ = _
        rw [ht']
        rfl
      refine ⟨_, rfl, p, C, dx, _, _, rfl, A1.hp, SC0.cl, SC0.n_many, lk_N, rfl, _, rfl, ?_⟩
      have e4 : decide (V.int (s1.many : Int) = V.int 0) = decide (s1.many = 0) := int_dec (b := 0)
      by_cases c0 : s1.many = 0
      · refine iteT' (e4.trans (decide_eq_true c0)) ?_
        have hbeg : beg ln at_ s1 = beginLine ln (at_ + 1) s1 := by unfold beg; rw [if_pos c0]
        refine ⟨_, rfl, p, dx, _, rfl, A1.hp, pf_no no_names.1, _, rfl, _, rfl, _, _, rfl, rfl, H0, p, s1, ln, at_ + 1, rfl, by omega, ⟨dx, lm, lb, li, A1⟩, hs1.ind, hs1.il, by omega, ?_⟩
        cases hbl : beginLine ln (at_ + 1) s1 with
        | error e =>
          have h1 : stepR l ln at_ s1 = .error e := by unfold stepR; rw [hbeg, hbl]; rfl
          rw [h1] at he
          rw [he] at q
          exact q
        | ok s1' =>
          obtain ⟨g1, g2, _⟩ := begin_ok hbl hs1
          intro H1 hA1
          exact hg _ at_ s1' H1 y4 y5 y6 hlt hA1 g1 (by omega) (errs s1' (hbeg.trans hbl)) (fun r H2 z4 z5 z6 hr' hA2 => oks s1' r H2 z4 z5 z6 (hbeg.trans hbl) g1 (by omega) hr' hA2)
      · refine iteF' (e4.trans (decide_eq_false c0)) ?_
        have hbeg : beg ln at_ s1 = .ok s1 := by unfold beg; rw [if_neg c0]
        exact hg _ at_ s1 H' y4 y5 y6 hlt ⟨dx, lm, lb, li, A1⟩ hs1 (by omega) (errs s1 hbeg) (fun r H2 z4 z5 z6 hr' hA2 => oks s1 r H2 z4 z5 z6 hbeg hs1 (by omega) hr' hA2)
  · rw [e2] at c
    exact stop (by unfold here; rw [c]; rfl)
end
end D0
namespace D0
open PySem PySem.Spec PyProof.Rows L2 SX NumText
theorem walk_enumC {K : PySem.W.Frag} {c : Int} {a : Addr} {xs : List V} : Walk (IteC K c a) xs.length (fun H => SqL K H a xs) (fun i H v H' => ∃ T x, v = .ref T ∧ H T = none ∧ H' = upd H T (.tup [.int (c + (i : Nat)), x]) ∧ xs[i]? = some x) :=
  ⟨fun i _ hi q => ⟨xs, xs[i], q, by simp [hi]⟩, fun _ q => ⟨xs, q, rfl⟩, fun _ _ _ _ _ q ⟨T, x, a1, a2, a3, a4⟩ => ⟨T, x, a1, a2, a3, a4 _ q⟩⟩
theorem walk_enumS {c : Int} {x : Str} : Walk (ItsC c x) x.cps.size (fun _ => True) (fun i H v H' => ∃ T d, v = .ref T ∧ H T = none ∧ H' = upd H T (.tup [.int (c + (i : Nat)), .str ⟨#[d]⟩]) ∧ x.cps[i]? = some d) :=
  ⟨fun _ _ hi _ => hi, fun _ _ => rfl, fun _ _ _ _ _ _ y => y⟩
def rowBad (l : List Nat) : Option Nat := l.findIdx? fun c => !rowc c
def spLetters (ec : Er → Addr) : Sp := fun vs H Q E => ∃ (l : List Nat) (ln : Nat), vs = [.str (S l), .int ln] ∧ l.length ≤ big ∧ (rowBad l = none → ∀ H', Same H H' → Q .non H') ∧ (∀ j, rowBad l = some j → Rz ec .sign ln ((j + 1 : Nat) : Int) H E)
theorem idx_none {α : Type} {p : α → Bool} {l : List α} (h : ∀ a ∈ l, p a = false) : l.findIdx? p = none := by
  rw [List.findIdx?_eq_none_iff]; exact fun x hx => h x hx
theorem idx_at {α : Type} {p : α → Bool} {l : List α} {j : Nat} {a : α} (h : l[j]? = some a) (pa : p a = true) (hn : ∀ b ∈ l.take j, p b = false) : l.findIdx? p = some j := by
  obtain ⟨hj, e⟩ := List.getElem?_eq_some_iff.mp h
  rw [List.findIdx?_eq_some_iff_getElem]
  refine ⟨hj, by rw [e]; exact pa, fun k hk => ?_⟩
  have : l[k] ∈ l.take j := by
    rw [List.mem_take_iff_getElem]
    exact ⟨k, by omega, rfl⟩
  rw [hn _ this]; exact Bool.false_ne_true
section
variable {P : Program} {w : World} {K : PySem.W.Frag} {mg : Str → Option Value} {base : Heap} {ec : Er → Addr} {C : Addr}
theorem ok_check_letters (T : Txt K w mg) (ER : ErrT P w K mg base ec) (Orw : OkD P w K mg base CX0 1 "is_row" p_is_row spIsRow) :
    OkD P w K mg base (L2.CX P w) 3 "check_letters" p_check_letters (spLetters ec) := by
  refine T.g_check_letters.okX sc_check_letters (fun vs H Q E h => ?_) (fun f cdv A outer s H vs Q E hr h => ?_)
  · obtain ⟨l, ln, rfl, _⟩ := h; rfl
  obtain ⟨l, ln, rfl, hl, q1, q2⟩ := h
  refine ⟨_, pss_one (ps_for (passes_of rfl) rfl (pi_enumS (by rfl) T.z_enumerate (pa_cons (pv 0) pa_nil) pe_int) (pg_tup (by rfl) (pgs_cons (pg_name (i := 2) sc_check_letters.nd rfl (Or.inl rfl)) (pgs_cons (pg_name (i := 3) sc_check_letters.nd rfl (Or.inl rfl)) pgs_nil)))
    (pss_one (ps_if (pt_not (pt_val (pcall Orw hr (pa_cons (pv 3) pa_nil)))) (pss_one (ps_raise rfl (takes_of rfl rfl rfl rfl) (pmk_err ER .sign hr (pa_cons (pv 1) (pa_cons (pv 2) pa_nil))))) pss_nil))), ?_⟩
  have hsz : (S l).cps.size = l.length := S_len l
  refine ⟨_, rfl, S l, rfl, for_it walk_enumS (fun j σ H' => Same H H' ∧ (∃ y z, σ = [some (.str (S l)), some (.int ln), y, z]) ∧ ∀ c ∈ l.take j, rowc c = true)
    ⟨Same.refl H, ⟨none, none, rfl⟩, fun c hc => by cases hc⟩ (fun j σ H' _ h => trivial) ?_ ?_⟩
  · rintro j x σ H1 H2 hj ⟨sm, ⟨y, z, rfl⟩, hn⟩ ⟨T', d, rfl, hT, rfl, hd⟩
    have hld : l[j]? = some d := by
      have h2 : (S l).cps.toList[j]? = some d := by rw [← hd]; exact Array.getElem?_toList
      exact h2
    have sm2 : Same H (upd H1 T' (.tup [.int (1 + (j : Nat)), .str ⟨#[d]⟩])) := sm.trans (same_new hT _)
    refine ⟨T', _, rfl, SqT.of upd_same, rfl, _, _, rfl, _, [], rfl, rfl, ?_⟩
    refine ⟨_, rfl, [d], rfl, by show 1 ≤ 1000000; decide, fun H3 sm3 => ⟨_, rfl, ?_⟩⟩
    have e1 : (!([d].all rowc)) = !rowc d := by simp
    cases hr0 : rowc d with
    | false =>
      refine iteT' (e1.trans (by rw [hr0]; rfl)) ?_
      have hb : rowBad l = some j := idx_at hld (by rw [hr0]; rfl) (fun c hc => by rw [hn c hc]; rfl)
      have hz := q2 j hb
      rw [show ((j + 1 : Nat) : Int) = 1 + (j : Nat) by omega] at hz
      exact ⟨_, rfl, _, rfl, rz_mk ER (rz_up (sm2.trans sm3) hz)⟩
    | true =>
      refine iteF' (e1.trans (by rw [hr0]; rfl)) ⟨sm2.trans sm3, ⟨_, _, rfl⟩, fun c hc => ?_⟩
      rw [List.take_add_one, hld] at hc
      rcases List.mem_append.mp hc with hc | hc
      · exact hn c hc
      · have : c = d := by simpa using hc
        subst this; exact hr0
  · rintro σ H' ⟨sm, ⟨y, z, rfl⟩, hn⟩
    rw [hsz, List.take_length] at hn
    exact q1 (idx_none fun c hc => by rw [hn c hc]; rfl) H' sm
def rowsOf (l : List Nat) : List (List Nat) := TL.spl [10] 0 [] l
theorem spl_count : ∀ (l acc : List Nat), (TL.spl [10] 0 acc l).length ≤ l.length + 1 ∧ ∀ r ∈ TL.spl [10] 0 acc l, r.length ≤ acc.length + l.length
  | [], acc => ⟨Nat.le_refl _, fun r hr => by
      have : r = acc := by simpa [TL.spl] using hr
      subst this; simp⟩
  | c :: t, acc => by
    unfold TL.spl
    split
    · obtain ⟨h1, h2⟩ := spl_count t []
      refine ⟨by simp only [List.length_cons] at h1 ⊢; exact Nat.succ_le_succ h1, fun r hr => ?_⟩
      rcases List.mem_cons.mp hr with rfl | hr
      · omega
      · have := h2 r hr; simp only [List.length_cons, List.length_nil] at this ⊢; omega
    · obtain ⟨h1, h2⟩ := spl_count t (acc ++ [c])
      refine ⟨by simp only [List.length_cons]; omega, fun r hr => ?_⟩
      have := h2 r hr
      rw [List.length_append] at this
      simp only [List.length_cons, List.length_nil] at this ⊢; omega
/-- the first row, and the sign in it, that no row may hold -/
def badAt : List (List Nat) → Nat → Option (Nat × Nat)
  | [], _ => none
  | r :: rs, ln => match rowBad r with
    | some j => some (ln, j + 1)
    | none => badAt rs (ln + 1)
def longAt : List (List Nat) → Nat → Option Nat
  | [], _ => none
  | r :: rs, ln => if 120 < r.length then some ln else longAt rs (ln + 1)
def checkRows (l : List Nat) : Except Er3 (List (List Nat)) :=
  if 6000 < l.length then .error (.long, 1, 1) else
  match badAt (rowsOf l) 1 with
  | some e => .error (.sign, e.1, e.2)
  | none => match longAt (rowsOf l) 1 with
    | some n => .error (.long, n, 121)
    | none => .ok (rowsOf l)
def spRows (ec : Er → Addr) : Sp := fun vs H Q E => ∃ (l : List Nat), vs = [.str (S l)] ∧ l.length ≤ big ∧
  (∀ e, checkRows l = .error e → Rz ec e.1 (e.2.1 : Nat) (e.2.2 : Nat) H E) ∧ (∀ rs, checkRows l = .ok rs → ∀ H' p, Same H H' → H p = none → H' p = some (.lst (rs.map fun r => V.str (S r))) → Q (.ref p) H')
theorem badAt_none : ∀ {rs : List (List Nat)} {n : Nat}, (∀ r ∈ rs, rowBad r = none) → badAt rs n = none
  | [], _, _ => rfl
  | r :: rs, n, h => by unfold badAt; rw [h r List.mem_cons_self]; exact badAt_none fun x hx => h x (List.mem_cons_of_mem _ hx)
theorem badAt_at : ∀ {rs : List (List Nat)} {n j c : Nat} {r : List Nat}, rs[j]? = some r → rowBad r = some c → (∀ x ∈ rs.take j, rowBad x = none) → badAt rs n = some (n + j, c + 1)
  | x :: rs, n, 0, c, r, h, hc, _ => by
    have : x = r := by simpa using h
    subst this
    unfold badAt; rw [hc]; rfl
  | x :: rs, n, j + 1, c, r, h, hc, hn => by
    rw [List.take_succ_cons] at hn
    unfold badAt; rw [hn x List.mem_cons_self]
    have := badAt_at (n := n + 1) (by simpa using h) hc fun y hy => hn y (List.mem_cons_of_mem _ hy)
    rw [show n + (j + 1) = n + 1 + j by omega]
    exact this
theorem longAt_none : ∀ {rs : List (List Nat)} {n : Nat}, (∀ r ∈ rs, ¬ 120 < r.length) → longAt rs n = none
  | [], _, _ => rfl
  | r :: rs, n, h => by unfold longAt; rw [if_neg (h r List.mem_cons_self)]; exact longAt_none fun x hx => h x (List.mem_cons_of_mem _ hx)
theorem longAt_at : ∀ {rs : List (List Nat)} {n j : Nat} {r : List Nat}, rs[j]? = some r → 120 < r.length → (∀ x ∈ rs.take j, ¬ 120 < x.length) → longAt rs n = some (n + j)
  | x :: rs, n, 0, r, h, hc, _ => by
    have : x = r := by simpa using h
    subst this
    unfold longAt; rw [if_pos hc]; rfl
  | x :: rs, n, j + 1, r, h, hc, hn => by
    rw [List.take_succ_cons] at hn
    unfold longAt; rw [if_neg (hn x List.mem_cons_self)]
    have := longAt_at (n := n + 1) (by simpa using h) hc fun y hy => hn y (List.mem_cons_of_mem _ hy)
    rw [show n + (j + 1) = n + 1 + j by omega]
    exact this
end
end D0
namespace D0
open PySem PySem.Spec PyProof.Rows L2 SX NumText
section
variable {P : Program} {w : World} {K : PySem.W.Frag} {mg : Str → Option Value} {base : Heap} {ec : Er → Addr} {C : Addr}
theorem ok_checked_rows (T : Txt K w mg) (ER : ErrT P w K mg base ec) (Ocl : OkD P w K mg base (L2.CX P w) 3 "check_letters" p_check_letters (spLetters ec)) :
    OkD P w K mg base (L2.CX P w) 4 "checked_rows" p_checked_rows (spRows ec) := by
  refine T.g_checked_rows.okX sc_checked_rows (fun vs H Q E h => ?_) (fun f cdv A outer s H vs Q E hr h => ?_)
  · obtain ⟨l, rfl, _⟩ := h; rfl
  obtain ⟨l, rfl, hl, q1, q2⟩ := h
  have hl' : l.length ≤ 1000000 := hl
  have zn : Str.ofString "\n" = S [10] := by decide +kernel
  refine ⟨_, (pss_cons (ps_if (pt_cmpR op_gt (pe_callB call_len_str (by rfl) T.z_len PySem.boot_len (pa_cons (pv 0) pa_nil)) (pe_gI T.c_TEXT_LIMIT) (nomark _)) (pss_one (ps_raise rfl (takes_of rfl rfl rfl rfl) (pmk_err ER .long hr (pa_cons pe_int (pa_cons pe_int pa_nil))))) pss_nil)
      (pss_cons (ps_set (i := 1) sc_checked_rows.nd rfl (.inl rfl) (pe_split (pv 0) pe_str))
      (pss_cons (ps_for (passes_of rfl) rfl (pi_enumC (by rfl) T.z_enumerate (pa_cons (pv 1) pa_nil) pe_int) (pg_tup (by rfl) (pgs_cons (pg_name (i := 2) sc_checked_rows.nd rfl (Or.inl rfl)) (pgs_cons (pg_name (i := 3) sc_checked_rows.nd rfl (Or.inl rfl)) pgs_nil))) (pss_one (ps_expr (pcallE Ocl hr (passes_call (takes_of rfl rfl rfl rfl) (fun _ _ _ _ h => h)) (pa_cons (pv 3) (pa_cons (pv 2) pa_nil))))))
      (pss_cons (ps_for (passes_of rfl) rfl (pi_enumC (by rfl) T.z_enumerate (pa_cons (pv 1) pa_nil) pe_int) (pg_tup (by rfl) (pgs_cons (pg_name (i := 2) sc_checked_rows.nd rfl (Or.inl rfl)) (pgs_cons (pg_name (i := 3) sc_checked_rows.nd rfl (Or.inl rfl)) pgs_nil))) (pss_one (ps_if (pt_cmpR op_gt (pe_callB call_len_str (by rfl) T.z_len PySem.boot_len (pa_cons (pv 3) pa_nil)) (pe_gI T.c_ROW_LIMIT) (nomark _)) (pss_one (ps_raise rfl (takes_of rfl rfl rfl rfl) (pmk_err ER .long hr (pa_cons (pv 2) (pa_cons (pe_op op_add (pe_gI T.c_ROW_LIMIT) pe_int) pa_nil))))) pss_nil)))
      (pss_one (ps_ret (pv 1))))))), ?_⟩
  have e1 : decide ((6000 : Int) < ((S l).length : Int)) = decide (6000 < l.length) := by rw [S_len]; exact lt_dec (a := 6000)
  refine ⟨_, rfl, _, rfl, S_line hl, _, _, rfl, rfl, _, rfl, ?_⟩
  unfold checkRows at q1 q2
  by_cases c : 6000 < l.length
  · rw [if_pos c] at q1
    exact iteT' (e1.trans (decide_eq_true c)) (rz_mk ER (q1 _ rfl))
  rw [if_neg c] at q1 q2
  refine iteF' (e1.trans (decide_eq_false c)) ?_
  refine ⟨_, rfl, ⟨_, rfl⟩, S l, S [10], rfl, (by rw [zn]), rfl, ?_, fun p hp => ?_⟩
  · rw [S_len]; have : 7000 ≤ sizeLine := by decide
    omega
  rw [split_S (by decide) (by decide)]
  show gName 1 _ _ _ _
  have ers : TL.spl [10] 0 [] l = rowsOf l := rfl
  rw [ers]
  obtain ⟨hcount, hlen⟩ := spl_count l []
  rw [ers] at hcount hlen
  generalize rowsOf l = rs at *
  have em : (rs.map S).map V.str = rs.map fun r => V.str (S r) := by rw [List.map_map]; rfl
  rw [em]
  have sm0 : Same H (upd H p (.lst (rs.map fun r => V.str (S r)))) := same_new hp _
  have hrl : (rs.map fun r => V.str (S r)).length = rs.length := List.length_map ..
  refine ⟨_, rfl, p, _, rfl, SqL.of upd_same, for_it walk_enumC (fun j σ H' => Same H H' ∧ H' p = some (.lst (rs.map fun r => V.str (S r))) ∧ (∃ y z, σ = [some (.str (S l)), some (.ref p), y, z]) ∧ ∀ r ∈ rs.take j, rowBad r = none)
    ⟨sm0, upd_same, ⟨none, none, rfl⟩, fun c hc => by cases hc⟩ (fun j σ H' _ h => SqL.of h.2.1) ?_ ?_⟩
  · rintro j x σ H1 H2 hj ⟨sm, hp1, ⟨y, z, rfl⟩, hn⟩ ⟨T', x1, rfl, hT, rfl, hx⟩
    rw [List.getElem?_map] at hx
    obtain ⟨r, hrj, rfl⟩ := Option.map_eq_some_iff.mp hx
    have hrm : r ∈ rs := List.mem_of_getElem? hrj
    have hrl := hlen r hrm
    have sm2 : Same H (upd H1 T' (.tup [.int (1 + (j : Nat)), .str (S r)])) := sm.trans (same_new hT _)
    have hp2 : upd H1 T' (.tup [.int (1 + (j : Nat)), .str (S r)]) p = some (.lst (rs.map fun r => V.str (S r))) := (same_new hT _) _ _ hp1
    refine ⟨T', _, rfl, SqT.of upd_same, rfl, _, _, rfl, _, [], rfl, rfl, ?_⟩
    refine ⟨_, rfl, _, rfl, r, j + 1, ?_, ?_, fun hb H3 sm3 => ⟨sm2.trans sm3, sm3 _ _ hp2, ⟨_, _, rfl⟩, fun r' hr' => ?_⟩, fun c hc => ?_⟩
    · rw [show ((j + 1 : Nat) : Int) = 1 + (j : Nat) by omega]; rfl
    · show r.length ≤ 1000000; simp only [List.length_nil] at hrl; omega
    · rw [List.take_add_one, hrj] at hr'
      rcases List.mem_append.mp hr' with hr' | hr'
      · exact hn r' hr'
      · have : r' = r := by simpa using hr'
        subst this; exact hb
    · have hba := badAt_at (n := 1) hrj hc hn
      rw [hba] at q1
      have := q1 _ rfl
      rw [show 1 + j = j + 1 by omega] at this
      exact rz_up sm2 this
  · rintro σ H1 ⟨sm, hp1, ⟨y, z, rfl⟩, hn⟩
    rw [hrl, List.take_length] at hn
    rw [badAt_none hn] at q1 q2
    refine ⟨_, rfl, p, _, rfl, SqL.of hp1, for_it walk_enumC (fun j σ H' => Same H H' ∧ H' p = some (.lst (rs.map fun r => V.str (S r))) ∧ (∃ y z, σ = [some (.str (S l)), some (.ref p), y, z]) ∧ ∀ r ∈ rs.take j, ¬ 120 < r.length)
      ⟨sm, hp1, ⟨_, _, rfl⟩, fun c hc => by cases hc⟩ (fun j σ H' _ h => SqL.of h.2.1) ?_ ?_⟩
    · rintro j x σ H1 H2 hj ⟨sm, hp1, ⟨y, z, rfl⟩, hn⟩ ⟨T', x1, rfl, hT, rfl, hx⟩
      rw [List.getElem?_map] at hx
      obtain ⟨r, hrj, rfl⟩ := Option.map_eq_some_iff.mp hx
      have hrm : r ∈ rs := List.mem_of_getElem? hrj
      have hrl := hlen r hrm
      have sm2 : Same H (upd H1 T' (.tup [.int (1 + (j : Nat)), .str (S r)])) := sm.trans (same_new hT _)
      have hp2 : upd H1 T' (.tup [.int (1 + (j : Nat)), .str (S r)]) p = some (.lst (rs.map fun r => V.str (S r))) := (same_new hT _) _ _ hp1
      refine ⟨T', _, rfl, SqT.of upd_same, rfl, _, _, rfl, _, [], rfl, rfl, ?_⟩
      have e3 : decide ((120 : Int) < ((S r).length : Int)) = decide (120 < r.length) := by rw [S_len]; exact lt_dec (a := 120)
      refine ⟨_, rfl, _, rfl, S_line (show r.length ≤ 1000000 by simp only [List.length_nil] at hrl; omega), _, _, rfl, rfl, _, rfl, ?_⟩
      by_cases c3 : 120 < r.length
      · refine iteT' (e3.trans (decide_eq_true c3)) ?_
        have hla := longAt_at (n := 1) hrj c3 hn
        rw [hla] at q1
        exact ⟨_, rfl, _, _, rfl, rfl, rz_mk ER (rz_up sm2 (q1 _ rfl))⟩
      · refine iteF' (e3.trans (decide_eq_false c3)) ⟨sm2, hp2, ⟨_, _, rfl⟩, fun r' hr' => ?_⟩
        rw [List.take_add_one, hrj] at hr'
        rcases List.mem_append.mp hr' with hr' | hr'
        · exact hn r' hr'
        · have : r' = r := by simpa using hr'
          subst this; exact c3
    · rintro σ H1 ⟨sm, hp1, ⟨y, z, rfl⟩, hn⟩
      rw [hrl, List.take_length] at hn
      rw [longAt_none hn] at q2
      exact ⟨_, rfl, q2 _ rfl H1 p sm hp hp1⟩
end
end D0
namespace D0
open PySem PySem.Spec PyProof.Rows L2 SX NumText
theorem cutV_len (xs : List V) : (cutV xs (some (1 : Int)) none).length = xs.length - 1 := by
  have e : cutV xs (some ((1 : Nat) : Int)) none = xs.drop 1 := by
    unfold cutV
    rw [HT.sIx_nat, HT.sIx_none]
    show (xs.drop (min 1 xs.length)).take (xs.length - min 1 xs.length) = _
    rw [drop_min, List.take_of_length_le (by rw [List.length_drop]; omega)]
  have e2 : cutV xs (some (1 : Int)) none = xs.drop 1 := e
  rw [e2, List.length_drop]
def lastLn (s : Sc) : Nat := match s.marks.getLast? with
  | none => 1
  | some m => m.ln + 1
def endText (s : Sc) : Except Er3 Sc := match s.br with
  | b :: _ => .error (.token, b.ln, b.col)
  | [] => .ok { s with marks := (s.marks ++ List.replicate (s.ind.length - 1) (dedent (lastLn s) 1)) ++ [⟨.fin, .s [], lastLn s, 1⟩] }
def spEndText (ec : Er → Addr) (C : Addr) : Sp := fun vs H Q E => ∃ (H0 : Hp) (p : Addr) (s : Sc), vs = [.ref p] ∧ ScAt C H0 H p s ∧ SI s ∧ s.marks.length ≤ lim ∧ OutS ec C H0 p Q E (endText s)
section
variable {P : Program} {w : World} {K : PySem.W.Frag} {mg : Str → Option Value} {base : Heap} {ec : Er → Addr} {C : Addr}
theorem ok_Scanner_end_text (T : Txt K w mg) (ER : ErrT P w K mg base ec) (SC0 : ScT K mg C) :
    OkM P w K mg base C (L2.CX P w) 3 "end_text" p_Scanner_end_text (spEndText ec C) := by
  refine SC0.g_end_text.okX sc_Scanner_end_text (fun vs H Q E h => ?_) (fun f cdv A outer sh H vs Q E hr h => ?_)
  · obtain ⟨H0, p, s, rfl, _⟩ := h; rfl
  obtain ⟨H0, p, s, rfl, ⟨dx, lm, lb, li, A⟩, hs, hM, q⟩ := h
  have zk : Str.ofString "end" = S (Kd.cp .fin) ∧ Str.ofString "dedent" = S (Kd.cp .dedent) ∧ Str.ofString "" = S [] := by decide +kernel
  have ll := lim_line
  obtain ⟨vb, hvb, hvm⟩ := A.hb
  obtain ⟨vm, hv, hvv⟩ := A.hm
  have nt : ∀ (s2 : Sc) (H2 : Hp) (u : Addr), ScA C H0 H2 p dx lm lb li s2 → True := fun _ _ _ _ => trivial
  refine split_at 3 (fun t => s.br = [] → t { nx := fun _ H' => Q .non H', rt := Q } [some (.ref p), some (.int (lastLn s : Nat)), none] H) ?_ (fun t ht hg => ?_)
  · refine ⟨_, (pss_cons (ps_for (passes_of rfl) rfl (pi_list (pe_slice sl_list (pe_fld (pv 0) rfl) (po_some pe_int) po_none)) (pg_name (i := 2) sc_Scanner_end_text.nd rfl (Or.inl rfl)) (pss_one (ps_expr (pe_bm PySem.F.plainAttrs_list PySem.F.slot_list_append PySem.F.type_list_append mt_append (pe_fld (pv 0) rfl) (pa_cons (pe_tup (pa_cons pe_str (pa_cons pe_str (pa_cons (pv 1) (pa_cons pe_int pa_nil))))) pa_nil)))))
      (pss_one (ps_expr (pe_bm PySem.F.plainAttrs_list PySem.F.slot_list_append PySem.F.type_list_append mt_append (pe_fld (pv 0) rfl) (pa_cons (pe_tup (pa_cons pe_str (pa_cons pe_str (pa_cons (pv 1) (pa_cons pe_int pa_nil))))) pa_nil))))), ?_⟩
    intro hbr
    have ee : endText s = .ok { s with marks := (s.marks ++ List.replicate (s.ind.length - 1) (dedent (lastLn s) 1)) ++ [⟨.fin, .s [], lastLn s, 1⟩] } := by
      unfold endText
      split
      · rename_i h; rw [hbr] at h; cases h
      · rfl
    rw [ee] at q
    have q : ∀ H', ScAt C H0 H' p { s with marks := (s.marks ++ List.replicate (s.ind.length - 1) (dedent (lastLn s) 1)) ++ [⟨.fin, .s [], lastLn s, 1⟩] } → Q .non H' := q
    refine ⟨_, rfl, p, C, dx, _, _, rfl, A.hp, SC0.cl, SC0.n_indents, lk_I, ?_⟩
    refine ⟨1, rfl, li, _, rfl, SqL.of A.hi, fun D hD => ?_⟩
    have hcl := cutV_len (s.ind.reverse.map fun n => V.int (n : Nat))
    rw [List.length_map, List.length_reverse] at hcl
    generalize cutV (s.ind.reverse.map fun n => V.int (n : Nat)) (some (1 : Int)) none = ys at *
    have A1 := A.fresh (o := .lst ys) hD
    refine ⟨D, rfl, ⟨ys, SqL.of upd_same⟩, for_it (walk_list (xs := ys)) (fun j σ H' => (∃ y, σ = [some (.ref p), some (.int (lastLn s : Nat)), y]) ∧ H' D = some (.lst ys) ∧ ScA C H0 H' p dx lm lb li { s with marks := s.marks ++ List.replicate j (dedent (lastLn s) 1) })
      ⟨⟨none, rfl⟩, upd_same, by show ScA C H0 _ p dx lm lb li { s with marks := s.marks ++ [] }; rw [List.append_nil]; exact A1⟩ (fun j σ H' _ h => SqL.of h.2.1) ?_ ?_⟩
    · rintro j x σ H1 H2 hj ⟨⟨y, rfl⟩, hD1, A2⟩ ⟨rfl, hx⟩
      obtain ⟨vs, hvs, hvms⟩ := A2.hm
      refine ⟨_, rfl, p, C, dx, _, _, rfl, A2.hp, SC0.cl, SC0.n_marks, lk_M, .inl ⟨rfl, _, SqL.of hvs⟩, _, rfl, four, fun u hu => ?_⟩
      have A3 := A2.fresh (o := .tup [.str (Str.ofString "dedent"), .str (Str.ofString ""), .int (lastLn s : Nat), .int 1]) hu
      obtain ⟨vs', hv', hvm'⟩ := A3.hm
      refine ⟨lm, _, _, rfl, rfl, hv', ?_, ?_⟩
      · rw [hvm'.1]
        show (s.marks ++ List.replicate j _).length < _
        rw [List.length_append, List.length_replicate]
        have := hs.il
        omega
      · have A5 := A3.mark (m := dedent (lastLn s) 1) hv' (by rw [upd_same, zk.2.1, zk.2.2]; rfl)
        refine ⟨⟨_, rfl⟩, ?_, ?_⟩
        · have nd : D ≠ lm := fun z => by rw [z, hv] at hD; cases hD
          rw [upd_ne nd]; exact (same_new hu _) _ _ hD1
        · have e : (s.marks ++ List.replicate j (dedent (lastLn s) 1)) ++ [dedent (lastLn s) 1] = s.marks ++ List.replicate (j + 1) (dedent (lastLn s) 1) := by rw [List.append_assoc, ← List.replicate_succ']
          rw [← e]
          exact A5
    · rintro σ H1 ⟨⟨y, rfl⟩, hD1, A2⟩
      rw [hcl] at A2
      obtain ⟨vs, hvs, hvms⟩ := A2.hm
      refine ⟨_, rfl, p, C, dx, _, _, rfl, A2.hp, SC0.cl, SC0.n_marks, lk_M, .inl ⟨rfl, _, SqL.of hvs⟩, _, rfl, four, fun u hu => ?_⟩
      have A3 := A2.fresh (o := .tup [.str (Str.ofString "end"), .str (Str.ofString ""), .int (lastLn s : Nat), .int 1]) hu
      obtain ⟨vs', hv', hvm'⟩ := A3.hm
      refine ⟨lm, _, _, rfl, rfl, hv', ?_, ?_⟩
      · rw [hvm'.1]
        show (s.marks ++ List.replicate _ _).length < _
        rw [List.length_append, List.length_replicate]
        have := hs.il
        omega
      · exact q _ ⟨dx, lm, lb, li, A3.mark (m := ⟨.fin, .s [], lastLn s, 1⟩) hv' (by rw [upd_same, zk.1, zk.2.2]; rfl)⟩
  · refine ⟨_, pss_cons (ps_if (pt_truth (pe_fld (pv 0) rfl) (fun _ => rfl)) (pss_one (ps_raise rfl (takes_of rfl rfl rfl rfl) (pmk_err ER .token hr (pa_cons (pe_ix ix_tup (pe_ix ix_list (pe_fld (pv 0) rfl) (pe_un un_neg pe_int) (fun _ _ => rfl)) pe_int (fun _ _ => rfl)) (pa_cons (pe_ix ix_tup (pe_ix ix_list (pe_fld (pv 0) rfl) (pe_un un_neg pe_int) (fun _ _ => rfl)) pe_int (fun _ _ => rfl)) pa_nil))))) pss_nil) (pss_cons (ps_set (i := 1) sc_Scanner_end_text.nd rfl (.inl rfl) pe_int) (pss_cons
      (ps_if (pt_truth (pe_fld (pv 0) rfl) (fun _ => rfl)) (pss_one (ps_set (i := 1) sc_Scanner_end_text.nd rfl (.inl rfl) (pe_op op_add (pe_ix ix_tup (pe_ix ix_list (pe_fld (pv 0) rfl) (pe_un un_neg pe_int) (fun _ _ => rfl)) pe_int (fun _ _ => rfl)) pe_int))) pss_nil) ht)), ?_⟩
    refine ⟨_, rfl, p, C, dx, _, _, rfl, A.hp, SC0.cl, SC0.n_brackets, lk_B, _, .inl ⟨vb, SqL.of hvb, rfl⟩, ?_⟩
    cases hbr : s.br with
    | cons b r =>
      have hvm' := hvm
      rw [hbr] at hvm'
      obtain ⟨ab, t1, t2, t3⟩ := hvm'.top
      have hem : (!vb.isEmpty) = true := by
        cases vb with
        | nil => have := hvm'.1; simp at this
        | cons x y => rfl
      have a2 : atI b.vs (2 : Int) = some (.int (b.ln : Nat)) := atI_nat (j := 2) rfl
      have a3 : atI b.vs (3 : Int) = some (.int (b.col : Nat)) := atI_nat (j := 3) rfl
      unfold endText at q
      rw [hbr] at q
      refine iteT' hem ?_
      exact ⟨_, rfl, p, C, dx, _, _, rfl, A.hp, SC0.cl, SC0.n_brackets, lk_B, 1, rfl, lb, _, -1, _, rfl, rfl, SqL.of hvb, t1, ab, _, 2, _, rfl, rfl, SqT.of t3, a2,
        _, rfl, p, C, dx, _, _, rfl, A.hp, SC0.cl, SC0.n_brackets, lk_B, 1, rfl, lb, _, -1, _, rfl, rfl, SqL.of hvb, t1, ab, _, 3, _, rfl, rfl, SqT.of t3, a3, rz_mk ER (rz_up A.sm q)⟩
    | nil =>
      have hem : (!vb.isEmpty) = false := by
        have := hvm.1
        rw [hbr] at this
        rw [List.eq_nil_of_length_eq_zero this]; rfl
      refine iteF' hem ?_
      have hg := hg hbr
      refine ⟨_, rfl, p, C, dx, _, _, rfl, A.hp, SC0.cl, SC0.n_marks, lk_M, _, .inl ⟨vm, SqL.of hv, rfl⟩, ?_⟩
      cases hl : s.marks.getLast? with
      | none =>
        have hn : s.marks = [] := List.getLast?_eq_none_iff.mp hl
        have hem2 : (!vm.isEmpty) = false := by
          have := hvv.1
          rw [hn] at this
          rw [List.eq_nil_of_length_eq_zero this]; rfl
        have e : lastLn s = 1 := by unfold lastLn; rw [hl]
        rw [e] at hg
        exact iteF' hem2 hg
      | some m =>
        obtain ⟨am, t1, t3⟩ := hvv.last hl
        have hem2 : (!vm.isEmpty) = true := by
          cases vm with
          | nil =>
            have := hvv.1
            have hn : s.marks = [] := List.eq_nil_of_length_eq_zero this.symm
            rw [hn] at hl; cases hl
          | cons x y => rfl
        have a2 : atI m.vs (2 : Int) = some (.int (m.ln : Nat)) := atI_nat (j := 2) rfl
        have e : lastLn s = m.ln + 1 := by unfold lastLn; rw [hl]
        rw [e] at hg
        exact iteT' hem2 ⟨_, rfl, p, C, dx, _, _, rfl, A.hp, SC0.cl, SC0.n_marks, lk_M, 1, rfl, lm, _, -1, _, rfl, rfl, SqL.of hv, t1, am, _, 2, _, rfl, rfl, SqT.of t3, a2, _, _, rfl, rfl, hg⟩
end
end D0
namespace D0
open PySem PySem.Spec PyProof.Rows L2 SX NumText
theorem runRow_ok {l : List Nat} {ln : Nat} : ∀ {f at_ : Nat} {s s' : Sc}, runRow l ln f at_ s = .ok s' → SI s → at_ ≤ l.length → SI s' ∧ s'.marks.length + 14 * at_ ≤ s.marks.length + 14 * l.length
  | 0, at_, s, s', h, hs, ha => by
    have : s = s' := by unfold runRow at h; exact Except.ok.inj h
    subst this; exact ⟨hs, by omega⟩
  | f + 1, at_, s, s', h, hs, ha => by
    unfold runRow at h
    by_cases hh : here l at_ = true
    · rw [if_pos hh] at h
      have hat : at_ < l.length := by
        unfold here at hh
        rw [Bool.and_eq_true] at hh
        exact of_decide_eq_true hh.1
      cases hst : stepR l ln at_ s with
      | error e => rw [hst] at h; cases h
      | ok r =>
        rw [hst] at h
        have h : runRow l ln f r.1 r.2 = .ok s' := h
        unfold stepR at hst
        cases hb : beg ln at_ s with
        | error e => rw [hb] at hst; cases hst
        | ok s1 =>
          rw [hb] at hst
          have hst : tokS l ln at_ s1 = .ok r := hst
          have h1 : SI s1 ∧ s1.marks.length ≤ s.marks.length + 13 := by
            unfold beg at hb
            split at hb
            · have := begin_ok hb hs; exact ⟨this.1, this.2.1⟩
            · cases hb; exact ⟨hs, by omega⟩
          obtain ⟨g1, g2, g3, g4⟩ := tokS_ok hat h1.1 hst
          obtain ⟨k1, k2⟩ := runRow_ok h g3 g2
          exact ⟨k1, by omega⟩
    · rw [if_neg hh] at h
      cases h
      exact ⟨hs, by omega⟩
theorem scanRow_ok {l : List Nat} {ln : Nat} {s s' : Sc} (h : scanRow l ln s = .ok s') (hs : SI s) (hl : l.length ≤ 120) : SI s' ∧ s'.marks.length ≤ s.marks.length + 1700 := by
  unfold scanRow at h
  cases hr : runRow l ln (l.length + 1) (twl spc l 0) s with
  | error e => rw [hr] at h; cases h
  | ok s1 =>
    rw [hr] at h
    obtain ⟨h1, h2⟩ := runRow_ok hr hs (twl_le (Nat.zero_le _))
    cases h
    unfold fin
    split
    · rename_i c
      refine ⟨⟨h1.ind, h1.il, h1.brw, by show s1.br.length ≤ 0; rw [c.2]; exact Nat.le_refl _, Nat.zero_le _⟩, ?_⟩
      show (s1.marks ++ [_]).length ≤ _
      rw [List.length_append]; simp only [List.length_cons, List.length_nil]; omega
    · exact ⟨h1, by omega⟩
def scanRows : List (List Nat) → Nat → Sc → Except Er3 Sc
  | [], _, s => .ok s
  | r :: rs, ln, s => (scanRow r ln s).bind (scanRows rs (ln + 1))
def tokensP (l : List Nat) : Except Er3 (List Mk) := (checkRows l).bind fun rs => (scanRows rs 1 sc0).bind fun s => (endText s).map Sc.marks
def spTokens (ec : Er → Addr) : Sp := fun vs H Q E => ∃ (l : List Nat), vs = [.str (S l)] ∧ l.length ≤ big ∧
  (∀ e, tokensP l = .error e → Rz ec e.1 (e.2.1 : Nat) (e.2.2 : Nat) H E) ∧ (∀ ms, tokensP l = .ok ms → ∀ H' q us, Same H H' → H q = none → H' q = some (.lst us) → Mks H' us ms → Q (.ref q) H')
theorem longAt_le : ∀ {rs : List (List Nat)} {n : Nat}, longAt rs n = none → ∀ r ∈ rs, r.length ≤ 120
  | [], _, _, r, hr => by cases hr
  | x :: rs, n, h, r, hr => by
    unfold longAt at h
    split at h
    · cases h
    · rename_i c
      rcases List.mem_cons.mp hr with rfl | hr
      · omega
      · exact longAt_le h r hr
theorem checkRows_ok {l : List Nat} {rs : List (List Nat)} (h : checkRows l = .ok rs) : rs.length ≤ 6001 ∧ (∀ r ∈ rs, r.length ≤ 120) ∧ rs = rowsOf l := by
  unfold checkRows at h
  split at h
  · cases h
  rename_i c
  split at h
  · cases h
  split at h
  · cases h
  rename_i hlo
  cases h
  have := (spl_count l []).1
  exact ⟨by show (TL.spl [10] 0 [] l).length ≤ 6001; omega, longAt_le hlo, rfl⟩
theorem SI0 : SI sc0 := ⟨⟨rfl, by show 1 ≤ 12; decide⟩, (by show 1 ≤ 11; decide), (fun b hb => by cases hb), Nat.le_refl _, Nat.zero_le _⟩
section
variable {P : Program} {w : World} {K : PySem.W.Frag} {mg : Str → Option Value} {base : Heap} {ec : Er → Addr} {C : Addr}
theorem ok_tokens (T : Txt K w mg) (ER : ErrT P w K mg base ec) (SC0 : ScT K mg C) (Ocr : OkD P w K mg base (L2.CX P w) 4 "checked_rows" p_checked_rows (spRows ec))
    (OS : OkM P w K mg base C (L2.CX P w) 5 "scan_row" p_Scanner_scan_row (spScanRow ec C)) (OT : OkM P w K mg base C (L2.CX P w) 3 "end_text" p_Scanner_end_text (spEndText ec C)) :
    OkD P w K mg base (L2.CX P w) 6 "tokens" p_tokens (spTokens ec) := by
  obtain ⟨fI', fd', M, bI, FI⟩ := SC0.ini
  have GI := ok_Scanner___init__ (P := P) (w := w) (base := base) SC0 FI
  refine T.g_tokens.okX sc_tokens (fun vs H Q E h => ?_) (fun f cdv A outer sh H vs Q E hr h => ?_)
  · obtain ⟨l, rfl, _⟩ := h; rfl
  obtain ⟨l, rfl, hl, q1, q2⟩ := h
  have limv : lim = 12000000 := rfl
  refine ⟨_, (pss_cons (ps_set (i := 1) sc_tokens.nd rfl (.inl rfl) (pcallE Ocr hr (passes_call (takes_of rfl rfl rfl rfl) (fun _ _ _ _ h => h)) (pa_cons (pv 0) pa_nil)))
      (pss_cons (ps_set (i := 2) sc_tokens.nd rfl (.inl rfl) (pe_make0 M GI (hr.mono (by decide)) rfl SC0.gl bI .nil pass0))
      (pss_cons (ps_for (passes_of rfl) rfl (pi_enumC (by rfl) T.z_enumerate (pa_cons (pv 1) pa_nil) pe_int) (pg_tup (by rfl) (pgs_cons (pg_name (i := 3) sc_tokens.nd rfl (Or.inl rfl)) (pgs_cons (pg_name (i := 4) sc_tokens.nd rfl (Or.inl rfl)) pgs_nil))) (pss_one (ps_expr (pmethE OS SC0.cl hr (passes_call (takes_of rfl rfl rfl rfl) (fun _ _ _ _ h => h)) (pv 2) (pa_cons (pv 4) (pa_cons (pv 3) pa_nil))))))
      (pss_cons (ps_expr (pmeth0 OT SC0.cl hr (passes_call (takes_of rfl rfl rfl rfl) (fun _ _ _ _ h => h)) (pv 2)))
      (pss_one (ps_ret (pe_fld (pv 2) rfl))))))), ?_⟩
  unfold tokensP at q1 q2
  refine ⟨_, rfl, l, rfl, hl, fun e he => ?_, fun rs he H1 p sm1 hp0 hp1 => ?_⟩
  · rw [he] at q1; exact q1 e rfl
  rw [he] at q1 q2
  have q1 : ∀ e, ((scanRows rs 1 sc0).bind fun s => (endText s).map Sc.marks) = .error e → Rz ec e.1 (e.2.1 : Nat) (e.2.2 : Nat) H E := q1
  have q2 : ∀ ms, ((scanRows rs 1 sc0).bind fun s => (endText s).map Sc.marks) = .ok ms → ∀ H' q us, Same H H' → H q = none → H' q = some (.lst us) → Mks H' us ms → Q (.ref q) H' := q2
  obtain ⟨hc1, hc2, _⟩ := checkRows_ok he
  intro x dx nx ndx nex
  have s0 : Same H1 (upd (upd H1 dx (.own x)) x (.ins C dx [])) := fun b o e => by
    rw [upd_ne (ne_of_none e nx), upd_ne (ne_of_none e ndx)]
    exact e
  refine ⟨H1, x, dx, rfl, s0, nx, upd_same, fun H2 A2 => ⟨rfl, ?_⟩⟩
  have hsm : ∀ {H' : Hp} {s : Sc}, ScAt C H1 H' x s → Same H1 H' := fun ⟨_, _, _, _, A⟩ => A.sm
  have hrl : (rs.map fun r => V.str (S r)).length = rs.length := List.length_map ..
  refine ⟨_, rfl, p, _, rfl, SqL.of (hsm A2 _ _ hp1), for_it walk_enumC (fun j σ H' => ∃ (s1 : Sc) (y z : Option V), σ = [some (.str (S l)), some (.ref p), some (.ref x), y, z] ∧ ScAt C H1 H' x s1 ∧ SI s1 ∧ s1.marks.length ≤ 1700 * j ∧ scanRows rs 1 sc0 = scanRows (rs.drop j) (1 + j) s1)
    ⟨sc0, none, none, rfl, A2, SI0, Nat.zero_le _, rfl⟩ (fun j σ H' _ ⟨_, _, _, _, A, _⟩ => SqL.of (hsm A _ _ hp1)) ?_ ?_⟩
  · rintro j v σ H3 H4 hj ⟨s1, y, z, rfl, ⟨dx', lm, lb, li, A3⟩, hs1, hm1, hsc⟩ ⟨T', x1, rfl, hT, rfl, hx⟩
    rw [List.getElem?_map] at hx
    obtain ⟨r, hrj, rfl⟩ := Option.map_eq_some_iff.mp hx
    have hrm : r ∈ rs := List.mem_of_getElem? hrj
    have hjl := (List.getElem?_eq_some_iff.mp hrj).1
    have hd : rs.drop j = r :: rs.drop (j + 1) := by
      rw [List.drop_eq_getElem_cons hjl]
      congr 1
      exact Option.some.inj ((List.getElem?_eq_getElem hjl).symm.trans hrj)
    rw [hd] at hsc
    have hsc : scanRows rs 1 sc0 = (scanRow r (1 + j) s1).bind (scanRows (rs.drop (j + 1)) (1 + j + 1)) := hsc
    have A4 := A3.fresh (o := .tup [.int (1 + (j : Nat)), .str (S r)]) hT
    refine ⟨T', _, rfl, SqT.of upd_same, rfl, _, _, rfl, _, [], rfl, rfl, ?_⟩
    refine ⟨_, rfl, x, dx', _, rfl, A4.hp, pf_no no_names.2.2.2.1, _, rfl, _, rfl, H1, x, s1, r, 1 + j, ?_, hc2 r hrm, ⟨dx', lm, lb, li, A4⟩, hs1, by omega, ?_⟩
    · rw [show ((1 + j : Nat) : Int) = 1 + (j : Nat) by omega]; rfl
    cases hsr : scanRow r (1 + j) s1 with
    | error e =>
      rw [hsr] at hsc
      rw [hsc] at q1
      exact rz_up sm1 (q1 e rfl)
    | ok s2 =>
      rw [hsr] at hsc
      obtain ⟨g1, g2⟩ := scanRow_ok hsr hs1 (hc2 r hrm)
      intro H5 A5
      exact ⟨s2, _, _, rfl, A5, g1, by omega, by rw [hsc, show 1 + (j + 1) = 1 + j + 1 by omega]; rfl⟩
  · rintro σ H3 ⟨s1, y, z, rfl, ⟨dx', lm, lb, li, A3⟩, hs1, hm1, hsc⟩
    rw [hrl, List.drop_length] at hsc
    rw [hrl] at hm1
    rw [hsc] at q1 q2
    have q1 : ∀ e, (endText s1).map Sc.marks = .error e → Rz ec e.1 (e.2.1 : Nat) (e.2.2 : Nat) H E := q1
    have q2 : ∀ ms, (endText s1).map Sc.marks = .ok ms → ∀ H' q us, Same H H' → H q = none → H' q = some (.lst us) → Mks H' us ms → Q (.ref q) H' := q2
    refine ⟨_, rfl, x, dx', _, rfl, A3.hp, pf_no no_names.2.2.2.2, H1, x, s1, rfl, ⟨dx', lm, lb, li, A3⟩, hs1, by omega, ?_⟩
    cases het : endText s1 with
    | error e => rw [het] at q1; exact rz_up sm1 (q1 e rfl)
    | ok s2 =>
      rw [het] at q2
      rintro H4 ⟨dx2, lm2, lb2, li2, A5⟩
      obtain ⟨us, hus, hms⟩ := A5.hm
      refine ⟨_, rfl, x, C, dx2, _, _, rfl, A5.hp, SC0.cl, SC0.n_marks, lk_M, ?_⟩
      exact q2 s2.marks rfl H4 lm2 us (sm1.trans A5.sm) (sm1.free A5.m0) hus hms
end
end D0
namespace D0
open PySem PySem.Spec PyProof.Rows L2 SX NumText
/-- a bag: a list of three ints -/
def Bag (H : Hp) (b : Addr) : Prop := ∃ c s n : Int, H b = some (.lst [.int c, .int s, .int n])
/-- all but the bag stays -/
structure Stp (b : Addr) (H H' : Hp) : Prop where
  b0 : Bag H b
  b1 : Bag H' b
  keep : ∀ a o, a ≠ b → H a = some o → H' a = some o
theorem Stp.trans {b : Addr} {H H1 H2 : Hp} (x : Stp b H H1) (y : Stp b H1 H2) : Stp b H H2 := ⟨x.b0, y.b1, fun a o n e => y.keep a o n (x.keep a o n e)⟩
theorem Stp.refl {b : Addr} {H : Hp} (x : Bag H b) : Stp b H H := ⟨x, x, fun _ _ _ e => e⟩
theorem Bag.same {b : Addr} {H H' : Hp} (x : Bag H b) (s : Same H H') : Bag H' b := by obtain ⟨c, t, n, e⟩ := x; exact ⟨c, t, n, s _ _ e⟩
theorem Stp.same {b : Addr} {H H' : Hp} (x : Bag H b) (s : Same H H') : Stp b H H' := ⟨x, x.same s, fun a o _ e => s a o e⟩
theorem Bag.ne {b a : Addr} {H : Hp} (x : Bag H b) (h : H a = none) : a ≠ b := by obtain ⟨c, t, n, e⟩ := x; exact (ne_of_none e h).symm
theorem Bag.ne_tup {b a : Addr} {H : Hp} {vs : List V} (x : Bag H b) (h : H a = some (.tup vs)) : a ≠ b := by
  obtain ⟨c, t, n, e⟩ := x
  intro z; rw [z, e] at h; cases h
def spBag (K : PySem.W.Frag) : Sp := fun vs H Q _ => ∃ (a : Addr) (ns : List Int) (k : Nat), vs = [.ref a, .int k] ∧ SqL K H a (ns.map V.int) ∧ ns.length ≤ 63 ∧ k ≤ 1 ∧ ∀ p H', Same H H' → H p = none → Bag H' p → Q (.ref p) H'
def spTake : Sp := fun vs H Q _ => ∃ (b : Addr) (n : Int), vs = [.ref b, .int n] ∧ Bag H b ∧ 0 < n ∧ n < 1000000000 ∧ ∀ r H', 0 ≤ r → r < n → Stp b H H' → Q (.int r) H'
section
variable {P : Program} {w : World} {K : PySem.W.Frag} {mg : Str → Option Value} {base : Heap}
theorem ok__law_bag (T : Txt K w mg) : OkD P w K mg base CX0 1 "_law_bag" p__law_bag (spBag K) := by
  refine T.g__law_bag.ok sc__law_bag (fun vs H Q E h => ?_) (fun f cdv A outer s H vs Q E hr h => ?_)
  · obtain ⟨a, ns, k, rfl, _⟩ := h; rfl
  obtain ⟨a, ns, k, rfl, hS, h63, hk, q⟩ := h
  refine split_at 3 (fun t => ∀ c : Int, t { nx := fun _ H' => Q .non H', rt := Q } [some (.ref a), some (.int (k : Nat)), some (.int c), none, none] H) ?_ (fun t ht hg => ?_)
  rotate_left
  · refine ⟨_, pss_cons (ps_set (i := 2) sc__law_bag.nd rfl (.inl rfl) pe_int) (pss_cons (ps_if (pt_cmpR op_lt (pv 1) (pe_callB call_len_seq (by rfl) T.z_len PySem.boot_len (pa_cons (pv 0) pa_nil)) (nomark _)) (pss_one (ps_set (i := 2) sc__law_bag.nd rfl (.inl rfl) (pe_ix ix_list (pv 0) (pv 1) (fun _ _ => rfl)))) pss_nil) (pss_cons (ps_if (pt_cmpR op_lt (pv 2) pe_int (nomark _)) (pss_one (ps_set (i := 2) sc__law_bag.nd rfl (.inl rfl) (pe_op op_sub pe_int (pv 2)))) pss_nil) ht)), ?_⟩
    refine ⟨_, rfl, _, rfl, a, _, rfl, .inl hS, _, _, rfl, rfl, _, rfl, ite2 (fun c => ?_) (fun c => ?_)⟩
    · have c := of_decide_eq_true c
      have c : (k : Int) < ((ns.map V.int).length : Int) := c
      rw [List.length_map] at c
      have hkl : k < ns.length := by omega
      refine ⟨_, rfl, _, rfl, a, _, _, .int ns[k], rfl, rfl, hS, atI_nat (by rw [List.getElem?_map, List.getElem?_eq_getElem hkl]; rfl), ?_⟩
      refine ⟨_, rfl, _, _, rfl, rfl, _, rfl, ite2 (fun c => ?_) (fun c => hg _)⟩
      refine ⟨_, rfl, _, _, rfl, rfl, hg _⟩
    · refine ⟨_, rfl, _, _, rfl, rfl, _, rfl, ite2 (fun c => ?_) (fun c => hg _)⟩
      refine ⟨_, rfl, _, _, rfl, rfl, hg _⟩
  · refine ⟨_, (pss_cons (ps_set (i := 3) sc__law_bag.nd rfl (.inl rfl) (pe_op op_mul pe_int (pe_op op_add (pv 1) pe_int)))
      (pss_cons (ps_for PassesOwn.never rfl (pi_list (pe_slice sl_list (pv 0) po_none (po_some pe_int))) (pg_name (i := 4) sc__law_bag.nd rfl (Or.inl rfl)) (pss_one (ps_set (i := 3) sc__law_bag.nd rfl (.inl rfl) (pe_op op_mod (pe_callTy call_int1 (by rfl) T.z_int PyProof.Rows.boot_int (pa_cons (pe_op op_add (pe_op op_add (pe_op op_mul (pv 3) pe_int) (pe_op op_mod (pe_callTy call_int1 (by rfl) T.z_int PyProof.Rows.boot_int (pa_cons (pv 4) pa_nil)) pe_int)) pe_int) pa_nil)) pe_int))))
      (pss_cons (ps_if (pt_cmpR op_lt (pv 2) (pe_op op_pow pe_int pe_int) (nomark _)) (pss_one (ps_set (i := 2) sc__law_bag.nd rfl (.inl rfl) pe_int)) pss_nil)
      (pss_one (ps_ret (pe_lst (pa_cons (pv 2) (pa_cons (pv 3) (pa_cons pe_int pa_nil))))))))), ?_⟩
    intro c
    refine ⟨_, rfl, _, _, rfl, rfl, _, _, rfl, rfl, .inl ⟨by decide, by decide⟩, ?_⟩
    refine ⟨_, rfl, 63, rfl, a, _, rfl, hS, fun p hp => ⟨p, rfl, ⟨_, SqL.of upd_same⟩, ?_⟩⟩
    have mem : ∀ x ∈ cutV (ns.map V.int) none (some 63), ∃ i : Int, x = V.int i := fun x hx => by
      have : x ∈ ns.map V.int := List.mem_of_mem_drop (List.mem_of_mem_take hx)
      obtain ⟨i, _, e⟩ := List.mem_map.mp this
      exact ⟨i, e.symm⟩
    generalize cutV (ns.map V.int) none (some 63) = xs at mem
    have sm : Same H (upd H p (.lst xs)) := same_new hp _
    refine for_it (walk_list (xs := xs)) (fun j σ H' => ∃ (e : Int) (y : Option V), σ = [some (.ref a), some (.int (k : Nat)), some (.int c), some (.int e), y] ∧ H' = upd H p (.lst xs)) ⟨_, none, rfl, rfl⟩ (fun j σ H' _ h => by obtain ⟨_, _, _, rfl⟩ := h; exact SqL.of upd_same) ?_ ?_
    · rintro j x σ H1 H2 hj ⟨e, y, rfl, rfl⟩ ⟨rfl, hx⟩
      obtain ⟨i, rfl⟩ := mem x (List.mem_of_getElem? hx)
      refine ⟨_, rfl, _, _, rfl, rfl, .inr ⟨by decide, by decide⟩, _, rfl, .inl ⟨_, rfl, _, _, rfl, rfl, (by show (0 : Int) < _; decide), _, _, rfl, rfl, _, _, rfl, rfl, .inl ⟨_, rfl, _, _, rfl, rfl, (by show (0 : Int) < _; decide), ?_⟩⟩⟩
      exact ⟨_, some (.int i), rfl, rfl⟩
    · rintro σ H1 ⟨e, y, rfl, rfl⟩
      refine ⟨_, rfl, _, _, rfl, rfl, ⟨by decide, by decide, by decide⟩, _, _, rfl, rfl, _, rfl, ite2 (fun c => ?_) (fun c => ?_)⟩
      · refine ⟨_, rfl, _, rfl, by show 3 ≤ sizeLine; decide, fun z hz => ?_⟩
        exact q z _ (sm.trans (same_new hz _)) (sm.free hz) ⟨_, _, _, upd_same⟩
      · refine ⟨_, rfl, _, rfl, by show 3 ≤ sizeLine; decide, fun z hz => ?_⟩
        exact q z _ (sm.trans (same_new hz _)) (sm.free hz) ⟨_, _, _, upd_same⟩
theorem ok__law_take (T : Txt K w mg) : OkD P w K mg base CX0 1 "_law_take" p__law_take spTake := by
  refine T.g__law_take.ok sc__law_take (fun vs H Q E h => ?_) (fun f cdv A outer s H vs Q E hr h => ?_)
  · obtain ⟨b, n, rfl, _⟩ := h; rfl
  obtain ⟨b, n, rfl, ⟨c, sd, m, hb⟩, hn0, hn1, q⟩ := h
  refine ⟨_, (pss_cons (ps_asg (pe_op op_add (pe_ix ix_list (pv 0) pe_int (fun _ _ => rfl)) pe_int) (pg_sub (pv 0) pe_int set_list))
      (pss_cons (ps_if (pt_cmpR op_gt (pe_ix ix_list (pv 0) pe_int (fun _ _ => rfl)) pe_int (nomark _)) (pss_cons (ps_set (i := 2) sc__law_take.nd rfl (.inl rfl) (pe_op op_mod (pe_callTy call_int1 (by rfl) T.z_int PyProof.Rows.boot_int (pa_cons (pe_ix ix_list (pv 0) pe_int (fun _ _ => rfl)) pa_nil)) (pv 1)))
      (pss_cons (ps_asg (pe_op op_fdiv (pe_ix ix_list (pv 0) pe_int (fun _ _ => rfl)) (pv 1)) (pg_sub (pv 0) pe_int set_list))
      (pss_one (ps_ret (pv 2))))) pss_nil)
      (pss_cons (ps_set (i := 3) sc__law_take.nd rfl (.inl rfl) (pe_op op_mod (pe_callTy call_int1 (by rfl) T.z_int PyProof.Rows.boot_int (pa_cons (pe_op op_add (pe_op op_mul (pe_ix ix_list (pv 0) pe_int (fun _ _ => rfl)) pe_int) (pe_op op_mul (pe_ix ix_list (pv 0) pe_int (fun _ _ => rfl)) pe_int)) pa_nil)) pe_int))
      (pss_cons (ps_set (i := 4) sc__law_take.nd rfl (.inl rfl) (pe_op op_mod (pe_callTy call_int1 (by rfl) T.z_int PyProof.Rows.boot_int (pa_cons (pe_op op_add (pe_op op_add (pe_op op_mul (pe_op op_fdiv (pv 3) pe_int) (pv 3)) (pe_op op_mul (pe_ix ix_list (pv 0) pe_int (fun _ _ => rfl)) pe_int)) pe_int) pa_nil)) pe_int))
      (pss_one (ps_ret (pe_op op_mod (pe_op op_fdiv (pe_op op_mod (pe_callTy call_int1 (by rfl) T.z_int PyProof.Rows.boot_int (pa_cons (pe_op op_add (pe_op op_mul (pv 4) pe_int) (pe_ix ix_list (pv 0) pe_int (fun _ _ => rfl))) pa_nil)) pe_int) pe_int) (pv 1)))))))), ?_⟩
  have k64 : (-(2 ^ 64) : Int) < 48271 := by decide
  refine ⟨_, rfl, b, _, 2, _, rfl, rfl, SqL.of hb, rfl, _, _, rfl, rfl, ?_⟩
  refine ⟨_, rfl, b, _, 2, 2, rfl, rfl, hb, rfl, ?_⟩
  refine ⟨_, rfl, b, _, 0, _, rfl, rfl, SqL.of upd_same, rfl, _, _, rfl, rfl, _, rfl, ?_⟩
  refine ite2 (fun cc => ?_) (fun cc => ?_)
  · refine ⟨_, rfl, b, _, 0, _, rfl, rfl, SqL.of upd_same, rfl, .inl ⟨_, rfl, _, rfl, _, _, rfl, rfl, hn0, ?_⟩⟩
    refine ⟨_, rfl, b, _, 0, _, rfl, rfl, SqL.of upd_same, rfl, _, rfl, _, _, rfl, rfl, ⟨hn0, by omega⟩, ?_⟩
    refine ⟨_, rfl, b, _, 0, 0, rfl, rfl, upd_same, rfl, ?_⟩
    refine ⟨_, rfl, ?_⟩
    rw [upd_upd]
    exact q _ _ (Int.emod_nonneg _ (by omega)) (Int.emod_lt_of_pos _ hn0) ⟨⟨_, _, _, hb⟩, ⟨_, _, _, upd_same⟩, fun a o n e => by rw [upd_ne n]; exact e⟩
  · refine ⟨_, rfl, b, _, 1, _, rfl, rfl, SqL.of upd_same, rfl, _, _, rfl, rfl, .inr ⟨by decide, by decide⟩, _, rfl, b, _, 2, _, rfl, rfl, SqL.of upd_same, rfl, _, _, rfl, rfl, .inr ⟨by decide, by decide⟩, _, _, rfl, rfl, .inl ⟨_, rfl, _, _, rfl, rfl, (by show (0 : Int) < _; decide), ?_⟩⟩
    obtain ⟨f1, hf1⟩ : ∃ f1 : Int, f1 = (sd * 48271 + (m + 1) * 1299709) % 2147483647 := ⟨_, rfl⟩
    have hf0 : 0 ≤ f1 := by rw [hf1]; exact Int.emod_nonneg _ (by decide)
    have hf2 : f1 < 2147483647 := by rw [hf1]; exact Int.emod_lt_of_pos _ (by decide)
    refine ⟨_, rfl, _, _, rfl, rfl, ⟨by decide, by decide⟩, _, rfl, _, _, rfl, rfl, .inr ?_, _, rfl, b, _, 2, _, rfl, rfl, SqL.of upd_same, rfl, _, _, rfl, rfl, .inr ⟨by decide, by decide⟩, _, _, rfl, rfl, _, _, rfl, rfl, .inl ⟨_, rfl, _, _, rfl, rfl, (by show (0 : Int) < _; decide), ?_⟩⟩
    · show (-(2 ^ 64) : Int) < (sd * 48271 + (m + 1) * 1299709) % 2147483647 ∧ (sd * 48271 + (m + 1) * 1299709) % 2147483647 < 2 ^ 64
      rw [← hf1]
      omega
    refine ⟨_, rfl, _, _, rfl, rfl, .inr ⟨by decide, by decide⟩, _, rfl, b, _, 1, _, rfl, rfl, SqL.of upd_same, rfl, _, _, rfl, rfl, .inl ⟨_, rfl, _, _, rfl, rfl, (by show (0 : Int) < _; decide), _, _, rfl, rfl, ⟨by decide, by decide⟩, _, rfl, _, _, rfl, rfl, hn0, ?_⟩⟩
    exact q _ _ (Int.emod_nonneg _ (by omega)) (Int.emod_lt_of_pos _ hn0) ⟨⟨_, _, _, hb⟩, ⟨_, _, _, upd_same⟩, fun a o n e => by rw [upd_ne n]; exact e⟩
end
end D0
namespace D0
open PySem PySem.Spec PyProof.Rows L2 SX NumText
theorem Stp.new {b p : Addr} {H : Hp} {o : HO} (x : Bag H b) (h : H p = none) : Stp b H (upd H p o) := Stp.same x (same_new h o)
def letL : List Nat := [97, 98, 99, 100, 101, 102, 103, 104, 105, 106, 107, 108, 109, 110, 111, 112, 113, 114, 115, 116, 117, 118, 119, 120, 121, 122, 65, 66, 67, 68, 69, 70, 71, 72, 73, 74, 75, 76, 77, 78, 79, 80, 81, 82, 83, 84, 85, 86, 87, 88, 89, 90, 95]
def digL : List Nat := [48, 49, 50, 51, 52, 53, 54, 55, 56, 57]
def allL : List Nat := [32, 33, 34, 35, 36, 38, 39, 40, 41, 42, 43, 44, 45, 46, 47, 48, 49, 50, 51, 52, 53, 54, 55, 56, 57, 58, 59, 60, 61, 62, 63, 64, 65, 66, 67, 68, 69, 70, 71, 72, 73, 74, 75, 76, 77, 78, 79, 80, 81, 82, 83, 84, 85, 86, 87, 88, 89, 90, 91, 92, 93, 94, 95, 96, 97, 98, 99, 100, 101, 102, 103, 104, 105, 106, 107, 108, 109, 110, 111, 112, 113, 114, 115, 116, 117, 118, 119, 120, 121, 122, 123, 124, 125, 126, 10]
def spConst (l : List Nat) : Sp := fun vs H Q _ => vs = [] ∧ Q (.str (S l)) H
/-- a text of at most n signs; the bag goes on -/
def spTxt (n : Nat) : Sp := fun vs H Q _ => ∃ (b : Addr), vs = [.ref b] ∧ Bag H b ∧ ∀ (l : List Nat) H', l.length ≤ n → Stp b H H' → Q (.str (S l)) H'
def spStrs (ls : List (List Nat)) : Sp := fun vs H Q _ => vs = [] ∧ ∀ p H', Same H H' → H p = none → H' p = some (.lst (ls.map fun l => V.str (S l))) → Q (.ref p) H'
def KWL : List (List Nat) := KW
section
variable {P : Program} {w : World} {K : PySem.W.Frag} {mg : Str → Option Value} {base : Heap}
theorem ok__law_letters (T : Txt K w mg) : OkD P w K mg base CX0 1 "_law_letters" p__law_letters (spConst letL) := by
  refine T.g__law_letters.ok sc__law_letters (fun vs H Q E h => ?_) (fun f cdv A outer s H vs Q E hr h => ?_)
  · obtain ⟨rfl, _⟩ := h; rfl
  obtain ⟨rfl, q⟩ := h
  refine ⟨_, pss_one (ps_ret pe_str), ?_⟩
  have e : Str.ofString "abcdefghijklmnopqrstuvwxyzABCDEFGHIJKLMNOPQRSTUVWXYZ_" = S letL := by decide +kernel
  show Q (.str (Str.ofString "abcdefghijklmnopqrstuvwxyzABCDEFGHIJKLMNOPQRSTUVWXYZ_")) H
  rw [e]; exact q
theorem ok__law_allowed (T : Txt K w mg) : OkD P w K mg base CX0 1 "_law_allowed" p__law_allowed (spConst allL) := by
  refine T.g__law_allowed.ok sc__law_allowed (fun vs H Q E h => ?_) (fun f cdv A outer s H vs Q E hr h => ?_)
  · obtain ⟨rfl, _⟩ := h; rfl
  obtain ⟨rfl, q⟩ := h
  refine ⟨_, (pss_cons (ps_set (i := 0) sc__law_allowed.nd rfl (.inl rfl) pe_str)
      (pss_one (ps_ret (pe_op op_add_str (pv 0) pe_str)))), ?_⟩
  refine ⟨_, rfl, _, _, rfl, rfl, ?_, ?_⟩
  · decide +kernel
  · have e : (Str.ofString " !\"#$&'()*+,-./0123456789:;<=>?@ABCDEFGHIJKLMNOPQRSTUVWXYZ[\\]^_") ++ (Str.ofString "`abcdefghijklmnopqrstuvwxyz{|}~\n") = S allL := by decide +kernel
    rw [e]; exact q
theorem ok__law_signs (T : Txt K w mg) : OkD P w K mg base CX0 1 "_law_signs" p__law_signs (spStrs SG) := by
  refine T.g__law_signs.ok sc__law_signs (fun vs H Q E h => ?_) (fun f cdv A outer s H vs Q E hr h => ?_)
  · obtain ⟨rfl, _⟩ := h; rfl
  obtain ⟨rfl, q⟩ := h
  refine ⟨_, pss_one (ps_ret (pe_split pe_str pe_str)), ?_⟩
  have e : Txt.split (Str.ofString "//= += -= *= // == != <= >= < > = + - * ( ) [ ] { } , : .") (Str.ofString " ") = SG.map S := by decide +kernel
  refine ⟨⟨_, rfl⟩, _, _, rfl, rfl, by decide +kernel, by decide +kernel, fun p hp => ?_⟩
  rw [e]
  refine q p _ (same_new hp _) hp ?_
  rw [upd_same, List.map_map]; rfl
theorem ok__law_keywords (T : Txt K w mg) : OkD P w K mg base CX0 1 "_law_keywords" p__law_keywords (spStrs KW) := by
  refine T.g__law_keywords.ok sc__law_keywords (fun vs H Q E h => ?_) (fun f cdv A outer s H vs Q E hr h => ?_)
  · obtain ⟨rfl, _⟩ := h; rfl
  obtain ⟨rfl, q⟩ := h
  refine ⟨_, (pss_cons (ps_set (i := 0) sc__law_keywords.nd rfl (.inl rfl) pe_str)
      (pss_cons (ps_set (i := 0) sc__law_keywords.nd rfl (.inl rfl) (pe_op op_add_str (pv 0) pe_str))
      (pss_one (ps_ret (pe_split (pv 0) pe_str))))), ?_⟩
  have e : Txt.split (Str.ofString "and as break class continue def del elif else except False finally for from global if in is" ++ Str.ofString " lambda mod None nonlocal not or pass raise return True try while with yield") (Str.ofString " ") = KW.map S := by decide +kernel
  refine ⟨_, rfl, _, _, rfl, rfl, by decide +kernel, ?_⟩
  refine ⟨_, rfl, ⟨_, rfl⟩, _, _, rfl, rfl, by decide +kernel, by decide +kernel, fun p hp => ?_⟩
  rw [e]
  refine q p _ (same_new hp _) hp ?_
  rw [upd_same, List.map_map]; rfl
end
end D0
namespace D0
open PySem PySem.Spec PyProof.Rows L2 SX NumText
/-- a name's letters -/
def NameL (l : List Nat) : Prop := l.length ≤ 30 ∧ l.all namc = true ∧ ∃ c t, l = c :: t ∧ letc c = true
/-- a number's digits -/
def FigL (l : List Nat) : Prop := l.length ≤ 40 ∧ l.all isDig = true ∧ ∃ c t, l = c :: t ∧ (c = 48 → t = [])
/-- a comment -/
def ComL (l : List Nat) : Prop := l.length ≤ 9 ∧ ∃ t, l = 35 :: t ∧ t.all rowc = true
def spName : Sp := fun vs H Q _ => ∃ (b : Addr) (sm : Bool), vs = [.ref b, .bl sm] ∧ Bag H b ∧ ∀ (l : List Nat) H', NameL l → Stp b H H' → Q (.str (S l)) H'
def spFig : Sp := fun vs H Q _ => ∃ (b : Addr) (sm : Bool), vs = [.ref b, .bl sm] ∧ Bag H b ∧ ∀ (l : List Nat) H', FigL l → Stp b H H' → Q (.str (S l)) H'
def spCom : Sp := fun vs H Q _ => ∃ (b : Addr), vs = [.ref b] ∧ Bag H b ∧ ∀ (l : List Nat) H', ComL l → Stp b H H' → Q (.str (S l)) H'
theorem letL_ok : ∀ c ∈ letL, letc c = true := by decide
theorem more_ok : ∀ c ∈ letL ++ digL, namc c = true := by decide
theorem digL_ok : ∀ c ∈ digL, isDig c = true := by decide
theorem allL_ok : ∀ c ∈ allL, c ≠ 10 → rowc c = true := by decide
theorem namc_let {c : Nat} (h : letc c = true) : namc c = true := by unfold namc; rw [h]; rfl
section
variable {P : Program} {w : World} {K : PySem.W.Frag} {mg : Str → Option Value} {base : Heap}
theorem ok__law_name (T : Txt K w mg) (Ot : OkD P w K mg base CX0 1 "_law_take" p__law_take spTake) (Ol : OkD P w K mg base CX0 1 "_law_letters" p__law_letters (spConst letL)) : OkD P w K mg base CX0 2 "_law_name" p__law_name spName := by
  refine T.g__law_name.ok sc__law_name (fun vs H Q E h => ?_) (fun f cdv A outer s H vs Q E hr h => ?_)
  · obtain ⟨b, sm, rfl, _⟩ := h; rfl
  obtain ⟨b, sm, rfl, hb, q⟩ := h
  have z : Str.ofString "0123456789" = S digL := by decide +kernel
  have hM : (letL ++ digL).length = 63 := by decide
  have hL : letL.length = 53 := by decide
  have lim : (1000 : Nat) ≤ sizeLine := by decide
  refine split_at 4 (fun t => ∀ (n : Nat) H1, n ≤ 29 → Stp b H H1 → t { nx := fun _ H' => Q .non H', rt := Q } [some (.ref b), some (.bl sm), some (.str (S letL)), some (.str (S (letL ++ digL))), some (.int (n : Nat)), none, none] H1) ?_ (fun t ht hg => ?_)
  rotate_left
  · refine ⟨_, pss_cons (ps_set (i := 2) sc__law_name.nd rfl (.inl rfl) (pcall0 Ol hr)) (pss_cons (ps_set (i := 3) sc__law_name.nd rfl (.inl rfl) (pe_op op_add_str (pv 2) pe_str)) (pss_cons (ps_set (i := 4) sc__law_name.nd rfl (.inl rfl) (pcall Ot hr (pa_cons (pv 0) (pa_cons pe_int pa_nil))))
      (pss_cons (ps_if (PW.pt (pw_and (pt_not (pt_val (pv 1))) (pw_and1 (pt_cmpR op_eq (pcall Ot hr (pa_cons (pv 0) (pa_cons pe_int pa_nil))) pe_int (nomark _))))) (pss_one (ps_set (i := 4) sc__law_name.nd rfl (.inl rfl) (pe_op op_add pe_int (pcall Ot hr (pa_cons (pv 0) (pa_cons pe_int pa_nil)))))) pss_nil) ht))), ?_⟩
    refine ⟨rfl, _, rfl, _, _, rfl, rfl, by rw [z, S_len]; decide, ?_⟩
    rw [z, S_cat]
    refine ⟨_, rfl, b, 4, rfl, hb, by decide, by decide, fun r H1 r0 r1 st => ?_⟩
    have base1 : ∀ H2, Stp b H1 H2 → t { nx := fun _ H' => Q .non H', rt := Q } [some (.ref b), some (.bl sm), some (.str (S letL)), some (.str (S (letL ++ digL))), some (.int r), none, none] H2 := fun H2 st2 => by
      have := hg r.toNat H2 (by omega) (st.trans st2)
      rw [show ((r.toNat : Nat) : Int) = r by omega] at this
      exact this
    refine ⟨_, rfl, _, rfl, ?_⟩
    cases sm with
    | true => exact iteF (iteF (base1 H1 (Stp.refl st.b1)))
    | false =>
      refine iteT ?_
      refine ⟨_, rfl, b, 12, rfl, st.b1, by decide, by decide, fun r' H2 _ _ st2 => ?_⟩
      refine ⟨rfl, _, rfl, ite2 (fun _ => ?_) (fun _ => base1 H2 st2)⟩
      refine ⟨_, rfl, b, 26, rfl, st2.b1, by decide, by decide, fun r2 H3 r20 r21 st3 => ?_⟩
      refine ⟨_, _, rfl, rfl, ?_⟩
      have := hg (4 + r2.toNat) H3 (by omega) (st.trans (st2.trans st3))
      rw [show ((4 + r2.toNat : Nat) : Int) = 4 + r2 by omega] at this
      exact this
  · refine ⟨_, (pss_cons (ps_set (i := 5) sc__law_name.nd rfl (.inl rfl) (pe_ix ix_str (pv 2) (pcall Ot hr (pa_cons (pv 0) (pa_cons pe_int pa_nil))) (fun _ _ => rfl)))
      (pss_cons (ps_for PassesOwn.never rfl (pi_range1 rfl T.z_range (pa_cons (pv 4) pa_nil)) (pg_name (i := 6) sc__law_name.nd rfl (Or.inl rfl)) (pss_one (ps_set (i := 5) sc__law_name.nd rfl (.inl rfl) (pe_op op_add_str (pv 5) (pe_ix ix_str (pv 3) (pcall Ot hr (pa_cons (pv 0) (pa_cons pe_int pa_nil))) (fun _ _ => rfl))))))
      (pss_one (ps_ret (pv 5))))), ?_⟩
    intro n H1 hn st
    refine ⟨_, rfl, _, rfl, b, 53, rfl, st.b1, by decide, by decide, fun r H2 r0 r1 st2 => ?_⟩
    obtain ⟨k, rfl⟩ : ∃ k : Nat, r = (k : Int) := ⟨r.toNat, by omega⟩
    have gk : letL[k]? = some (letL[k]'(by omega)) := List.getElem?_eq_getElem (by omega)
    generalize letL[k]'_ = c1 at gk
    refine ⟨S letL, _, c1, rfl, rfl, by rw [S_len, hL]; omega, at_S gk, ?_⟩
    have hc1 := letL_ok c1 (List.mem_of_getElem? gk)
    refine ⟨_, rfl, (n : Int), rfl, by omega, by omega, ?_⟩
    refine for_range (lo := 0) (n := (n : Int).toNat) (fun i σ H' => ∃ (l : List Nat) (y : Option V), σ = [some (.ref b), some (.bl sm), some (.str (S letL)), some (.str (S (letL ++ digL))), some (.int (n : Nat)), some (.str (S (c1 :: l))), y] ∧ Stp b H H' ∧ l.length = i ∧ l.all namc = true) ⟨[], none, rfl, st.trans st2, rfl, rfl⟩ ?_ ?_
    · rintro i σ H3 hi ⟨l, y, rfl, st3, hlen, hal⟩
      refine ⟨_, rfl, _, rfl, _, rfl, b, 63, rfl, st3.b1, by decide, by decide, fun r H4 r0 r1 st4 => ?_⟩
      obtain ⟨k, rfl⟩ : ∃ k : Nat, r = (k : Int) := ⟨r.toNat, by omega⟩
      have gk : (letL ++ digL)[k]? = some ((letL ++ digL)[k]'(by omega)) := List.getElem?_eq_getElem (by omega)
      generalize (letL ++ digL)[k]'_ = c2 at gk
      refine ⟨S (letL ++ digL), _, c2, rfl, rfl, by rw [S_len, hM]; omega, at_S gk, ?_⟩
      refine ⟨_, _, rfl, rfl, ?_, ?_⟩
      · show (S (c1 :: l)).length + (S [c2]).length ≤ _; rw [S_len, S_len, List.length_cons]; show _ + 1 + 1 ≤ _; omega
      · exact ⟨l ++ [c2], _, by rw [← List.cons_append, ← S_cat (c1 :: l) [c2]]; rfl, st3.trans st4, by rw [List.length_append, hlen]; rfl, by rw [List.all_append, hal, List.all_cons, more_ok c2 (List.mem_of_getElem? gk)]; rfl⟩
    · rintro σ H3 ⟨l, y, rfl, st3, hlen, hal⟩
      exact ⟨_, rfl, q (c1 :: l) H3 ⟨by rw [List.length_cons]; omega, by rw [List.all_cons, namc_let hc1, hal]; rfl, c1, l, rfl, hc1⟩ st3⟩
theorem ok__law_figures (T : Txt K w mg) (Ot : OkD P w K mg base CX0 1 "_law_take" p__law_take spTake) : OkD P w K mg base CX0 2 "_law_figures" p__law_figures spFig := by
  refine T.g__law_figures.ok sc__law_figures (fun vs H Q E h => ?_) (fun f cdv A outer s H vs Q E hr h => ?_)
  · obtain ⟨b, sm, rfl, _⟩ := h; rfl
  obtain ⟨b, sm, rfl, hb, q⟩ := h
  have z : Str.ofString "0123456789" = S digL ∧ Str.ofString "0" = S [48] := by decide +kernel
  have hD : digL.length = 10 := by decide
  have lim : (1000 : Nat) ≤ sizeLine := by decide
  refine split_at 2 (fun t => ∀ (n : Nat) H1, n ≤ 39 → Stp b H H1 → t { nx := fun _ H' => Q .non H', rt := Q } [some (.ref b), some (.bl sm), some (.int (n : Nat)), none, none] H1) ?_ (fun t ht hg => ?_)
  rotate_left
  · refine ⟨_, pss_cons (ps_set (i := 2) sc__law_figures.nd rfl (.inl rfl) (pcall Ot hr (pa_cons (pv 0) (pa_cons pe_int pa_nil))))
      (pss_cons (ps_if (PW.pt (pw_and (pt_not (pt_val (pv 1))) (pw_and1 (pt_cmpR op_eq (pcall Ot hr (pa_cons (pv 0) (pa_cons pe_int pa_nil))) pe_int (nomark _))))) (pss_one (ps_set (i := 2) sc__law_figures.nd rfl (.inl rfl) (pe_op op_add pe_int (pcall Ot hr (pa_cons (pv 0) (pa_cons pe_int pa_nil)))))) pss_nil) ht), ?_⟩
    refine ⟨_, rfl, b, 4, rfl, hb, by decide, by decide, fun r H1 r0 r1 st => ?_⟩
    have base1 : ∀ H2, Stp b H1 H2 → t { nx := fun _ H' => Q .non H', rt := Q } [some (.ref b), some (.bl sm), some (.int r), none, none] H2 := fun H2 st2 => by
      have := hg r.toNat H2 (by omega) (st.trans st2)
      rw [show ((r.toNat : Nat) : Int) = r by omega] at this
      exact this
    refine ⟨_, rfl, _, rfl, ?_⟩
    cases sm with
    | true => exact iteF (iteF (base1 H1 (Stp.refl st.b1)))
    | false =>
      refine iteT ?_
      refine ⟨_, rfl, b, 8, rfl, st.b1, by decide, by decide, fun r' H2 _ _ st2 => ?_⟩
      refine ⟨rfl, _, rfl, ite2 (fun _ => ?_) (fun _ => base1 H2 st2)⟩
      refine ⟨_, rfl, b, 36, rfl, st2.b1, by decide, by decide, fun r2 H3 r20 r21 st3 => ?_⟩
      refine ⟨_, _, rfl, rfl, ?_⟩
      have := hg (4 + r2.toNat) H3 (by omega) (st.trans (st2.trans st3))
      rw [show ((4 + r2.toNat : Nat) : Int) = 4 + r2 by omega] at this
      exact this
  · refine ⟨_, (pss_cons (ps_set (i := 3) sc__law_figures.nd rfl (.inl rfl) (pe_ix ix_str pe_str (pcall Ot hr (pa_cons (pv 0) (pa_cons pe_int pa_nil))) (fun _ _ => rfl)))
      (pss_cons (ps_if (pt_cmpR op_eq (pv 3) pe_str (nomark _)) (pss_one (ps_ret (pv 3))) pss_nil)
      (pss_cons (ps_for PassesOwn.never rfl (pi_range1 rfl T.z_range (pa_cons (pv 2) pa_nil)) (pg_name (i := 4) sc__law_figures.nd rfl (Or.inl rfl)) (pss_one (ps_set (i := 3) sc__law_figures.nd rfl (.inl rfl) (pe_op op_add_str (pv 3) (pe_ix ix_str pe_str (pcall Ot hr (pa_cons (pv 0) (pa_cons pe_int pa_nil))) (fun _ _ => rfl))))))
      (pss_one (ps_ret (pv 3)))))), ?_⟩
    intro n H1 hn st
    refine ⟨_, rfl, b, 10, rfl, st.b1, by decide, by decide, fun r H2 r0 r1 st2 => ?_⟩
    obtain ⟨k, rfl⟩ : ∃ k : Nat, r = (k : Int) := ⟨r.toNat, by omega⟩
    have gk : digL[k]? = some (digL[k]'(by omega)) := List.getElem?_eq_getElem (by omega)
    generalize digL[k]'_ = c1 at gk
    have hc1 := digL_ok c1 (List.mem_of_getElem? gk)
    refine ⟨S digL, _, c1, by rw [← z.1], rfl, by rw [S_len, hD]; omega, at_S gk, ?_⟩
    refine ⟨_, rfl, rfl, _, rfl, ite2 (fun _ => ?_) (fun c => ?_)⟩
    · exact ⟨_, rfl, q [c1] H2 ⟨by show 1 ≤ 40; decide, by rw [List.all_cons, hc1]; rfl, c1, [], rfl, fun _ => rfl⟩ (st.trans st2)⟩
    have n48 : c1 ≠ 48 := fun e => c (by
      subst e
      refine decide_eq_true ?_
      show V.str (S [48]) = V.str (Str.ofString "0")
      rw [z.2])
    refine ⟨_, rfl, (n : Int), rfl, by omega, by omega, ?_⟩
    refine for_range (lo := 0) (n := (n : Int).toNat) (fun i σ H' => ∃ (l : List Nat) (y : Option V), σ = [some (.ref b), some (.bl sm), some (.int (n : Nat)), some (.str (S (c1 :: l))), y] ∧ Stp b H H' ∧ l.length = i ∧ l.all isDig = true) ⟨[], none, rfl, st.trans st2, rfl, rfl⟩ ?_ ?_
    · rintro i σ H3 hi ⟨l, y, rfl, st3, hlen, hal⟩
      refine ⟨_, rfl, _, rfl, b, 10, rfl, st3.b1, by decide, by decide, fun r H4 r0 r1 st4 => ?_⟩
      obtain ⟨k, rfl⟩ : ∃ k : Nat, r = (k : Int) := ⟨r.toNat, by omega⟩
      have gk : digL[k]? = some (digL[k]'(by omega)) := List.getElem?_eq_getElem (by omega)
      generalize digL[k]'_ = c2 at gk
      refine ⟨S digL, _, c2, by rw [← z.1], rfl, by rw [S_len, hD]; omega, at_S gk, ?_⟩
      refine ⟨_, _, rfl, rfl, ?_, ?_⟩
      · show (S (c1 :: l)).length + (S [c2]).length ≤ _; rw [S_len, S_len, List.length_cons]; show _ + 1 + 1 ≤ _; omega
      · exact ⟨l ++ [c2], _, by rw [← List.cons_append, ← S_cat (c1 :: l) [c2]]; rfl, st3.trans st4, by rw [List.length_append, hlen]; rfl, by rw [List.all_append, hal, List.all_cons, digL_ok c2 (List.mem_of_getElem? gk)]; rfl⟩
    · rintro σ H3 ⟨l, y, rfl, st3, hlen, hal⟩
      exact ⟨_, rfl, q (c1 :: l) H3 ⟨by rw [List.length_cons]; omega, by rw [List.all_cons, hc1, hal]; rfl, c1, l, rfl, fun e => absurd e n48⟩ st3⟩
theorem ok__law_comment (T : Txt K w mg) (Ot : OkD P w K mg base CX0 1 "_law_take" p__law_take spTake) (Oa : OkD P w K mg base CX0 1 "_law_allowed" p__law_allowed (spConst allL)) : OkD P w K mg base CX0 2 "_law_comment" p__law_comment spCom := by
  refine T.g__law_comment.ok sc__law_comment (fun vs H Q E h => ?_) (fun f cdv A outer s H vs Q E hr h => ?_)
  · obtain ⟨b, rfl, _⟩ := h; rfl
  obtain ⟨b, rfl, hb, q⟩ := h
  have z : Str.ofString "#" = S [35] := by decide +kernel
  have hL : allL.length = 95 := by decide
  have h94 : ∀ k, k < 94 → allL[k]? ≠ some 10 := by decide
  have lim : (1000 : Nat) ≤ sizeLine := by decide
  refine ⟨_, (pss_cons (ps_set (i := 1) sc__law_comment.nd rfl (.inl rfl) pe_str)
      (pss_cons (ps_set (i := 2) sc__law_comment.nd rfl (.inl rfl) (pcall0 Oa hr))
      (pss_cons (ps_for PassesOwn.never rfl (pi_range1 rfl T.z_range (pa_cons (pcall Ot hr (pa_cons (pv 0) (pa_cons pe_int pa_nil))) pa_nil)) (pg_name (i := 3) sc__law_comment.nd rfl (Or.inl rfl))
    (pss_one (ps_set (i := 1) sc__law_comment.nd rfl (.inl rfl) (pe_op op_add_str (pv 1) (pe_ix ix_str (pv 2) (pcall Ot hr (pa_cons (pv 0) (pa_cons (pe_op op_sub (pe_callB call_len_str (by rfl) T.z_len PySem.boot_len (pa_cons (pv 2) pa_nil)) pe_int) pa_nil))) (fun _ _ => rfl))))))
      (pss_one (ps_ret (pv 1)))))), ?_⟩
  refine ⟨rfl, ?_⟩
  rw [z]
  refine ⟨_, rfl, b, 9, rfl, hb, by decide, by decide, fun r H2 r0 r1 st2 => ?_⟩
  refine ⟨r, rfl, by omega, by omega, ?_⟩
  refine for_range (lo := 0) (n := r.toNat) (fun i σ H' => ∃ (l : List Nat) (y : Option V), σ = [some (.ref b), some (.str (S (35 :: l))), some (.str (S allL)), y] ∧ Stp b H H' ∧ l.length = i ∧ l.all rowc = true) ⟨[], none, rfl, st2, rfl, rfl⟩ ?_ ?_
  · rintro i σ H3 hi ⟨l, y, rfl, st3, hlen, hal⟩
    refine ⟨_, rfl, _, rfl, _, rfl, _, rfl, _, rfl, by rw [S_len, hL]; omega, _, _, rfl, rfl, b, 94, by rw [S_len, hL]; rfl, st3.b1, by decide, by decide, fun r H4 r0 r1 st4 => ?_⟩
    obtain ⟨k, rfl⟩ : ∃ k : Nat, r = (k : Int) := ⟨r.toNat, by omega⟩
    have gk : allL[k]? = some (allL[k]'(by omega)) := List.getElem?_eq_getElem (by omega)
    have nk := h94 k (by omega)
    generalize allL[k]'_ = c2 at gk
    refine ⟨S allL, _, c2, rfl, rfl, by rw [S_len, hL]; omega, at_S gk, ?_⟩
    refine ⟨_, _, rfl, rfl, ?_, ?_⟩
    · show (S (35 :: l)).length + (S [c2]).length ≤ _; rw [S_len, S_len, List.length_cons]; show _ + 1 + 1 ≤ _; omega
    · exact ⟨l ++ [c2], _, by rw [← List.cons_append, ← S_cat (35 :: l) [c2]]; rfl, st3.trans st4, by rw [List.length_append, hlen]; rfl, by rw [List.all_append, hal, List.all_cons, allL_ok c2 (List.mem_of_getElem? gk) (fun e => nk (by rw [gk, e]))]; rfl⟩
  · rintro σ H3 ⟨l, y, rfl, st3, hlen, hal⟩
    exact ⟨_, rfl, q (35 :: l) H3 ⟨by rw [List.length_cons]; omega, l, rfl, hal⟩ st3⟩
end
end D0
namespace D0
open PySem PySem.Spec PyProof.Rows L2 SX NumText
theorem Stp.none {b p : Addr} {H H' : Hp} (x : Stp b H H') (n : p ≠ b) (h : H' p = none) : H p = none := by
  cases e : H p with
  | none => rfl
  | some o => rw [x.keep p o n e] at h; cases h
/-- a sign of a text: written plainly, or behind a backslash -/
def unitSp : Nat × Bool → List Nat
  | (c, false) => [c]
  | (c, true) => [92, if c = 10 then 110 else c]
theorem unitSp_len : ∀ v : Nat × Bool, (unitSp v).length ≤ 2
  | (_, false) => by show 1 ≤ 2; decide
  | (_, true) => by show 2 ≤ 2; decide
def UnitOk (q : Nat) : Nat × Bool → Prop
  | (c, false) => rowc c = true ∧ c ≠ 92 ∧ c ≠ q
  | (c, true) => c = 10 ∨ c = 92 ∨ c = 34 ∨ c = 39
/-- the text w, spelled -/
def TextL (n : Nat) (w sp : List Nat) : Prop := ∃ (q : Nat) (us : List (Nat × Bool)), (q = 34 ∨ q = 39) ∧ w = us.map Prod.fst ∧ sp = q :: (us.flatMap unitSp ++ [q]) ∧ us.length ≤ n ∧ ∀ u ∈ us, UnitOk q u
/-- a piece: its kind, its word, as it is spelled -/
def TupAt (H : Hp) (a : Addr) (k : List Nat) (w : V) (sp : List Nat) : Prop := H a = some (.tup [.str (S k), w, .str (S sp)])
def spQuoted : Sp := fun vs H Q _ => ∃ (b : Addr) (sm : Bool), vs = [.ref b, .bl sm] ∧ Bag H b ∧ ∀ (w sp : List Nat) H' a, TextL 8 w sp → Stp b H H' → a ≠ b → H a = none → TupAt H' a Kd.text.cp (.str (S w)) sp → Q (.ref a) H'
theorem PS.of {X : Cx} {e : Stmt} {t t' : TS} (h : PS X e t) (f : ∀ D σ H, t' D σ H → t D σ H) : PS X e t' := ⟨fun pins s σ H D I q => h.run pins s σ H D I (f D σ H q)⟩
def okc10 (c : Nat) : Prop := rowc c = true ∨ c = 10
section
variable {P : Program} {w : World} {K : PySem.W.Frag} {mg : Str → Option Value} {base : Heap}
theorem ok__law_quoted (T : Txt K w mg) (Ot : OkD P w K mg base CX0 1 "_law_take" p__law_take spTake) (Oa : OkD P w K mg base CX0 1 "_law_allowed" p__law_allowed (spConst allL)) : OkD P w K mg base CX0 2 "_law_quoted" p__law_quoted spQuoted := by
  refine T.g__law_quoted.ok sc__law_quoted (fun vs H Q E h => ?_) (fun f cdv A outer s H vs Q E hr h => ?_)
  · obtain ⟨b, sm, rfl, _⟩ := h; rfl
  obtain ⟨b, sm, rfl, hb, q⟩ := h
  have z : Str.ofString "\"'" = S [34, 39] ∧ Str.ofString "\\n" = S [92, 110] ∧ Str.ofString "\\" = S [92] ∧ Str.ofString "\n" = S [10] ∧ Str.ofString "" = S [] ∧ Str.ofString "\\'\"\n" = S [92, 39, 34, 10] ∧ Str.ofString "text" = S Kd.text.cp := by decide +kernel
  have hL : allL.length = 95 := by decide
  have lim : (1000 : Nat) ≤ sizeLine := by decide
  refine ⟨_, (pss_cons (ps_set (i := 2) sc__law_quoted.nd rfl (.inl rfl) (pe_ix ix_str pe_str (pcall Ot hr (pa_cons (pv 0) (pa_cons pe_int pa_nil))) (fun _ _ => rfl)))
      (pss_cons (ps_set (i := 3) sc__law_quoted.nd rfl (.inl rfl) (pcall0 Oa hr))
      (pss_cons (ps_set (i := 4) sc__law_quoted.nd rfl (.inl rfl) pe_str)
      (pss_cons (ps_set (i := 5) sc__law_quoted.nd rfl (.inl rfl) (pv 2))
      (pss_cons (ps_for PassesOwn.never rfl (pi_range1 rfl T.z_range (pa_cons (pcall Ot hr (pa_cons (pv 0) (pa_cons (PE.of (t' := fun σ H Q => ∃ sm : Bool, σ[1]? = some (some (V.bl sm)) ∧ ∀ n : Int, 4 ≤ n → n ≤ 9 → Q (.int n) H) (pe_ifExp (pt_val (pv 1)) pe_int pe_int) ?ife) pa_nil))) pa_nil)) (pg_name (i := 6) sc__law_quoted.nd rfl (Or.inl rfl))
    (pss_cons (ps_set (i := 7) sc__law_quoted.nd rfl (.inl rfl) (pe_ix ix_str (pv 3) (pcall Ot hr (pa_cons (pv 0) (pa_cons (pe_callB call_len_str (by rfl) T.z_len PySem.boot_len (pa_cons (pv 3) pa_nil)) pa_nil))) (fun _ _ => rfl)))
      (pss_cons (PS.of (t' := fun D σ H => σ[0]? = some (some (V.ref b)) ∧ Bag H b ∧ (∃ c, okc10 c ∧ σ.set 7 (some (V.str (S [c]))) = σ) ∧ ∀ c H', okc10 c → Stp b H H' → D.nx (σ.set 7 (some (V.str (S [c])))) H')
        (ps_if (pt_cmpR op_eq (pcall Ot hr (pa_cons (pv 0) (pa_cons pe_int pa_nil))) pe_int (nomark _)) (pss_one (ps_set (i := 7) sc__law_quoted.nd rfl (.inl rfl) (pe_ix ix_str pe_str (pcall Ot hr (pa_cons (pv 0) (pa_cons pe_int pa_nil))) (fun _ _ => rfl)))) pss_nil) ?ifs)
      (pss_cons (ps_set (i := 4) sc__law_quoted.nd rfl (.inl rfl) (pe_op op_add_str (pv 4) (pv 7)))
      (pss_cons (PS.of (t' := fun D σ H => σ[0]? = some (some (V.ref b)) ∧ Bag H b ∧ (∃ cq, σ[2]? = some (some (V.str (S [cq]))) ∧ (cq = 34 ∨ cq = 39) ∧ ∃ c, okc10 c ∧ σ[7]? = some (some (V.str (S [c]))) ∧ σ.set 7 (some (V.str (S [c]))) = σ ∧ ∀ u H', u.1 = c → UnitOk cq u → Stp b H H' → D.nx (σ.set 7 (some (V.str (S (unitSp u))))) H'))
        (ps_if (pt_cmpR op_eq (pv 7) pe_str (nomark _)) (pss_one (ps_set (i := 7) sc__law_quoted.nd rfl (.inl rfl) pe_str)) (pss_one (ps_if (PW.pt (pw_or (pt_cmpR op_eq (pv 7) pe_str (nomark _)) (pw_or1 (pt_cmpR op_eq (pv 7) (pv 2) (nomark _))))) (pss_one (ps_set (i := 7) sc__law_quoted.nd rfl (.inl rfl) (pe_op op_add_str pe_str (pv 7)))) (pss_one (ps_if (PW.pt (pw_and (pt_cmpR op_in_sign (pv 7) pe_str (by rfl)) (pw_and1 (pt_cmpR op_eq (pcall Ot hr (pa_cons (pv 0) (pa_cons pe_int pa_nil))) pe_int (nomark _))))) (pss_one (ps_set (i := 7) sc__law_quoted.nd rfl (.inl rfl) (pe_op op_add_str pe_str (pv 7)))) pss_nil))))) ?ifc)
      (pss_one (ps_set (i := 5) sc__law_quoted.nd rfl (.inl rfl) (pe_op op_add_str (pv 5) (pv 7)))))))))
      (pss_one (ps_ret (pe_tup (pa_cons pe_str (pa_cons (pv 4) (pa_cons (pe_op op_add_str (pv 5) (pv 2)) pa_nil))))))))))), ?_⟩
  case ife =>
    rintro σ H Q ⟨sm, h1, h2⟩
    refine ⟨_, h1, sm, rfl, ?_⟩
    cases sm with
    | true => exact iteT (h2 4 (by omega) (by omega))
    | false => exact iteF (h2 9 (by omega) (by omega))
  case ifs =>
    rintro D σ H ⟨h0, hb, ⟨c, hc, hs⟩, q⟩
    refine ⟨_, h0, b, 6, rfl, hb, by decide, by decide, fun r H1 r0 r1 st => ⟨rfl, _, rfl, ite2 (fun _ => ?_) (fun _ => ?_)⟩⟩
    · refine ⟨_, h0, b, 4, rfl, st.b1, by decide, by decide, fun r H2 r0 r1 st2 => ?_⟩
      obtain ⟨k, rfl⟩ : ∃ k : Nat, r = (k : Int) := ⟨r.toNat, by omega⟩
      have gk : ([92, 39, 34, 10] : List Nat)[k]? = some (([92, 39, 34, 10] : List Nat)[k]'(by simp; omega)) := List.getElem?_eq_getElem (by simp; omega)
      generalize ([92, 39, 34, 10] : List Nat)[k]'_ = c3 at gk
      have hc3 : okc10 c3 := by
        have h4 : ∀ x ∈ ([92, 39, 34, 10] : List Nat), rowc x = true ∨ x = 10 := by decide
        exact h4 c3 (List.mem_of_getElem? gk)
      exact ⟨S [92, 39, 34, 10], _, c3, by rw [← z.2.2.2.2.2.1], rfl, by rw [S_len]; show 4 ≤ sizeLine; omega, at_S gk, q c3 H2 hc3 (st.trans st2)⟩
    · have := q c H1 hc st
      rw [hs] at this
      exact this
  case ifc =>
    rintro D σ H ⟨h0, hb, cq, h2, hq, c, hc, h7, hs, q⟩
    have sx : ∀ x y : Nat, (V.str (S [x]) = V.str (S [y])) → x = y := fun x y h => (List.cons.inj (S_inj (V.str.inj h))).1
    have hb0 := Stp.refl hb
    refine ⟨_, h7, rfl, _, rfl, ite2 (fun d => ?_) (fun d => ?_)⟩
    · have d := of_decide_eq_true d
      rw [z.2.2.2.1] at d
      have e := sx _ _ d
      have := q (c, true) H rfl (.inl e) hb0
      show D.nx (σ.set 7 (some (.str (Str.ofString "\\n")))) H
      rw [z.2.1]
      rw [show unitSp (c, true) = [92, 110] by show [92, if c = 10 then 110 else c] = _; rw [if_pos e]] at this
      exact this
    have n10 : c ≠ 10 := fun e => d (decide_eq_true (by rw [z.2.2.2.1, e]))
    have hrc : rowc c = true := hc.resolve_right n10
    have esc : ∀ H', (c = 92 ∨ c = 34 ∨ c = 39) → Stp b H H' → (Str.ofString "\\").length + (S [c]).length ≤ sizeLine ∧ D.nx (σ.set 7 (some (.str (Str.ofString "\\" ++ S [c])))) H' := fun H' hcc st => by
      rw [z.2.2.1, S_cat [92] [c]]
      refine ⟨by rw [S_len, S_len]; show 1 + 1 ≤ _; omega, ?_⟩
      have := q (c, true) H' rfl (.inr hcc) st
      rw [show unitSp (c, true) = [92] ++ [c] by show [92, if c = 10 then 110 else c] = _; rw [if_neg n10] <;> rfl] at this
      exact this
    have plain : ∀ H', c ≠ 92 → c ≠ cq → Stp b H H' → D.nx σ H' := fun H' h1 h3 st => by
      have := q (c, false) H' rfl ⟨hrc, h1, h3⟩ st
      rw [show unitSp (c, false) = [c] from rfl, hs] at this
      exact this
    refine ⟨_, h7, rfl, _, rfl, ite2 (fun d => ?_) (fun d => ?_)⟩
    · have d := of_decide_eq_true d
      rw [z.2.2.1] at d
      have h := esc H (.inl (sx _ _ d)) hb0
      exact iteT ⟨_, h7, _, _, rfl, rfl, h.1, h.2⟩
    have n92 : c ≠ 92 := fun e => d (decide_eq_true (by rw [z.2.2.1, e]))
    refine ⟨_, h7, _, h2, rfl, _, rfl, ite2 (fun d => ?_) (fun d => ?_)⟩
    · have d := of_decide_eq_true d
      have e := sx _ _ d
      have h := esc H (.inr (by rw [e]; exact hq)) hb0
      exact ⟨_, h7, _, _, rfl, rfl, h.1, h.2⟩
    have ncq : c ≠ cq := fun e => d (decide_eq_true (by rw [e]))
    refine ⟨_, h7, _, _, rfl, rfl, _, rfl, ite2 (fun d => ?_) (fun d => ?_)⟩
    · refine ⟨_, h0, b, 2, rfl, hb, by decide, by decide, fun r H5 _ _ st5 => ⟨rfl, _, rfl, ite2 (fun _ => ?_) (fun _ => ?_)⟩⟩
      · have hin : c = 34 ∨ c = 39 := by
          have d := of_decide_eq_true d
          rw [z.1] at d
          have d : c ∈ ([34, 39] : List Nat) := by simpa [S] using d
          rcases List.mem_cons.mp d with h | h
          · exact .inl h
          · exact .inr (List.mem_singleton.mp h)
        have h := esc H5 (.inr hin) st5
        exact ⟨_, h7, _, _, rfl, rfl, h.1, h.2⟩
      · exact plain H5 n92 ncq st5
    · exact iteF (plain H n92 ncq hb0)
  refine ⟨_, rfl, b, 2, rfl, hb, by decide, by decide, fun r H1 r0 r1 st => ?_⟩
  obtain ⟨k, rfl⟩ : ∃ k : Nat, r = (k : Int) := ⟨r.toNat, by omega⟩
  have gk : ([34, 39] : List Nat)[k]? = some (([34, 39] : List Nat)[k]'(by simp; omega)) := List.getElem?_eq_getElem (by simp; omega)
  generalize ([34, 39] : List Nat)[k]'_ = cq at gk
  have hcq : cq = 34 ∨ cq = 39 := by
    have := List.mem_of_getElem? gk
    rcases List.mem_cons.mp this with h | h
    · exact .inl h
    · rcases List.mem_cons.mp h with h | h
      · exact .inr h
      · cases h
  refine ⟨S [34, 39], _, cq, by rw [← z.1], rfl, by rw [S_len]; show 2 ≤ sizeLine; omega, at_S gk, ?_⟩
  refine ⟨rfl, ?_⟩
  rw [z.2.2.2.2.1]
  refine ⟨_, rfl, _, rfl, sm, rfl, fun n n4 n9 => ?_⟩
  refine ⟨b, n, rfl, st.b1, by omega, by omega, fun r H2 r0 r1 st2 => ?_⟩
  refine ⟨r, rfl, by omega, by omega, ?_⟩
  refine for_range (lo := 0) (n := r.toNat) (fun i σ H' => ∃ (us : List (Nat × Bool)) (y y2 : Option V), σ = [some (.ref b), some (.bl sm), some (.str (S [cq])), some (.str (S allL)), some (.str (S (us.map Prod.fst))), some (.str (S (cq :: us.flatMap unitSp))), y, y2] ∧ Stp b H H' ∧ us.length = i ∧ ∀ u ∈ us, UnitOk cq u) ⟨[], none, none, rfl, st.trans st2, rfl, fun u hu => by cases hu⟩ ?_ ?_
  · rintro i σ H3 hi ⟨us, y, y2, rfl, st3, hlen, hok⟩
    refine ⟨_, rfl, _, rfl, _, rfl, _, rfl, by rw [S_len, hL]; omega, b, 95, by rw [S_len, hL]; rfl, st3.b1, by decide, by decide, fun r H4 r0 r1 st4 => ?_⟩
    obtain ⟨k, rfl⟩ : ∃ k : Nat, r = (k : Int) := ⟨r.toNat, by omega⟩
    have gk : allL[k]? = some (allL[k]'(by omega)) := List.getElem?_eq_getElem (by omega)
    generalize allL[k]'_ = c2 at gk
    refine ⟨S allL, _, c2, rfl, rfl, by rw [S_len, hL]; omega, at_S gk, ?_⟩
    have hc2 : okc10 c2 := by
      by_cases e : c2 = 10
      · exact .inr e
      · exact .inl (allL_ok c2 (List.mem_of_getElem? gk) e)
    refine ⟨rfl, st4.b1, ⟨c2, hc2, rfl⟩, fun c H5 hc st5 => ?_⟩
    refine ⟨_, rfl, _, rfl, _, _, rfl, rfl, by rw [S_len, S_len, List.length_map]; show _ + 1 ≤ _; omega, ?_⟩
    refine ⟨rfl, st5.b1, cq, rfl, hcq, c, hc, rfl, rfl, fun u H6 hu huo st6 => ?_⟩
    subst hu
    have hfl : (us.flatMap unitSp).length ≤ 2 * us.length := by
      clear hok hlen st3
      induction us with
      | nil => exact Nat.le_refl 0
      | cons v vs ih =>
        rw [List.flatMap_cons, List.length_append, List.length_cons]
        have : (unitSp v).length ≤ 2 := unitSp_len v
        omega
    have hul : (unitSp u).length ≤ 2 := unitSp_len u
    refine ⟨_, rfl, _, rfl, _, _, rfl, rfl, by rw [S_len, S_len, List.length_cons]; omega, ?_⟩
    refine ⟨us ++ [u], some (.int (0 + (i : Int))), some (.str (S (unitSp u))), ?_, st3.trans (st4.trans (st5.trans st6)), by rw [List.length_append, hlen]; rfl, fun v hv => ?_⟩
    · rw [List.map_append, List.flatMap_append, List.flatMap_cons, List.flatMap_nil, List.append_nil, ← List.cons_append, ← S_cat, ← S_cat]
      rfl
    · rcases List.mem_append.mp hv with h | h
      · exact hok v h
      · rw [List.mem_singleton.mp h]; exact huo
  · rintro σ H3 ⟨us, y, y2, rfl, st3, hlen, hok⟩
    have hfl : (us.flatMap unitSp).length ≤ 2 * us.length := by
      clear hok hlen st3
      induction us with
      | nil => exact Nat.le_refl 0
      | cons v vs ih =>
        rw [List.flatMap_cons, List.length_append, List.length_cons]
        have : (unitSp v).length ≤ 2 := unitSp_len v
        omega
    refine ⟨_, rfl, _, rfl, _, rfl, _, _, rfl, rfl, by rw [S_len, S_len, List.length_cons]; show _ + 1 ≤ _; omega, by show 3 ≤ sizeLine; omega, fun p hp => ?_⟩
    have nb := st3.b1.ne hp
    refine q (us.map Prod.fst) (cq :: (us.flatMap unitSp ++ [cq])) _ p ⟨cq, us, hcq, rfl, rfl, by omega, hok⟩ (st3.trans (Stp.new st3.b1 hp)) nb (st3.none nb hp) ?_
    show upd H3 p _ p = _
    rw [upd_same, z.2.2.2.2.2.2, S_cat, List.cons_append]
end
end D0
namespace D0
open PySem PySem.Spec PyProof.Rows L2 SX NumText
theorem Bag.ne' {b a : Addr} {H : Hp} {vs : List (List Nat)} (x : Bag H b) (h : H a = some (.lst (vs.map fun l => V.str (S l)))) : a ≠ b := by
  obtain ⟨c, t, n, e⟩ := x
  intro z
  rw [z, e] at h
  have h := HO.lst.inj (Option.some.inj h)
  cases vs with
  | nil => cases h
  | cons v vs => cases (List.cons.inj h).1
def BRL : List (List Nat) := [[40], [41], [91], [93], [123], [125]]
theorem KW_nm : ∀ s ∈ KW, s.length ≤ 30 ∧ s.all namc = true ∧ ∃ c t, s = c :: t ∧ letc c = true := by
  have h : KW.all (fun s => decide (s.length ≤ 30) && s.all namc && (match s with | c :: _ => letc c | [] => false)) = true := by decide +kernel
  intro s hs
  have := List.all_eq_true.mp h s hs
  rw [Bool.and_eq_true, Bool.and_eq_true] at this
  obtain ⟨⟨h1, h2⟩, h3⟩ := this
  refine ⟨of_decide_eq_true h1, h2, ?_⟩
  cases s with
  | nil => cases h3
  | cons c t => exact ⟨c, t, rfl, h3⟩
theorem SG_nb : (SG.filter fun s => !decide (s ∈ BRL)).length = 18 ∧ ∀ s ∈ SG.filter (fun s => !decide (s ∈ BRL)), s.length ≤ 3 := by decide
theorem KW_len : ∀ s ∈ KW, s.length ≤ 8 := by decide
/-- the piece of kind k, of word w, spelled sp -/
def PieceL (k : Kd) (w : Wd) (sp : List Nat) : Prop :=
  (NameL sp ∧ k = (if sp ∈ KW then .keyword else .name) ∧ w = .s sp) ∨ (FigL sp ∧ k = .number ∧ w = .n (digitsVal sp)) ∨ (∃ t, TextL 8 t sp ∧ k = .text ∧ w = .s t) ∨ (sp ∈ SG ∧ sp ∉ BRL ∧ k = .sign ∧ w = .s sp)
def spWord : Sp := fun vs H Q _ => ∃ (b : Addr) (sm : Bool), vs = [.ref b, .bl sm] ∧ Bag H b ∧ ∀ (k : Kd) (w : Wd) (sp : List Nat) H' a, PieceL k w sp → Stp b H H' → a ≠ b → H a = none → TupAt H' a k.cp w.v sp → Q (.ref a) H'
section
variable {P : Program} {w : World} {K : PySem.W.Frag} {mg : Str → Option Value} {base : Heap}
theorem ok__law_word (T : Txt K w mg) (Ot : OkD P w K mg base CX0 1 "_law_take" p__law_take spTake) (Os : OkD P w K mg base CX0 1 "_law_signs" p__law_signs (spStrs SG)) (Ok : OkD P w K mg base CX0 1 "_law_keywords" p__law_keywords (spStrs KW))
    (On : OkD P w K mg base CX0 2 "_law_name" p__law_name spName) (Of : OkD P w K mg base CX0 2 "_law_figures" p__law_figures spFig) (Oq : OkD P w K mg base CX0 2 "_law_quoted" p__law_quoted spQuoted) :
    OkD P w K mg base CX0 3 "_law_word" p__law_word spWord := by
  refine T.g__law_word.ok sc__law_word (fun vs H Q E h => ?_) (fun f cdv A outer s H vs Q E hr h => ?_)
  · obtain ⟨b, sm, rfl, _⟩ := h; rfl
  obtain ⟨b, sm, rfl, hb, q⟩ := h
  have lim : (1000 : Nat) ≤ sizeLine := by decide
  have zb : Str.ofString "(" = S [40] ∧ Str.ofString ")" = S [41] ∧ Str.ofString "[" = S [91] ∧ Str.ofString "]" = S [93] ∧ Str.ofString "{" = S [123] ∧ Str.ofString "}" = S [125] := by decide +kernel
  have zk : Str.ofString "keyword" = S Kd.keyword.cp ∧ Str.ofString "name" = S Kd.name.cp ∧ Str.ofString "number" = S Kd.number.cp ∧ Str.ofString "sign" = S Kd.sign.cp := by decide +kernel
  refine ⟨_, (pss_cons (ps_set (i := 2) sc__law_word.nd rfl (.inl rfl) (pcall Ot hr (pa_cons (pv 0) (pa_cons pe_int pa_nil))))
      (pss_cons (ps_if (pt_cmpR op_lt (pv 2) pe_int (nomark _)) (pss_cons (ps_set (i := 3) sc__law_word.nd rfl (.inl rfl) (pcall On hr (pa_cons (pv 0) (pa_cons (pv 1) pa_nil))))
      (pss_one (ps_ret (pe_tup (pa_cons (pe_ifExp (pt_cmpR op_in_seq (pv 3) (pcall0 Ok hr) (by rfl)) pe_str pe_str) (pa_cons (pv 3) (pa_cons (pv 3) pa_nil))))))) pss_nil)
      (pss_cons (ps_if (pt_cmpR op_eq (pv 2) pe_int (nomark _)) (pss_cons (ps_set (i := 4) sc__law_word.nd rfl (.inl rfl) (pcall0 Ok hr))
      (pss_cons (ps_set (i := 5) sc__law_word.nd rfl (.inl rfl) (pe_ix ix_list (pv 4) (pcall Ot hr (pa_cons (pv 0) (pa_cons (pe_callB call_len_seq (by rfl) T.z_len PySem.boot_len (pa_cons (pv 4) pa_nil)) pa_nil))) (fun _ _ => rfl)))
      (pss_one (ps_ret (pe_tup (pa_cons pe_str (pa_cons (pv 5) (pa_cons (pv 5) pa_nil)))))))) pss_nil)
      (pss_cons (ps_if (pt_cmpR op_eq (pv 2) pe_int (nomark _)) (pss_cons (ps_set (i := 6) sc__law_word.nd rfl (.inl rfl) (pcall Of hr (pa_cons (pv 0) (pa_cons (pv 1) pa_nil))))
      (pss_one (ps_ret (pe_tup (pa_cons pe_str (pa_cons (pe_callTy call_int_str (by rfl) T.z_int PyProof.Rows.boot_int (pa_cons (pv 6) pa_nil)) (pa_cons (pv 6) pa_nil))))))) pss_nil)
      (pss_cons (ps_if (pt_cmpR op_lt (pv 2) pe_int (nomark _)) (pss_one (ps_ret (pcall Oq hr (pa_cons (pv 0) (pa_cons (pv 1) pa_nil))))) pss_nil)
      (pss_cons (ps_setLc (i := 8) (own := [("sign", 7)]) (g := gName 7) (by rfl) sc__law_word.nd rfl rfl (sw_true rfl rfl rfl (by decide +kernel)) (pi_list (pcall0 Os hr)) (blkOk_by (own := [("sign", 7)]) (N := n__law_word) (sc := defScope s__law_word) (by decide +kernel))
        (fun _ _ _ _ _ => (pg_name (i := 7) sc__law_word.nd rfl (Or.inl rfl))) (fun _ _ _ _ _ => pts_one (pt_cmpR (show OpR _ _ (rIn K true) from op_notIn_seq) (pv 7) (pe_lst (pa_cons pe_str (pa_cons pe_str (pa_cons pe_str (pa_cons pe_str (pa_cons pe_str (pa_cons pe_str pa_nil))))))) (by rfl))) (fun _ _ _ _ _ => pv 7))
      (pss_cons (ps_set (i := 7) sc__law_word.nd rfl (.inl rfl) (pe_ix ix_list (pv 8) (pcall Ot hr (pa_cons (pv 0) (pa_cons (pe_callB call_len_seq (by rfl) T.z_len PySem.boot_len (pa_cons (pv 8) pa_nil)) pa_nil))) (fun _ _ => rfl)))
      (pss_one (ps_ret (pe_tup (pa_cons pe_str (pa_cons (pv 7) (pa_cons (pv 7) pa_nil))))))))))))), ?_⟩
  have three3 : 3 ≤ sizeLine := by omega
  refine ⟨_, rfl, b, 8, rfl, hb, by decide, by decide, fun r H1 r0 r1 st => ?_⟩
  refine ⟨_, rfl, _, _, rfl, rfl, _, rfl, ite2 (fun _ => ?_) (fun _ => ?_)⟩
  · refine ⟨_, rfl, _, rfl, b, sm, rfl, st.b1, fun l H2 hl st2 => ?_⟩
    refine ⟨_, rfl, rfl, fun p H3 sm3 hp hpl => ?_⟩
    refine ⟨p, KW.map fun l => V.str (S l), rfl, .inl (SqL.of hpl), rfl, flat_strs KW, _, rfl, ?_⟩
    have e2 := in_strs l KW
    have st3 := st.trans (st2.trans (Stp.same st2.b1 sm3))
    by_cases c : l ∈ KW
    · refine iteT' (by show (inV _ _) = true; rw [e2, decide_eq_true c]) ?_
      refine ⟨_, rfl, _, rfl, three3, fun t ht => ?_⟩
      refine q .keyword (.s l) l _ t (.inl ⟨hl, by rw [if_pos c], rfl⟩) (st3.trans (Stp.new st3.b1 ht)) (st3.b1.ne ht) (st3.none (st3.b1.ne ht) ht) ?_
      show upd H3 t _ t = _
      rw [upd_same, zk.1]; rfl
    · refine iteF' (by show (inV _ _) = false; rw [e2, decide_eq_false c]) ?_
      refine ⟨_, rfl, _, rfl, three3, fun t ht => ?_⟩
      refine q .name (.s l) l _ t (.inl ⟨hl, by rw [if_neg c], rfl⟩) (st3.trans (Stp.new st3.b1 ht)) (st3.b1.ne ht) (st3.none (st3.b1.ne ht) ht) ?_
      show upd H3 t _ t = _
      rw [upd_same, zk.2.1]; rfl
  refine ⟨_, rfl, rfl, _, rfl, ite2 (fun _ => ?_) (fun _ => ?_)⟩
  · refine ⟨rfl, fun p H2 sm2 hp hpl => ?_⟩
    have st2 := Stp.same st.b1 sm2
    refine ⟨_, rfl, _, rfl, _, rfl, p, _, rfl, .inl (SqL.of hpl), b, 32, by rw [List.length_map]; rfl, st2.b1, by decide, by decide, fun r H3 r0 r1 st3 => ?_⟩
    obtain ⟨k, rfl⟩ : ∃ k : Nat, r = (k : Int) := ⟨r.toNat, by omega⟩
    have hk : k < KW.length := by show k < 32; omega
    have gk : KW[k]? = some KW[k] := List.getElem?_eq_getElem hk
    have hm := List.getElem_mem hk
    generalize KW[k]'_ = wd at gk hm
    have hpl3 := st3.keep p _ (st2.b1.ne' hpl) hpl
    refine ⟨p, _, _, .str (S wd), rfl, rfl, SqL.of hpl3, atI_nat (by rw [List.getElem?_map, gk]; rfl), ?_⟩
    refine ⟨_, rfl, _, rfl, three3, fun t ht => ?_⟩
    have st4 := st.trans (st2.trans st3)
    refine q .keyword (.s wd) wd _ t (.inl ⟨KW_nm wd hm, by rw [if_pos hm], rfl⟩) (st4.trans (Stp.new st4.b1 ht)) (st4.b1.ne ht) (st4.none (st4.b1.ne ht) ht) ?_
    show upd H3 t _ t = _
    rw [upd_same, zk.1]; rfl
  refine ⟨_, rfl, rfl, _, rfl, ite2 (fun _ => ?_) (fun _ => ?_)⟩
  · refine ⟨_, rfl, _, rfl, b, sm, rfl, st.b1, fun l H2 hl st2 => ?_⟩
    obtain ⟨hl40, hld, c0, t0, hl0, _⟩ := hl
    have hdg : AllDigits l := fun c hc => by
      have := of_decide_eq_true (List.all_eq_true.mp hld c hc)
      omega
    have hne : l ≠ [] := by rw [hl0]; exact fun z => by cases z
    refine ⟨_, rfl, S l, _, rfl, intText_digits (x := S l) hdg hne (by rw [S_len]; omega), by rw [S_len]; omega, _, rfl, three3, fun t ht => ?_⟩
    have st3 := st.trans st2
    refine q .number (.n (digitsVal l)) l _ t (.inr (.inl ⟨⟨hl40, hld, c0, t0, hl0, by assumption⟩, rfl, rfl⟩)) (st3.trans (Stp.new st3.b1 ht)) (st3.b1.ne ht) (st3.none (st3.b1.ne ht) ht) ?_
    show upd H2 t _ t = _
    rw [upd_same, zk.2.2.1]; rfl
  refine ⟨_, rfl, _, _, rfl, rfl, _, rfl, ite2 (fun _ => ?_) (fun _ => ?_)⟩
  · exact ⟨_, rfl, _, rfl, b, sm, rfl, st.b1, fun w sp H' a ht st2 na hn hA => q .text (.s w) sp H' a (.inr (.inr (.inl ⟨w, ht, rfl, rfl⟩))) (st.trans st2) na (st.none na hn) hA⟩
  refine ⟨rfl, fun p H2 sm hp hpl => ?_⟩
  refine ⟨p, rfl, ⟨_, SqL.of hpl⟩, fun D hD => ?_⟩
  have smD : Same H1 (upd H2 D (.lst [])) := sm.trans (same_new hD _)
  refine lc_it (walk_list (xs := SG.map fun l => V.str (S l))) (fun i H' => Same H2 H' ∧ H' D = some (.lst (((SG.take i).filter fun s => !decide (s ∈ BRL)).map fun d => V.str (S d)))) ⟨same_new hD _, upd_same⟩ (fun i H' _ h => SqL.of (h.1 _ _ hpl)) ?_ ?_
  · rintro i x H3 H4 hi ⟨sm3, hl3⟩ ⟨rfl, hx⟩
    rw [List.getElem?_map] at hx
    obtain ⟨sg, hs, rfl⟩ := Option.map_eq_some_iff.mp hx
    refine ⟨rfl, ?_⟩
    have hdisp : ([.str (Str.ofString "("), .str (Str.ofString ")"), .str (Str.ofString "["), .str (Str.ofString "]"), .str (Str.ofString "{"), .str (Str.ofString "}")] : List V) = BRL.map fun l => V.str (S l) := by
      rw [zb.1, zb.2.1, zb.2.2.1, zb.2.2.2.1, zb.2.2.2.2.1, zb.2.2.2.2.2]; rfl
    refine ⟨_, rfl, by show 6 ≤ sizeLine; omega, fun g hg => ?_⟩
    refine ⟨g, BRL.map fun l => V.str (S l), rfl, .inl (SqL.of (by rw [upd_same, ← hdisp])), rfl, flat_strs BRL, _, rfl, ?_⟩
    have e2 := in_strs sg BRL
    have sm4 : Same H2 (upd H4 g (.lst [.str (Str.ofString "("), .str (Str.ofString ")"), .str (Str.ofString "["), .str (Str.ofString "]"), .str (Str.ofString "{"), .str (Str.ofString "}")])) := sm3.trans (same_new hg _)
    have hl4 := (same_new hg (.lst [.str (Str.ofString "("), .str (Str.ofString ")"), .str (Str.ofString "["), .str (Str.ofString "]"), .str (Str.ofString "{"), .str (Str.ofString "}")])) _ _ hl3
    have hf : (SG.take (i + 1)).filter (fun s => !decide (s ∈ BRL)) = (SG.take i).filter (fun s => !decide (s ∈ BRL)) ++ (if (!decide (sg ∈ BRL)) = true then [sg] else []) := by
      rw [List.take_add_one, hs, List.filter_append]
      congr 1
      show List.filter _ [sg] = _
      rw [List.filter_cons, List.filter_nil]
    by_cases c : sg ∈ BRL
    · refine iteF' (by show (!inV _ _) = false; rw [e2, decide_eq_true c]; rfl) ⟨sm4, ?_⟩
      rw [hf, if_neg (by rw [decide_eq_true c]; exact Bool.false_ne_true), List.append_nil]
      exact hl4
    · refine iteT' (by show (!inV _ _) = true; rw [e2, decide_eq_false c]; rfl) ?_
      refine ⟨_, rfl, _, hl4, ?_, same_upd sm4 hD, ?_⟩
      · rw [List.length_map]
        have h1 := List.length_filter_le (fun s => !decide (s ∈ BRL)) (SG.take i)
        have h2 := (List.take_prefix i SG).length_le
        have h3 : SG.length = 24 := rfl
        omega
      · rw [upd_same, hf, if_pos (by rw [decide_eq_false c]; rfl), List.map_append]; rfl
  · rintro H3 ⟨sm3, hl3⟩
    rw [List.length_map, List.take_length] at hl3
    have st3 : Stp b H H3 := st.trans (Stp.same st.b1 (sm.trans sm3))
    refine ⟨_, rfl, _, rfl, _, rfl, D, _, rfl, .inl (SqL.of hl3), b, 18, by rw [List.length_map, SG_nb.1]; rfl, st3.b1, by decide, by decide, fun r H4 r0 r1 st4 => ?_⟩
    obtain ⟨k, rfl⟩ : ∃ k : Nat, r = (k : Int) := ⟨r.toNat, by omega⟩
    have hk : k < (SG.filter fun s => !decide (s ∈ BRL)).length := by rw [SG_nb.1]; omega
    have gk := List.getElem?_eq_getElem hk
    have hm := List.getElem_mem hk
    generalize (SG.filter fun s => !decide (s ∈ BRL))[k]'_ = wd at gk hm
    have nD : D ≠ b := fun z => by
      obtain ⟨_, _, _, e⟩ := (Stp.same st.b1 sm).b1
      rw [z, e] at hD; cases hD
    have hpl3 := st4.keep D _ nD hl3
    refine ⟨D, _, _, .str (S wd), rfl, rfl, SqL.of hpl3, atI_nat (by rw [List.getElem?_map, gk]; rfl), ?_⟩
    refine ⟨_, rfl, _, rfl, three3, fun t ht => ?_⟩
    have st5 := st3.trans st4
    have hmf := List.mem_filter.mp hm
    refine q .sign (.s wd) wd _ t (.inr (.inr (.inr ⟨hmf.1, by have := hmf.2; rw [Bool.not_eq_true'] at this; exact of_decide_eq_false this, rfl, rfl⟩))) (st5.trans (Stp.new st5.b1 ht)) (st5.b1.ne ht) (st5.none (st5.b1.ne ht) ht) ?_
    show upd H4 t _ t = _
    rw [upd_same, zk.2.2.2]; rfl
end
end D0
namespace D0
open PySem PySem.Spec PyProof.Rows L2 SX NumText
theorem in_small {L : List Nat} {f : Nat → Bool} (h1 : ∀ c, c < 128 → decide (c ∈ L) = f c) (h2 : ∀ c ∈ L, c < 128) (h3 : ∀ c, 128 ≤ c → f c = false) (c : Nat) : decide (c ∈ L) = f c := by
  by_cases h : c < 128
  · exact h1 c h
  · rw [h3 c (by omega)]
    exact decide_eq_false fun z => h (h2 c z)
theorem letc_big (c : Nat) (h : 128 ≤ c) : letc c = false := by
  unfold letc
  rw [decide_eq_false (by omega), decide_eq_false (by omega), Bool.false_or, Bool.false_or]
  exact beq_eq_false_iff_ne.mpr (by omega)
theorem dig_big (c : Nat) (h : 128 ≤ c) : isDig c = false := decide_eq_false (by omega)
theorem in_letL (c : Nat) : decide (c ∈ letL) = letc c := in_small (by decide +kernel) (by decide +kernel) letc_big c
theorem in_digL (c : Nat) : decide (c ∈ digL) = isDig c := in_small (by decide +kernel) (by decide +kernel) dig_big c
theorem in_namL (c : Nat) : decide (c ∈ letL ++ digL) = namc c := in_small (by decide +kernel) (by decide +kernel) (fun c h => by unfold namc; rw [letc_big c h, dig_big c h]; rfl) c
def dS (ls : List (List Nat)) : List PyData := ls.map fun l => .str (S l)
theorem dS_dp {K : PySem.W.Frag} {H : Hp} : ∀ ls : List (List Nat), DpAll K H (ls.map fun l => V.str (S l)) (dS ls)
  | [] => .nil
  | n :: r => .cons (.str _) (dS_dp r)
theorem dS_sh : ∀ ns : List (List Nat), (∀ l ∈ ns, PyData.strOk (S l) = true) → PyData.canLayAll0 (dS ns) = true ∧ PyData.depthAll (dS ns) ≤ 2
  | [], _ => ⟨rfl, by decide⟩
  | n :: r, h => by
    obtain ⟨a, b⟩ := dS_sh r fun l hl => h l (List.mem_cons_of_mem _ hl)
    unfold dS at a b ⊢
    refine ⟨?_, ?_⟩
    · rw [List.map_cons, PyData.canLayAll0, a, Bool.and_true, PyData.canLay0]; exact h n List.mem_cons_self
    · rw [List.map_cons, PyData.depthAll]
      exact Nat.max_le.mpr ⟨by show PyData.depth (.str _) ≤ 2; unfold PyData.depth; decide, b⟩
theorem dS_shaped (ns : List (List Nat)) (h : ∀ l ∈ ns, PyData.strOk (S l) = true) : SeqAt.shaped (.list (dS ns)) = true := by
  obtain ⟨a, b⟩ := dS_sh ns h
  unfold SeqAt.shaped
  rw [PyData.canLay0, a, PyData.depth]
  exact decide_eq_true (by omega)
theorem dS_nil (ns : List (List Nat)) : PyData.eqv (.list (dS ns)) (.list []) = decide (ns = []) := by
  cases ns with
  | nil => rfl
  | cons d r => rfl
/-- must something part the word bf from the next one, sp -/
def mustP (bf sp : List Nat) : Bool := match bf.getLast? with
  | none => false
  | some c => (namc c && namc (sp.headD 0)) || SG.any fun one => decide (bf.length < one.length) && decide ((bf ++ sp).take one.length = one)
def spMust : Sp := fun vs H Q _ => ∃ (bf sp : List Nat), vs = [.str (S bf), .str (S sp)] ∧ bf.length ≤ 200 ∧ sp.length ≤ 200 ∧ sp ≠ [] ∧ ∀ H', Same H H' → Q (.bl (mustP bf sp)) H'
theorem SG_str : ∀ s ∈ SG, PyData.strOk (S s) = true := by decide +kernel
section
variable {P : Program} {w : World} {K : PySem.W.Frag} {mg : Str → Option Value} {base : Heap}
theorem ok__law_must_part (T : Txt K w mg) (Ol : OkD P w K mg base CX0 1 "_law_letters" p__law_letters (spConst letL)) (Os : OkD P w K mg base CX0 1 "_law_signs" p__law_signs (spStrs SG)) : OkD P w K mg base CX0 2 "_law_must_part" p__law_must_part spMust := by
  refine T.g__law_must_part.ok sc__law_must_part (fun vs H Q E h => ?_) (fun f cdv A outer s H vs Q E hr h => ?_)
  · obtain ⟨bf, sp, rfl, _⟩ := h; rfl
  obtain ⟨bf, sp, rfl, hb, hs, hne, q⟩ := h
  have z : Str.ofString "" = S [] ∧ Str.ofString "0123456789" = S digL := by decide +kernel
  have lim : (1000 : Nat) ≤ sizeLine := by decide
  have lim2 : (S bf).length ≤ sizeLine ∧ (S sp).length ≤ sizeLine := ⟨by rw [S_len]; omega, by rw [S_len]; omega⟩
  have namL : ∀ c : Nat, decide (c ∈ (S (letL ++ digL)).cps.toList) = namc c := fun c => by
    have := in_namL c
    simpa [S] using this
  have mP : ∀ b0 cl ch st, bf = b0 ++ [cl] → sp = ch :: st → mustP bf sp = ((namc cl && namc ch) || SG.any fun one => decide (bf.length < one.length) && decide ((bf ++ sp).take one.length = one)) := by
    intro b0 cl ch st e1 e2
    subst e1 e2
    unfold mustP
    rw [List.getLast?_append]; rfl
  refine split_at 4 (fun t => ∀ b0 cl ch st, bf = b0 ++ [cl] → sp = ch :: st → (namc cl && namc ch) = false →
    t { nx := fun _ H' => Q .non H', rt := Q } [some (.str (S bf)), some (.str (S sp)), some (.str (S (bf ++ sp))), some (.str (S (letL ++ digL))), none] H) ?_ (fun t ht hg => ?_)
  · refine ⟨_, (pss_one (ps_ret (pe_cmpR (op_neD hr.units) (pe_lc (own := [("one", 4)]) (g := gName 4) (by rfl) sc__law_must_part.nd (pi_list (pcall0 Os hr)) (blkOk_by (own := [("one", 4)]) (N := n__law_must_part) (sc := defScope s__law_must_part) (by decide +kernel))
      (fun _ _ _ _ _ => (pg_name (i := 4) sc__law_must_part.nd rfl (Or.inl rfl))) (fun _ _ _ _ _ => pts_one (PW.pt (pw_and (pt_cmpR op_gt (pe_callB call_len_str (by rfl) T.z_len PySem.boot_len (pa_cons (pv 4) pa_nil)) (pe_callB call_len_str (by rfl) T.z_len PySem.boot_len (pa_cons (pv 0) pa_nil)) (nomark _)) (pw_and1 (pt_cmpR op_eq (pe_slice sl_str (pv 2) po_none (po_some (pe_callB call_len_str (by rfl) T.z_len PySem.boot_len (pa_cons (pv 4) pa_nil)))) (pv 4) (nomark _)))))) (fun _ _ _ _ _ => pv 4)) (pe_lst pa_nil) (nomark _)))), ?_⟩
    intro b0 cl ch st e1 e2 hn
    rw [mP b0 cl ch st e1 e2, hn, Bool.false_or] at q
    refine ⟨rfl, fun p H2 sm hp hpl => ?_⟩
    refine ⟨p, rfl, ⟨_, SqL.of hpl⟩, fun D hD => ?_⟩
    generalize hF : (fun one : List Nat => decide (bf.length < one.length) && decide ((bf ++ sp).take one.length = one)) = F at q
    have lim3 : (S (bf ++ sp)).length ≤ sizeLine := by rw [S_len, List.length_append]; omega
    refine lc_it (walk_list (xs := SG.map fun l => V.str (S l))) (fun i H' => Same H2 H' ∧ H' D = some (.lst (((SG.take i).filter F).map fun d => V.str (S d)))) ⟨same_new hD _, upd_same⟩ (fun i H' _ h => SqL.of (h.1 _ _ hpl)) ?_ ?_
    · rintro i x H3 H4 hi ⟨sm3, hl3⟩ ⟨rfl, hx⟩
      rw [List.getElem?_map] at hx
      obtain ⟨sg, hs, rfl⟩ := Option.map_eq_some_iff.mp hx
      have hs3 := (SG_len sg (List.mem_of_getElem? hs)).2
      have hf : (SG.take (i + 1)).filter F = (SG.take i).filter F ++ (if F sg = true then [sg] else []) := by
        rw [List.take_add_one, hs, List.filter_append]
        congr 1
        show List.filter _ [sg] = _
        rw [List.filter_cons, List.filter_nil]
      have hfin : ∀ b : Bool, F sg = b → (if b = true then (Same H2 (upd H4 D (.lst (((SG.take i).filter F).map (fun d => V.str (S d)) ++ [V.str (S sg)]))) ∧ upd H4 D (.lst (((SG.take i).filter F).map (fun d => V.str (S d)) ++ [V.str (S sg)])) D = some (.lst (((SG.take (i + 1)).filter F).map fun d => V.str (S d))))
          else (Same H2 H4 ∧ H4 D = some (.lst (((SG.take (i + 1)).filter F).map fun d => V.str (S d))))) := fun b hb => by
        rw [hf, hb]
        cases b with
        | true => rw [if_pos rfl, if_pos rfl, List.map_append]; exact ⟨same_upd sm3 hD, upd_same⟩
        | false => rw [if_neg Bool.false_ne_true, if_neg Bool.false_ne_true, List.append_nil]; exact ⟨sm3, hl3⟩
      refine ⟨rfl, ?_⟩
      refine ⟨_, rfl, _, rfl, by rw [S_len]; omega, _, rfl, _, rfl, lim2.1, _, _, rfl, rfl, _, rfl, iteD (b := decide (((S bf).length : Int) < ((S sg).length : Int))) (fun c => ?_) (fun c => ?_)⟩
      · have c' := of_decide_eq_true c
        rw [S_len, S_len] at c'
        refine ⟨_, rfl, _, rfl, _, rfl, (by rw [S_len]; omega), _, rfl, S (bf ++ sp), rfl, lim3, ?_⟩
        have ec : cutS (S (bf ++ sp)) none (some ((S sg).length : Int)) = S ((bf ++ sp).take sg.length) := by rw [S_len]; exact cut_0 _ _
        rw [ec]
        refine ⟨_, rfl, rfl, _, rfl, ?_⟩
        have eF : F sg = decide (V.str (S ((bf ++ sp).take sg.length)) = V.str (S sg)) := by
          rw [str_dec, ← hF]
          show (decide (bf.length < sg.length) && _) = _
          rw [decide_eq_true (by omega : bf.length < sg.length), Bool.true_and]
        refine iteD (b := decide (V.str (S ((bf ++ sp).take sg.length)) = V.str (S sg))) (fun c2 => ?_) (fun c2 => ?_)
        · have := hfin true (eF.trans c2)
          rw [if_pos rfl] at this
          refine ⟨_, rfl, _, hl3, ?_, this.1, this.2⟩
          rw [List.length_map]
          have h1 := List.length_filter_le F (SG.take i)
          have h2 := (List.take_prefix i SG).length_le
          have h3 : SG.length = 24 := rfl
          omega
        · have := hfin false (eF.trans c2)
          rw [if_neg Bool.false_ne_true] at this
          exact this
      · have c' := of_decide_eq_false c
        rw [S_len, S_len] at c'
        have := hfin false (by rw [← hF]; show (decide (bf.length < sg.length) && _) = false; rw [decide_eq_false (by omega)]; rfl)
        rw [if_neg Bool.false_ne_true] at this
        exact this
    · rintro H3 ⟨sm3, hl3⟩
      rw [List.length_map, List.take_length] at hl3
      have s3 : Same H H3 := sm.trans sm3
      refine ⟨by show 0 ≤ sizeLine; omega, fun g hg2 => ?_⟩
      have hl5 := (same_new hg2 (.lst [])) _ _ hl3
      refine ⟨.list (dS (SG.filter F)), .list [], .lst (SqL.of hl5) (dS_dp _), .lst (SqL.of upd_same) .nil, dS_shaped _ (fun l hl => SG_str l (List.mem_filter.mp hl).1), by decide, ?_⟩
      rw [dS_nil]
      have := q _ (s3.trans (same_new hg2 (.lst [])))
      have e3 : SG.any F = !decide (SG.filter F = []) := by
        cases hA : SG.any F with
        | true =>
          obtain ⟨x, hx, hfx⟩ := List.any_eq_true.mp hA
          rw [decide_eq_false (fun z => by
            have : x ∈ SG.filter F := List.mem_filter.mpr ⟨hx, hfx⟩
            rw [z] at this; cases this)]; rfl
        | false =>
          rw [decide_eq_true (List.filter_eq_nil_iff.mpr fun x hx hfx => by
            rw [List.any_eq_true.mpr ⟨x, hx, hfx⟩] at hA; cases hA)]; rfl
      rw [e3] at this
      exact this
  · refine ⟨_, pss_cons (ps_if (pt_cmpR op_eq (pv 0) pe_str (nomark _)) (pss_one (ps_ret pe_bl)) pss_nil) (pss_cons (ps_set (i := 2) sc__law_must_part.nd rfl (.inr rfl) (pe_op op_add_str (pv 0) (pv 1))) (pss_cons (ps_set (i := 3) sc__law_must_part.nd rfl (.inl rfl) (pe_op op_add_str (pcall0 Ol hr) pe_str))
      (pss_cons (ps_if (PW.pt (pw_and (pt_cmpR op_in_sign (pe_ix ix_str (pv 0) (pe_un un_neg pe_int) (fun _ _ => rfl)) (pv 3) (by rfl)) (pw_and1 (pt_cmpR op_in_sign (pe_ix ix_str (pv 1) pe_int (fun _ _ => rfl)) (pv 3) (by rfl))))) (pss_one (ps_ret pe_bl)) pss_nil) ht))), ?_⟩
    have e0 : decide (V.str (S bf) = V.str (Str.ofString "")) = decide (bf = []) := by rw [z.1, str_dec]
    refine ⟨_, rfl, rfl, _, rfl, iteD (b := decide (V.str (S bf) = V.str (Str.ofString ""))) (fun c => ?_) (fun c => ?_)⟩
    · rw [e0] at c
      have c := of_decide_eq_true c
      subst c
      exact q H (Same.refl H)
    rw [e0] at c
    have hbf : bf ≠ [] := of_decide_eq_false c
    obtain ⟨b0, cl, hB⟩ : ∃ b0 cl, bf = b0 ++ [cl] := ⟨bf.dropLast, bf.getLast hbf, (List.dropLast_concat_getLast hbf).symm⟩
    obtain ⟨ch, st, hS⟩ : ∃ ch st, sp = ch :: st := by
      cases sp with
      | nil => exact absurd rfl hne
      | cons a t => exact ⟨a, t, rfl⟩
    refine ⟨_, rfl, _, rfl, _, _, rfl, rfl, by rw [S_len, S_len]; omega, ?_⟩
    refine ⟨rfl, _, _, rfl, rfl, by rw [z.2, S_len, S_len]; show 53 + 10 ≤ _; omega, ?_⟩
    have gl : atI (S bf).cps.toList (-1) = some cl := by
      rw [hB]
      have : (S (b0 ++ [cl])).cps.toList = b0 ++ [cl] := by simp [S]
      rw [this]; exact atI_last b0 cl
    refine ⟨_, rfl, _, rfl, S bf, -1, cl, rfl, rfl, lim2.1, gl, _, rfl, _, _, rfl, rfl, _, rfl, ?_⟩
    have e1 : decide (cl ∈ (S letL ++ Str.ofString "0123456789").cps.toList) = namc cl := by rw [z.2, S_cat]; exact namL cl
    have e2 : decide (ch ∈ (S letL ++ Str.ofString "0123456789").cps.toList) = namc ch := by rw [z.2, S_cat]; exact namL ch
    rw [z.2, S_cat] at e1 e2
    rw [z.2, S_cat, S_cat]
    have hg := hg b0 cl ch st hB hS
    have q := mP b0 cl ch st hB hS ▸ q H (Same.refl H)
    refine iteD (b := decide (cl ∈ _)) (fun c1 => ?_) (fun c1 => ?_)
    · rw [e1] at c1
      have g0 : atI (S sp).cps.toList (0 : Int) = some ch := at_S (i := 0) (by rw [hS]; rfl)
      refine ⟨_, rfl, S sp, 0, ch, rfl, rfl, lim2.2, g0, _, rfl, _, _, rfl, rfl, _, rfl, ?_⟩
      refine iteD (b := decide (ch ∈ _)) (fun c2 => ?_) (fun c2 => ?_)
      · rw [e2] at c2
        rw [c1, c2] at q
        exact q
      · rw [e2] at c2
        exact hg (by rw [c2, Bool.and_false])
    · rw [e1] at c1
      exact hg (by rw [c1]; rfl)
end
end D0
namespace D0
open PySem PySem.Spec PyProof.Rows L2 SX NumText
theorem find_max {p : List Nat → Bool} {s : List Nat} : ∀ {L : List (List Nat)}, L.Pairwise (fun a b => b.length ≤ a.length) → L.find? p = some s → ∀ g ∈ L, p g = true → g.length ≤ s.length
  | [], _, h, _, _, _ => by cases h
  | a :: r, hp, h, g, hg, pg => by
    rw [List.find?_cons] at h
    cases pa : p a with
    | true =>
      rw [pa] at h
      have : a = s := by simpa using h
      subst this
      rcases List.mem_cons.mp hg with rfl | hg
      · exact Nat.le_refl _
      · exact (List.pairwise_cons.mp hp).1 g hg
    | false =>
      rw [pa] at h
      rcases List.mem_cons.mp hg with rfl | hg
      · rw [pa] at pg; cases pg
      · exact find_max (List.pairwise_cons.mp hp).2 (by simpa using h) g hg pg
theorem SG_desc : SG.Pairwise (fun a b => b.length ≤ a.length) := by decide
/-- the word bf does not go on in suf -/
def Sf (bf suf : List Nat) : Prop := (∀ b0 c d, bf = b0 ++ [c] → namc c = true → suf.head? = some d → namc d = false) ∧ ∀ one ∈ SG, bf ≠ [] → bf.length < one.length → (bf ++ suf).take one.length ≠ one
def TokL (k : Kd) (w : Wd) (sp : List Nat) : Prop := PieceL k w sp ∨ (sp ∈ BRL ∧ k = .sign ∧ w = .s sp)
/-- as TokL, texts of any length -/
def TokG (k : Kd) (w : Wd) (sp : List Nat) : Prop :=
  (NameL sp ∧ k = (if sp ∈ KW then .keyword else .name) ∧ w = .s sp) ∨ (FigL sp ∧ k = .number ∧ w = .n (digitsVal sp)) ∨ (∃ t n, TextL n t sp ∧ k = .text ∧ w = .s t) ∨ (sp ∈ SG ∧ k = .sign ∧ w = .s sp)
theorem tw_app {f : Nat → Bool} : ∀ (sp suf : List Nat), sp.all f = true → (∀ d, suf.head? = some d → f d = false) → (sp ++ suf).takeWhile f = sp
  | [], suf, _, h => by
    cases suf with
    | nil => rfl
    | cons d t => rw [List.nil_append, List.takeWhile_cons, if_neg (by rw [h d rfl]; exact Bool.false_ne_true)]
  | c :: t, suf, ha, h => by
    rw [List.all_cons, Bool.and_eq_true] at ha
    rw [List.cons_append, List.takeWhile_cons, if_pos ha.1, tw_app t suf ha.2 h]
theorem dig_nam {c : Nat} (h : isDig c = true) : namc c = true := by unfold namc; rw [h, Bool.or_true]
theorem dig_let {c : Nat} (h : isDig c = true) : letc c = false := by
  have h2 := of_decide_eq_true h
  have : ∀ c, c < 58 → 48 ≤ c → letc c = false := by decide
  exact this c (by omega) h2.1
theorem lastc {sp : List Nat} (f : Nat → Bool) (h : sp.all f = true) (n : sp ≠ []) : ∃ b0 c, sp = b0 ++ [c] ∧ f c = true := by
  refine ⟨sp.dropLast, sp.getLast n, (List.dropLast_concat_getLast n).symm, List.all_eq_true.mp h _ (List.getLast_mem n)⟩
theorem scanT_units {q st : Nat} (hq : q = 34 ∨ q = 39) : ∀ (us : List (Nat × Bool)) (suf : List Nat) (a : Nat) (acc : List Nat), (∀ u ∈ us, UnitOk q u) →
    scanT q st false (us.flatMap unitSp ++ q :: suf) a acc = .ok (.text, .s (acc ++ us.map Prod.fst), a + (us.flatMap unitSp).length + 1)
  | [], suf, a, acc, _ => by
    show (if q = q then _ else _) = _
    rw [if_pos rfl]
    simp
  | (c, false) :: us, suf, a, acc, h => by
    obtain ⟨_, h2, h3⟩ := h _ List.mem_cons_self
    show (if c = q then _ else if c = 92 then _ else scanT q st false (us.flatMap unitSp ++ q :: suf) (a + 1) (acc ++ [c])) = _
    rw [if_neg h3, if_neg h2, scanT_units hq us suf (a + 1) (acc ++ [c]) (fun u hu => h u (List.mem_cons_of_mem _ hu))]
    simp [unitSp]
    omega
  | (c, true) :: us, suf, a, acc, h => by
    have ho := h _ List.mem_cons_self
    have n92 : ¬ 92 = q := by rcases hq with e | e <;> omega
    have key : escV [if c = 10 then 110 else c] = some [c] := by
      rcases ho with e | e | e | e <;> subst e <;> rfl
    show (if 92 = q then _ else if 92 = 92 then scanT q st true ((if c = 10 then 110 else c) :: (us.flatMap unitSp ++ q :: suf)) (a + 1) acc else _) = _
    rw [if_neg n92, if_pos rfl]
    show (match escV [if c = 10 then 110 else c] with
      | none => (.error (a + 1) : Except Nat Tr)
      | some m => scanT q st false (us.flatMap unitSp ++ q :: suf) (a + 1 + 1) (acc ++ m)) = _
    rw [key]
    show scanT q st false (us.flatMap unitSp ++ q :: suf) (a + 1 + 1) (acc ++ [c]) = _
    rw [scanT_units hq us suf (a + 1 + 1) (acc ++ [c]) (fun u hu => h u (List.mem_cons_of_mem _ hu))]
    simp [unitSp]
    omega
theorem SG_head : ∀ s ∈ SG, ∃ c t, s = c :: t ∧ letc c = false ∧ isDig c = false ∧ c ≠ 34 ∧ c ≠ 39 ∧ c ≠ 32 ∧ c ≠ 35 := by
  have h : SG.all (fun s => match s with | c :: _ => !letc c && !isDig c && decide (c ≠ 34) && decide (c ≠ 39) && decide (c ≠ 32) && decide (c ≠ 35) | [] => false) = true := by decide +kernel
  intro s hs
  have := List.all_eq_true.mp h s hs
  cases s with
  | nil => cases this
  | cons c t =>
    simp only [Bool.and_eq_true, Bool.not_eq_true', decide_eq_true_eq] at this
    obtain ⟨⟨⟨⟨⟨h1, h2⟩, h3⟩, h4⟩, h5⟩, h6⟩ := this
    exact ⟨c, t, rfl, h1, h2, h3, h4, h5, h6⟩
theorem BRL_SG : ∀ s ∈ BRL, s ∈ SG := by decide
theorem scan_sign {sp suf l : List Nat} {i : Nat} (h : sp ∈ SG) (hd : l.drop i = sp ++ suf) (hs : Sf sp suf) : scanTok l i = .ok (.sign, .s sp, i + sp.length) := by
  obtain ⟨c, t, e, h1, h2, h3, h4, _, _⟩ := SG_head sp h
  have hh : (l.drop i).headD 0 = c := by rw [hd, e]; rfl
  unfold scanTok
  rw [hh, h1, h2, if_neg Bool.false_ne_true, if_neg Bool.false_ne_true, if_neg (fun z => z.elim h3 h4)]
  unfold scanSign
  have hp : (fun s : List Nat => decide ((l.drop i).take s.length = s)) sp = true := by
    show decide _ = true
    rw [hd, List.take_left]; exact decide_eq_true rfl
  cases hf : SG.find? (fun s => decide ((l.drop i).take s.length = s)) with
  | none => exact absurd hp (by have := List.find?_eq_none.mp hf sp h; exact this)
  | some s' =>
    have hmax := find_max (by decide : SG.Pairwise (fun a b => b.length ≤ a.length)) hf sp h hp
    have hs' : (l.drop i).take s'.length = s' := by
      have := List.find?_some hf
      exact of_decide_eq_true this
    have e2 : s' = sp := by
      by_cases c : sp.length < s'.length
      · exact absurd (by rw [← hd]; exact hs') (hs.2 s' (List.mem_of_find?_eq_some hf) (by rw [e]; exact fun z => by cases z) c)
      · have : s'.length = sp.length := by omega
        rw [this, hd, List.take_left] at hs'
        exact hs'.symm
    rw [e2]
theorem TokL.g {k : Kd} {w : Wd} {sp : List Nat} (h : TokL k w sp) : TokG k w sp := by
  rcases h with (h | h | ⟨t, h⟩ | ⟨h, _, h2⟩) | ⟨h, h2⟩
  · exact .inl h
  · exact .inr (.inl h)
  · exact .inr (.inr (.inl ⟨t, 8, h⟩))
  · exact .inr (.inr (.inr ⟨h, h2⟩))
  · exact .inr (.inr (.inr ⟨BRL_SG sp h, h2⟩))
theorem scan_tok {k : Kd} {w : Wd} {sp suf l : List Nat} {i : Nat} (h : TokG k w sp) (hd : l.drop i = sp ++ suf) (hs : Sf sp suf) : scanTok l i = .ok (k, w, i + sp.length) := by
  rcases h with ⟨⟨h30, hall, c, t, e, hc⟩, rfl, rfl⟩ | ⟨⟨h40, hall, c, t, e, h48⟩, rfl, rfl⟩ | ⟨w', n, ⟨q, us, hq, rfl, rfl, _, hok⟩, rfl, rfl⟩ | ⟨hsg, rfl, rfl⟩
  · have hne : sp ≠ [] := by rw [e]; exact fun z => by cases z
    obtain ⟨b0, cl, el, hcl⟩ := lastc namc hall hne
    have htw : (l.drop i).takeWhile namc = sp := by rw [hd]; exact tw_app sp suf hall (fun d hd2 => hs.1 b0 cl d el hcl hd2)
    have hh : (l.drop i).headD 0 = c := by rw [hd, e]; rfl
    unfold scanTok
    rw [hh, hc, if_pos rfl]
    unfold scanName
    have hj : twl namc l i = i + sp.length := by unfold twl; rw [htw]
    rw [word_tw, htw, if_neg (by omega), hj]
  · have hne : sp ≠ [] := by rw [e]; exact fun z => by cases z
    obtain ⟨b0, cl, el, hcl⟩ := lastc isDig hall hne
    have hnx : ∀ d, suf.head? = some d → namc d = false := fun d hd2 => hs.1 b0 cl d el (dig_nam hcl) hd2
    have htw : (l.drop i).takeWhile isDig = sp := by
      rw [hd]
      refine tw_app sp suf hall (fun d hd2 => ?_)
      have := hnx d hd2
      unfold namc at this
      exact (Bool.or_eq_false_iff.mp this).2
    have hcd : isDig c = true := by rw [e, List.all_cons, Bool.and_eq_true] at hall; exact hall.1
    have hh : (l.drop i).headD 0 = c := by rw [hd, e]; rfl
    unfold scanTok
    rw [hh, dig_let hcd, if_neg Bool.false_ne_true, hcd, if_pos rfl]
    unfold scanNumber
    have hj : twl isDig l i = i + sp.length := by unfold twl; rw [htw]
    have hd3 : l.drop (i + sp.length) = suf := by rw [← List.drop_drop, hd, List.drop_left]
    have nb : numBad l i = false := by
      unfold numBad
      rw [word_tw, htw, hj, hd3, decide_eq_false (by omega), Bool.false_or]
      have e1 : (decide (1 < sp.length) && decide (sp.head? = some 48)) = false := by
        rw [e]
        by_cases c48 : c = 48
        · rw [h48 c48]; rfl
        · rw [decide_eq_false (p := (c :: t).head? = some 48) (fun z => c48 (Option.some.inj z)), Bool.and_false]
      rw [e1, Bool.false_or]
      cases suf with
      | nil => rw [List.take_nil]; simp
      | cons d r =>
        have := hnx d rfl
        unfold namc at this
        have h3 := (Bool.or_eq_false_iff.mp this).1
        show (_ && ([d].any letc)) = false
        rw [List.any_cons, h3]; simp
    rw [if_neg (by rw [nb]; exact Bool.false_ne_true), word_tw, htw, hj]
  · have hh : (l.drop i).headD 0 = q := by rw [hd]; rfl
    have hl : letc q = false ∧ isDig q = false := by rcases hq with e | e <;> subst e <;> decide
    unfold scanTok
    rw [hh, hl.1, hl.2, if_neg Bool.false_ne_true, if_neg Bool.false_ne_true, if_pos hq]
    unfold scanText
    have hd3 : l.drop (i + 1) = us.flatMap unitSp ++ q :: suf := by
      rw [← List.drop_drop, hd]
      show us.flatMap unitSp ++ [q] ++ suf = _
      rw [List.append_assoc]; rfl
    rw [hh, hd3, scanT_units hq us suf (i + 1) [] hok]
    simp
    omega
  · exact scan_sign hsg hd hs
end D0
namespace D0
open PySem PySem.Spec PyProof.Rows L2 SX NumText
abbrev spn (g : Nat) : List Nat := List.replicate g 32
theorem tw_sp (g : Nat) (t : List Nat) : (spn g ++ t).takeWhile spc = spn g ++ t.takeWhile spc := by
  induction g with
  | zero => rfl
  | succ n ih =>
    show (32 :: (spn n ++ t)).takeWhile spc = 32 :: (spn n ++ t.takeWhile spc)
    rw [List.takeWhile_cons, if_pos (by decide), ih]
theorem twl_at2 {l pre t : List Nat} {g j : Nat} (h : l.drop j = spn g ++ t) : twl spc l j = j + g + (t.takeWhile spc).length := by
  unfold twl
  rw [h, tw_sp, List.length_append, List.length_replicate]; omega
theorem SG_no : ∀ s ∈ SG, 32 ∉ s ∧ 35 ∉ s := by decide
theorem sf_nil (suf : List Nat) : Sf [] suf := by
  refine ⟨fun b0 c d e _ _ => ?_, fun _ _ h => absurd rfl h⟩
  have := congrArg List.length e
  rw [List.length_append] at this
  simp only [List.length_cons, List.length_nil] at this
  omega
theorem sf_gap {bf suf : List Nat} (h : suf = [] ∨ suf.head? = some 32 ∨ suf.head? = some 35) : Sf bf suf := by
  refine ⟨fun b0 c d e hc hd => ?_, fun one ho _ hl he => ?_⟩
  · rcases h with h | h | h
    · rw [h] at hd; cases hd
    · rw [h] at hd; cases hd; decide
    · rw [h] at hd; cases hd; decide
  · cases suf with
    | nil =>
      have := congrArg List.length he
      rw [List.append_nil, List.length_take] at this
      omega
    | cons d r =>
      have hm : d ∈ one := by
        rw [← he, List.take_append]
        obtain ⟨m, hm⟩ : ∃ m, one.length - bf.length = m + 1 := ⟨one.length - bf.length - 1, by omega⟩
        rw [hm, List.take_succ_cons]
        exact List.mem_append_right _ List.mem_cons_self
      obtain ⟨h1, h2⟩ := SG_no one ho
      rcases h with h | h | h
      · cases h
      · cases h; exact h1 hm
      · cases h; exact h2 hm
theorem SG_three : ∀ s ∈ SG, s.length = 3 → s = [47, 47, 61] := by decide
theorem SG_le : ∀ s ∈ SG, s.length ≤ 3 := by decide
theorem sf_must {bf sp suf : List Nat} (hm : mustP bf sp = false) (hn : sp ≠ []) (h47 : bf ≠ [47]) : Sf bf (sp ++ suf) := by
  obtain ⟨ch, st, rfl⟩ : ∃ ch st, sp = ch :: st := by
    cases sp with
    | nil => exact absurd rfl hn
    | cons a t => exact ⟨a, t, rfl⟩
  cases bf with
  | nil => exact sf_nil _
  | cons c0 t0 =>
    have hne : c0 :: t0 ≠ [] := fun z => by cases z
    generalize c0 :: t0 = bf at *
    have hl := List.dropLast_concat_getLast hne
    generalize bf.dropLast = b0 at hl
    generalize bf.getLast hne = cl at hl
    subst hl
    unfold mustP at hm
    rw [List.getLast?_append] at hm
    have hm : ((namc cl && namc ch) || SG.any fun one => decide ((b0 ++ [cl]).length < one.length) && decide (((b0 ++ [cl]) ++ ch :: st).take one.length = one)) = false := hm
    obtain ⟨m1, m2⟩ := Bool.or_eq_false_iff.mp hm
    refine ⟨fun b1 c d e hc hd => ?_, fun one ho _ hlt he => ?_⟩
    · have e1 : cl = c := by
        have := congrArg List.getLast? e
        rw [List.getLast?_append, List.getLast?_append] at this
        exact Option.some.inj this
      have e2 : ch = d := Option.some.inj hd
      subst e1 e2
      rw [hc, Bool.true_and] at m1
      exact m1
    · have h2 := List.any_eq_false.mp m2 one ho
      have h3 : ¬ ((b0 ++ [cl]) ++ ch :: st).take one.length = one := fun z => h2 (by rw [decide_eq_true hlt, decide_eq_true z]; rfl)
      by_cases c : one.length ≤ ((b0 ++ [cl]) ++ ch :: st).length
      · refine h3 ?_
        rw [← List.append_assoc, List.take_append_of_le_length c] at he
        exact he
      · have l3 := SG_le one ho
        rw [List.length_append, List.length_append, List.length_cons] at c
        have hb : b0 = [] := by
          cases b0 with
          | nil => rfl
          | cons x y => simp only [List.length_cons, List.length_nil] at c; omega
        subst hb
        have : one.length = 3 := by simp only [List.length_cons, List.length_nil] at c; omega
        have e3 := SG_three one ho this
        rw [e3] at he
        have : cl = 47 := (List.cons.inj he).1
        exact h47 (by rw [this]; rfl)
def Chain (l : List Nat) (ln : Nat) (s0 : Sc) (j : Nat) (s : Sc) : Prop := ∃ k, k ≤ j ∧ ∀ f, runRow l ln (f + k) (twl spc l 0) s0 = runRow l ln f (twl spc l j) s
/-- the row cur stands where the scanner, begun with s0, has s; the last word is bf -/
structure Row (cur : List Nat) (ln : Nat) (s0 s : Sc) (bf : List Nat) : Prop where
  ch : ∀ suf, Sf bf suf → Chain (cur ++ suf) ln s0 cur.length s
  nb : bf ≠ [47]
theorem row_start (g ln : Nat) (s : Sc) : Row (spn g) ln s s [] := by
  refine ⟨fun suf _ => ⟨0, Nat.zero_le _, fun f => ?_⟩, fun z => by cases z⟩
  rw [Nat.add_zero, twl_at2 (l := spn g ++ suf) (pre := []) (t := suf) (g := g) (j := 0) rfl, twl_at2 (l := spn g ++ suf) (pre := []) (t := suf) (g := 0) (j := (spn g).length) (by rw [List.drop_left]; rfl), List.length_replicate]
  congr 1
  omega
theorem TokG.head {k : Kd} {w : Wd} {sp : List Nat} (h : TokG k w sp) : ∃ c t, sp = c :: t ∧ c ≠ 32 ∧ c ≠ 35 := by
  have sg : ∀ sp ∈ SG, ∃ c t, sp = c :: t ∧ c ≠ 32 ∧ c ≠ 35 := fun sp h => by
    obtain ⟨c, t, e, _, _, _, _, h5, h6⟩ := SG_head sp h
    exact ⟨c, t, e, h5, h6⟩
  have l1 : letc 32 = false ∧ letc 35 = false ∧ isDig 32 = false ∧ isDig 35 = false := by decide
  rcases h with ⟨⟨h30, hall, c, t, e, hc⟩, _, _⟩ | ⟨⟨h40, hall, c, t, e, h48⟩, _, _⟩ | ⟨w', n, ⟨q, us, hq, _, e, _, hok⟩, _, _⟩ | ⟨hsg, _, _⟩
  · exact ⟨c, t, e, (fun z => by rw [z, l1.1] at hc; cases hc), (fun z => by rw [z, l1.2.1] at hc; cases hc)⟩
  · have hc : isDig c = true := by rw [e, List.all_cons, Bool.and_eq_true] at hall; exact hall.1
    exact ⟨c, t, e, (fun z => by rw [z, l1.2.2.1] at hc; cases hc), (fun z => by rw [z, l1.2.2.2] at hc; cases hc)⟩
  · exact ⟨q, _, e, by rcases hq with z | z <;> omega, by rcases hq with z | z <;> omega⟩
  · exact sg sp hsg
theorem TokG.nb {k : Kd} {w : Wd} {sp : List Nat} (h : TokG k w sp) : sp ≠ [47] := by
  intro z
  subst z
  rcases h with ⟨⟨h30, hall, c, t, e, hc⟩, _, _⟩ | ⟨⟨h40, hall, c, t, e, h48⟩, _, _⟩ | ⟨w', n, ⟨q, us, hq, _, e, _, hok⟩, _, _⟩ | ⟨hsg, _, _⟩
  · cases e; cases hc
  · cases hall
  · have := (List.cons.inj e).1
    rcases hq with z | z <;> omega
  · revert hsg; decide
theorem row_tok {cur : List Nat} {ln g : Nat} {s0 s s1 s2 : Sc} {bf : List Nat} {k : Kd} {w : Wd} {sp : List Nat} (R : Row cur ln s0 s bf) (hb : beg ln (cur.length + g) s = .ok s1) (hg : gatherP ⟨k, w, ln, cur.length + g + 1⟩ s1 = .ok s2) (ht : TokG k w sp) (hm : g = 0 → mustP bf sp = false) :
    Row (cur ++ spn g ++ sp) ln s0 { s2 with behind := cur.length + g + sp.length + 1 } sp := by
  obtain ⟨c, t, esp, n32, n35⟩ := ht.head
  refine ⟨fun suf hs => ?_, ht.nb⟩
  have hsf : Sf bf (spn g ++ (sp ++ suf)) := by
    cases g with
    | zero =>
      show Sf bf (sp ++ suf)
      exact sf_must (hm rfl) (by rw [esp]; exact fun z => by cases z) R.nb
    | succ n => exact sf_gap (.inr (.inl rfl))
  obtain ⟨k1, hk1, hrun⟩ := R.ch _ hsf
  have el : cur ++ spn g ++ sp ++ suf = cur ++ (spn g ++ (sp ++ suf)) := by simp
  rw [el]
  generalize hL : cur ++ (spn g ++ (sp ++ suf)) = l at *
  have hd0 : l.drop cur.length = spn g ++ (sp ++ suf) := by rw [← hL, List.drop_left]
  have hp : twl spc l cur.length = cur.length + g := by
    rw [twl_at2 (pre := []) hd0, esp, List.cons_append, List.takeWhile_cons, if_neg (by show ¬ (c == 32) = true; rw [beq_eq_false_iff_ne.mpr n32]; exact Bool.false_ne_true)]; rfl
  have hd1 : l.drop (cur.length + g) = sp ++ suf := by
    rw [← List.drop_drop, hd0]
    have := List.drop_left (l₁ := spn g) (l₂ := sp ++ suf)
    rw [List.length_replicate] at this
    exact this
  have hsc := scan_tok ht hd1 hs
  have hlen : cur.length + g < l.length := by
    rw [← hL, esp, List.length_append, List.length_append, List.length_append, List.length_replicate, List.length_cons]
    omega
  have hh : here l (cur.length + g) = true := by
    unfold here
    rw [hd1, esp, decide_eq_true hlen]
    show (true && !decide (c = 35)) = true
    rw [decide_eq_false n35]; rfl
  have hst : stepR l ln (cur.length + g) s = .ok (twl spc l (cur.length + g + sp.length), { s2 with behind := cur.length + g + sp.length + 1 }) := by
    unfold stepR
    rw [hb]
    show tokS l ln (cur.length + g) s1 = _
    unfold tokS
    rw [hsc]
    show (gatherP ⟨k, w, ln, cur.length + g + 1⟩ s1).map _ = _
    rw [hg]; rfl
  have elen : (cur ++ spn g ++ sp).length = cur.length + g + sp.length := by rw [List.length_append, List.length_append, List.length_replicate]
  have hpos : 0 < sp.length := by rw [esp]; exact Nat.succ_pos _
  refine ⟨k1 + 1, by omega, fun f => ?_⟩
  have := hrun (f + 1)
  rw [show f + (k1 + 1) = f + 1 + k1 by omega, this, hp, elen]
  show (if here l (cur.length + g) = true then (stepR l ln (cur.length + g) s).bind fun r => runRow l ln f r.1 r.2 else (.ok s : Except Er3 Sc)) = _
  rw [if_pos hh, hst]; rfl
/-- what closes a row: spaces, a comment perhaps -/
def TailL (t : List Nat) : Prop := ∃ g com, t = spn g ++ com ∧ (com = [] ∨ ComL com)
theorem row_end {cur tl : List Nat} {ln : Nat} {s0 s : Sc} {bf : List Nat} (R : Row cur ln s0 s bf) (ht : TailL tl) : scanRow (cur ++ tl) ln s0 = .ok (fin ln s) := by
  obtain ⟨g, com, rfl, hc⟩ := ht
  have hsf : Sf bf (spn g ++ com) := by
    cases g with
    | zero =>
      rcases hc with rfl | ⟨_, t, rfl, _⟩
      · exact sf_gap (.inl rfl)
      · exact sf_gap (.inr (.inr rfl))
    | succ n => exact sf_gap (.inr (.inl rfl))
  obtain ⟨k, hk, hrun⟩ := R.ch _ hsf
  generalize hL : cur ++ (spn g ++ com) = l at *
  have hd0 : l.drop cur.length = spn g ++ com := by rw [← hL, List.drop_left]
  have hcl : cur.length ≤ l.length := by rw [← hL]; simp
  have hh : here l (twl spc l cur.length) = false := by
    rw [twl_at2 (pre := []) hd0]
    have hd1 : l.drop (cur.length + g) = com := by
      rw [← List.drop_drop, hd0]
      have := List.drop_left (l₁ := spn g) (l₂ := com)
      rw [List.length_replicate] at this
      exact this
    unfold here
    rcases hc with rfl | ⟨_, t, rfl, _⟩
    · have : l.length ≤ cur.length + g := by rw [← hL]; simp
      rw [decide_eq_false (by show ¬ cur.length + g + 0 < l.length; omega)]; rfl
    · have : List.takeWhile spc (35 :: t) = [] := by rw [List.takeWhile_cons, if_neg (by decide)]
      rw [this]
      show (_ && !decide ((l.drop (cur.length + g + 0)).headD 0 = 35)) = false
      rw [Nat.add_zero, hd1, decide_eq_true (show (35 :: t).headD 0 = 35 from rfl)]
      exact Bool.and_false _
  unfold scanRow
  obtain ⟨f, hf⟩ : ∃ f, l.length + 1 = f + 1 + k := ⟨l.length - k, by omega⟩
  rw [hf, hrun (f + 1)]
  show (if here l (twl spc l cur.length) = true then _ else (.ok s : Except Er3 Sc)).map (fin ln) = _
  rw [hh, if_neg Bool.false_ne_true]; rfl
theorem blank_row {tl : List Nat} {ln : Nat} {s : Sc} (ht : TailL tl) : scanRow tl ln s = .ok (fin ln s) := row_end (row_start 0 ln s) ht
theorem scanRows_app : ∀ (a : List (List Nat)) (r : List Nat) (ln : Nat) (s s1 : Sc), scanRows a ln s = .ok s1 → scanRows (a ++ [r]) ln s = scanRow r (ln + a.length) s1
  | [], r, ln, s, s1, h => by
    cases h
    show (scanRow r ln s).bind (scanRows [] (ln + 1)) = scanRow r (ln + 0) s
    cases scanRow r ln s <;> rfl
  | x :: a, r, ln, s, s1, h => by
    have h : (scanRow x ln s).bind (scanRows a (ln + 1)) = .ok s1 := h
    show (scanRow x ln s).bind (scanRows (a ++ [r]) (ln + 1)) = _
    cases hx : scanRow x ln s with
    | error e => rw [hx] at h; cases h
    | ok s2 =>
      rw [hx] at h
      have := scanRows_app a r (ln + 1) s2 s1 h
      show scanRows (a ++ [r]) (ln + 1) s2 = _
      rw [this, List.length_cons, show ln + 1 + a.length = ln + (a.length + 1) by omega]
end D0
namespace D0
open PySem PySem.Spec PyProof.Rows L2 SX NumText
/-- a page: its closed rows, the row that is open, the marks, the letters of the closed rows, the place behind the last word -/
structure Pg where
  rows : List (List Nat)
  cur : List Nat
  marks : List Mk
  tot : Nat
  sl : Nat
  sc : Nat
def pgv (ra ma sa : Addr) (p : Pg) : List V := [.ref ra, .str (S p.cur), .ref ma, .int (p.tot : Nat), .ref sa]
structure PB (H : Hp) (b pa ra ma : Addr) (p : Pg) : Prop where
  bag : Bag H b
  at_ : ∃ sa, H pa = some (.lst (pgv ra ma sa p)) ∧ H sa = some (.lst [.int (p.sl : Nat), .int (p.sc : Nat)]) ∧ sa ≠ pa ∧ sa ≠ ra ∧ sa ≠ ma ∧ sa ≠ b
  rows : H ra = some (.lst (p.rows.map fun r => V.str (S r)))
  mks : ∃ us, H ma = some (.lst us) ∧ Mks H us p.marks
  d : b ≠ pa ∧ b ≠ ra ∧ b ≠ ma ∧ pa ≠ ra ∧ pa ≠ ma ∧ ra ≠ ma
/-- all but the bag and the page stays -/
def Fr4 (b pa ra ma : Addr) (H H' : Hp) : Prop := ∀ a o, a ≠ b → a ≠ pa → a ≠ ra → a ≠ ma → H a = some o → H' a = some o
theorem Fr4.trans {b pa ra ma : Addr} {H H1 H2 : Hp} (x : Fr4 b pa ra ma H H1) (y : Fr4 b pa ra ma H1 H2) : Fr4 b pa ra ma H H2 := fun a o h1 h2 h3 h4 e => y a o h1 h2 h3 h4 (x a o h1 h2 h3 h4 e)
theorem Fr4.stp {b pa ra ma : Addr} {H H' : Hp} (x : Stp b H H') : Fr4 b pa ra ma H H' := fun a o h1 _ _ _ e => x.keep a o h1 e
theorem Fr4.same {b pa ra ma : Addr} {H H' : Hp} (x : Same H H') : Fr4 b pa ra ma H H' := fun a o _ _ _ _ e => x a o e
theorem Fr4.refl {b pa ra ma : Addr} {H : Hp} : Fr4 b pa ra ma H H := fun a o _ _ _ _ e => e
theorem PB.stp {H H' : Hp} {b pa ra ma : Addr} {p : Pg} (x : PB H b pa ra ma p) (st : Stp b H H') : PB H' b pa ra ma p := by
  obtain ⟨sa, h1, h2, d1, d2, d3, d4⟩ := x.at_
  obtain ⟨us, h3, h4⟩ := x.mks
  obtain ⟨e1, e2, e3, e4, e5, e6⟩ := x.d
  exact ⟨st.b1, ⟨sa, st.keep _ _ e1.symm h1, st.keep _ _ d4 h2, d1, d2, d3, d4⟩, st.keep _ _ e2.symm x.rows, ⟨us, st.keep _ _ e3.symm h3, h4.mono fun a t e => st.keep a _ (x.bag.ne_tup e) e⟩, x.d⟩
theorem PB.same {H H' : Hp} {b pa ra ma : Addr} {p : Pg} (x : PB H b pa ra ma p) (s : Same H H') : PB H' b pa ra ma p := x.stp (Stp.same x.bag s)
def Pg.put (p : Pg) (k : Kd) (w : Wd) (sp : List Nat) : Pg := ⟨p.rows, p.cur ++ sp, p.marks ++ [⟨k, w, p.rows.length + 1, p.cur.length + 1⟩], p.tot, p.rows.length + 1, p.cur.length + sp.length + 1⟩
def Pg.close (p : Pg) : Pg := ⟨p.rows ++ [p.cur], [], p.marks, p.tot + p.cur.length + 1, p.sl, p.sc⟩
def Pg.add (p : Pg) (t : List Nat) : Pg := { p with cur := p.cur ++ t }
def Pg.setCur (p : Pg) (t : List Nat) : Pg := { p with cur := t }
structure Pg.Fit (p : Pg) : Prop where
  r : p.rows.length ≤ 10000
  c : p.cur.length ≤ 400
  m : p.marks.length ≤ 100000
/-- the row that is open is written anew -/
theorem PB.cur {H : Hp} {b pa ra ma sa : Addr} {p : Pg} (t : List Nat) (x : PB H b pa ra ma p) (h1 : H pa = some (.lst (pgv ra ma sa p))) : PB (upd H pa (.lst (pgv ra ma sa (p.setCur t)))) b pa ra ma (p.setCur t) := by
  obtain ⟨sa', h1', h2, d1, d2, d3, d4⟩ := x.at_
  have : sa' = sa := by
    rw [h1] at h1'
    have := HO.lst.inj (Option.some.inj h1')
    unfold pgv at this
    injection this with _ t1; injection t1 with _ t2; injection t2 with _ t3; injection t3 with _ t4; injection t4 with t5
    exact (V.ref.inj t5).symm
  subst this
  obtain ⟨us, h3, h4⟩ := x.mks
  obtain ⟨e1, e2, e3, e4, e5, e6⟩ := x.d
  obtain ⟨bc, bs, bn, hb⟩ := x.bag
  refine ⟨⟨bc, bs, bn, by rw [upd_ne e1]; exact hb⟩, ⟨sa', upd_same, by rw [upd_ne d1]; exact h2, d1, d2, d3, d4⟩, by rw [upd_ne e4.symm]; exact x.rows, ⟨us, by rw [upd_ne e5.symm]; exact h3, h4.mono fun a t' e => ?_⟩, x.d⟩
  rw [upd_ne (fun z => by rw [z, h1] at e; cases e)]
  exact e
def spPut (b : Addr) : Sp := fun vs H Q _ => ∃ (pa ra ma : Addr) (p : Pg) (k : Kd) (w : Wd) (sp : List Nat), vs = [.ref pa, .str (S k.cp), w.v, .str (S sp)] ∧ PB H b pa ra ma p ∧ p.Fit ∧ sp.length ≤ 100 ∧ ∀ H', PB H' b pa ra ma (p.put k w sp) → Fr4 b pa ra ma H H' → Q .non H'
section
variable {P : Program} {w : World} {K : PySem.W.Frag} {mg : Str → Option Value} {base : Heap}
theorem ok__law_put (T : Txt K w mg) (b : Addr) : OkD P w K mg base CX0 1 "_law_put" p__law_put (spPut b) := by
  refine T.g__law_put.ok sc__law_put (fun vs H Q E h => ?_) (fun f cdv A outer s H vs Q E hr h => ?_)
  · obtain ⟨pa, ra, ma, p, k, w, sp, rfl, _⟩ := h; rfl
  obtain ⟨pa, ra, ma, p, k, w, sp, rfl, x, ⟨fr, fc, fm⟩, hsp, q⟩ := h
  have lim : (1100000 : Nat) ≤ sizeLine := by decide
  refine ⟨_, (pss_cons (ps_expr (pe_bm PySem.F.plainAttrs_list PySem.F.slot_list_append PySem.F.type_list_append mt_append (pe_ix ix_list (pv 0) pe_int (fun _ _ => rfl)) (pa_cons (pe_tup (pa_cons (pv 1) (pa_cons (pv 2) (pa_cons (pe_op op_add (pe_callB call_len_seq (by rfl) T.z_len PySem.boot_len (pa_cons (pe_ix ix_list (pv 0) pe_int (fun _ _ => rfl)) pa_nil)) pe_int) (pa_cons (pe_op op_add (pe_callB call_len_str (by rfl) T.z_len PySem.boot_len (pa_cons (pe_ix ix_list (pv 0) pe_int (fun _ _ => rfl)) pa_nil)) pe_int) pa_nil))))) pa_nil)))
      (pss_cons (ps_asg (pe_op op_add_str (pe_ix ix_list (pv 0) pe_int (fun _ _ => rfl)) (pv 3)) (pg_sub (pv 0) pe_int set_list))
      (pss_one (ps_asg (pe_lst (pa_cons (pe_op op_add (pe_callB call_len_seq (by rfl) T.z_len PySem.boot_len (pa_cons (pe_ix ix_list (pv 0) pe_int (fun _ _ => rfl)) pa_nil)) pe_int) (pa_cons (pe_op op_add (pe_callB call_len_str (by rfl) T.z_len PySem.boot_len (pa_cons (pe_ix ix_list (pv 0) pe_int (fun _ _ => rfl)) pa_nil)) pe_int) pa_nil))) (pg_sub (pv 0) pe_int set_list))))), ?_⟩
  obtain ⟨sa, h1, h2, d1, d2, d3, d4⟩ := x.at_
  obtain ⟨us, h3, h4⟩ := x.mks
  obtain ⟨e1, e2, e3, e4, e5, e6⟩ := x.d
  obtain ⟨bc, bs, bn, hb⟩ := x.bag
  refine ⟨_, rfl, pa, _, 2, .ref ma, rfl, rfl, SqL.of h1, rfl, ?_⟩
  refine ⟨.inl ⟨rfl, _, SqL.of h3⟩, ?_⟩
  refine ⟨_, rfl, _, rfl, _, rfl, pa, _, 0, .ref ra, rfl, rfl, SqL.of h1, rfl, ra, _, rfl, .inl (SqL.of x.rows), _, _, rfl, rfl, ?_⟩
  refine ⟨_, rfl, pa, _, 1, .str (S p.cur), rfl, rfl, SqL.of h1, rfl, _, rfl, by rw [S_len]; omega, _, _, rfl, rfl, by show 4 ≤ sizeLine; omega, fun t ht => ?_⟩
  have s1 := same_new ht (.tup [.str (S k.cp), w.v, .int ((p.rows.map fun r => V.str (S r)).length + 1), .int ((S p.cur).length + 1)])
  have n1 : ma ≠ t := ne_of_none h3 ht
  have n2 : pa ≠ t := ne_of_none h1 ht
  have n3 : ra ≠ t := ne_of_none x.rows ht
  have n4 : sa ≠ t := ne_of_none h2 ht
  have n5 : b ≠ t := ne_of_none hb ht
  refine ⟨ma, us, _, rfl, rfl, s1 _ _ h3, by rw [h4.1]; omega, ?_⟩
  generalize hH1 : upd (upd H t _) ma _ = H1
  have k1 : ∀ a o, a ≠ ma → H a = some o → H1 a = some o := fun a o n e => by rw [← hH1, upd_ne n]; exact s1 a o e
  have m1 : H1 ma = some (.lst (us ++ [.ref t])) := by rw [← hH1]; exact upd_same
  have t1 : H1 t = some (.tup (Mk.vs ⟨k, w, p.rows.length + 1, p.cur.length + 1⟩)) := by
    rw [← hH1, upd_ne n1.symm, upd_same, List.length_map, S_len]; rfl
  have p1 := k1 _ _ e5 h1
  have a1 := k1 _ _ d3 h2
  have r1 := k1 _ _ e6 x.rows
  refine ⟨_, rfl, pa, _, 1, .str (S p.cur), rfl, rfl, SqL.of p1, rfl, _, rfl, _, _, rfl, rfl, by rw [S_len, S_len]; omega, ?_⟩
  rw [S_cat]
  refine ⟨_, rfl, pa, _, 1, 1, rfl, rfl, p1, rfl, ?_⟩
  generalize hH2 : upd H1 pa _ = H2
  have k2 : ∀ a o, a ≠ pa → H1 a = some o → H2 a = some o := fun a o n e => by rw [← hH2, upd_ne n]; exact e
  have p2 : H2 pa = some (.lst [.ref ra, .str (S (p.cur ++ sp)), .ref ma, .int (p.tot : Nat), .ref sa]) := by rw [← hH2]; exact upd_same
  have r2 := k2 _ _ e4.symm r1
  refine ⟨_, rfl, pa, _, 0, .ref ra, rfl, rfl, SqL.of p2, rfl, ra, _, rfl, .inl (SqL.of r2), _, _, rfl, rfl, ?_⟩
  refine ⟨_, rfl, pa, _, 1, .str (S (p.cur ++ sp)), rfl, rfl, SqL.of p2, rfl, _, rfl, by rw [S_len, List.length_append]; omega, _, _, rfl, rfl, by show 2 ≤ sizeLine; omega, fun g hg => ?_⟩
  have m2 := k2 _ _ e5.symm m1
  have n6 : pa ≠ g := ne_of_none p2 hg
  have n7 : ra ≠ g := ne_of_none r2 hg
  have n8 : ma ≠ g := ne_of_none m2 hg
  have n9 : b ≠ g := ne_of_none (k2 _ _ e1 (k1 _ _ e3 hb)) hg
  have s3 := same_new hg (.lst [.int ((p.rows.map fun r => V.str (S r)).length + 1), .int ((S (p.cur ++ sp)).length + 1)])
  refine ⟨_, rfl, pa, _, 4, 4, rfl, rfl, s3 _ _ p2, rfl, ?_⟩
  generalize hH3 : upd (upd H2 g _) pa _ = H3
  have k3 : ∀ a o, a ≠ pa → H2 a = some o → H3 a = some o := fun a o n e => by rw [← hH3, upd_ne n]; exact s3 a o e
  have kk : ∀ a o, a ≠ pa → a ≠ ma → H a = some o → H3 a = some o := fun a o n m e => k3 _ _ n (k2 _ _ n (k1 _ _ m e))
  refine q H3 ⟨⟨bc, bs, bn, kk _ _ e1 e3 hb⟩, ⟨g, ?_, ?_, n6.symm, n7.symm, n8.symm, n9.symm⟩, kk _ _ e4.symm e6 x.rows, ⟨_, k3 _ _ e5.symm (k2 _ _ e5.symm m1), ?_⟩, x.d⟩ fun a o _ h2 _ h4 e => kk a o h2 h4 e
  · rw [← hH3]; exact upd_same
  · rw [← hH3, upd_ne n6.symm, upd_same, List.length_map, S_len, List.length_append]; rfl
  · have km : ∀ a t', H a = some (.tup t') → H3 a = some (.tup t') := fun a t' e => kk a _ (fun z => by rw [z, h1] at e; cases e) (fun z => by rw [z, h3] at e; cases e) e
    exact Mks.snoc (h4.mono km) (k3 _ _ n2.symm (k2 _ _ n2.symm t1))
end
end D0
namespace D0
open PySem PySem.Spec PyProof.Rows L2 SX NumText
theorem op_mulS {X : Cx} : OpR X (binaryOp .Mult) (fun x y H Q => ∃ z n, x = .str z ∧ y = .int n ∧ MulOk z n ∧ Q (.str (Txt.mul z n)) H) := by
  intro pins s σ H x y v u Q I rx ry h
  obtain ⟨z, n, rfl, rfl, hok, q⟩ := h
  obtain ⟨t, rfl⟩ := rx
  obtain ⟨t2, rfl⟩ := ry
  exact PySem.SB.mul hok fun t' k => ⟨.str (Txt.mul z n), H, I.tok k, ⟨t', rfl⟩, q⟩
theorem mul_ok {z : Str} {n : Int} (hz : z.length = 1) (h0 : -10 ≤ n) (h1 : n ≤ 10000) : MulOk z n := by
  refine ⟨?_, fun a _ => ?_, fun _ _ => ?_⟩
  · rw [Bool.or_eq_false_iff]
    exact ⟨decide_eq_false (by omega), decide_eq_false (by omega)⟩
  · rw [hz]
    have : (1 : Int) ≤ (2 ^ 63 - 1) / n := (Int.le_ediv_iff_mul_le (by omega)).mpr (by omega)
    omega
  · rw [hz]
    show decide (1 * n.toNat > sizeLine) = false
    refine decide_eq_false ?_
    have : sizeLine = 16777216 := sizeLine_eq
    omega
theorem rep_eq : ∀ (m : Nat) (acc : Array Nat), (List.replicate m #[32]).foldl (· ++ ·) acc = acc ++ (List.replicate m 32).toArray
  | 0, acc => by simp
  | m + 1, acc => by
    rw [List.replicate_succ, List.foldl_cons, rep_eq m]
    apply Array.ext'
    simp [List.replicate_succ]
theorem spaces {n : Nat} : Txt.mul (S [32]) (n : Int) = S (spn n) := by
  unfold Txt.mul
  split
  · have : n = 0 := by omega
    subst this; rfl
  · split
    · rename_i h
      have : n = 1 := by
        rcases (Bool.or_eq_true _ _).mp h with h | h
        · have := eq_of_beq h; omega
        · exact absurd h (by decide)
      subst this; rfl
    · show (⟨(List.replicate (n : Int).toNat #[32]).foldl (· ++ ·) #[]⟩ : Str) = _
      rw [Int.toNat_natCast, rep_eq]
      simp [S]
def spClose (b : Addr) : Sp := fun vs H Q _ => ∃ (pa ra ma : Addr) (p : Pg), vs = [.ref pa] ∧ PB H b pa ra ma p ∧ p.Fit ∧ ∀ H', PB H' b pa ra ma p.close → Fr4 b pa ra ma H H' → Q .non H'
def blen (bl : List (List Nat)) : Nat := (bl.map fun r => r.length + 1).sum
def Pg.ended (p : Pg) (tl : List Nat) (bl : List (List Nat)) : Pg := ⟨p.rows ++ [p.cur ++ tl] ++ bl, [], p.marks, p.tot + (p.cur.length + tl.length + 1) + blen bl, p.sl, p.sc⟩
def spRowEnd : Sp := fun vs H Q _ => ∃ (b pa ra ma : Addr) (p : Pg), vs = [.ref b, .ref pa] ∧ PB H b pa ra ma p ∧ p.rows.length ≤ 9000 ∧ p.cur.length ≤ 300 ∧ p.marks.length ≤ 100000 ∧
  ∀ H' tl bl, TailL tl → tl.length ≤ 11 → (100 ≤ p.cur.length → tl = []) → bl.length ≤ 2 → (∀ r ∈ bl, TailL r ∧ r.length ≤ 17) → PB H' b pa ra ma (p.ended tl bl) → Fr4 b pa ra ma H H' → Q .non H'
theorem Pg.cur_eta {p : Pg} : p.setCur p.cur = p := rfl
section
variable {P : Program} {w : World} {K : PySem.W.Frag} {mg : Str → Option Value} {base : Heap}
theorem ok__law_close_row (T : Txt K w mg) (b : Addr) : OkD P w K mg base CX0 1 "_law_close_row" p__law_close_row (spClose b) := by
  refine T.g__law_close_row.ok sc__law_close_row (fun vs H Q E h => ?_) (fun f cdv A outer s H vs Q E hr h => ?_)
  · obtain ⟨pa, ra, ma, p, rfl, _⟩ := h; rfl
  obtain ⟨pa, ra, ma, p, rfl, x, ⟨fr, fc, fm⟩, q⟩ := h
  have lim : (1100000 : Nat) ≤ sizeLine := by decide
  have z : Str.ofString "" = S [] := by decide +kernel
  refine ⟨_, (pss_cons (ps_expr (pe_bm PySem.F.plainAttrs_list PySem.F.slot_list_append PySem.F.type_list_append mt_append (pe_ix ix_list (pv 0) pe_int (fun _ _ => rfl)) (pa_cons (pe_ix ix_list (pv 0) pe_int (fun _ _ => rfl)) pa_nil)))
      (pss_cons (ps_asg (pe_op op_add (pe_op op_add (pe_ix ix_list (pv 0) pe_int (fun _ _ => rfl)) (pe_callB call_len_str (by rfl) T.z_len PySem.boot_len (pa_cons (pe_ix ix_list (pv 0) pe_int (fun _ _ => rfl)) pa_nil))) pe_int) (pg_sub (pv 0) pe_int set_list))
      (pss_one (ps_asg pe_str (pg_sub (pv 0) pe_int set_list))))), ?_⟩
  obtain ⟨sa, h1, h2, d1, d2, d3, d4⟩ := x.at_
  obtain ⟨us, h3, h4⟩ := x.mks
  obtain ⟨e1, e2, e3, e4, e5, e6⟩ := x.d
  obtain ⟨bc, bs, bn, hb⟩ := x.bag
  refine ⟨_, rfl, pa, _, 0, .ref ra, rfl, rfl, SqL.of h1, rfl, ?_⟩
  refine ⟨.inl ⟨rfl, _, SqL.of x.rows⟩, ?_⟩
  refine ⟨_, rfl, pa, _, 1, .str (S p.cur), rfl, rfl, SqL.of h1, rfl, ra, _, _, rfl, rfl, x.rows, by rw [List.length_map]; omega, ?_⟩
  generalize hH1 : upd H ra _ = H1
  have k1 : ∀ a o, a ≠ ra → H a = some o → H1 a = some o := fun a o n e => by rw [← hH1, upd_ne n]; exact e
  have p1 := k1 _ _ e4 h1
  refine ⟨_, rfl, pa, _, 3, .int (p.tot : Nat), rfl, rfl, SqL.of p1, rfl, _, rfl, pa, _, 1, .str (S p.cur), rfl, rfl, SqL.of p1, rfl, _, rfl, by rw [S_len]; omega, _, _, rfl, rfl, _, _, rfl, rfl, ?_⟩
  refine ⟨_, rfl, pa, _, 3, 3, rfl, rfl, p1, rfl, ?_⟩
  generalize hH2 : upd H1 pa _ = H2
  have k2 : ∀ a o, a ≠ pa → H1 a = some o → H2 a = some o := fun a o n e => by rw [← hH2, upd_ne n]; exact e
  have p2 : H2 pa = some (.lst [.ref ra, .str (S p.cur), .ref ma, .int ((p.tot : Int) + ((S p.cur).length : Int) + 1), .ref sa]) := by rw [← hH2]; exact upd_same
  refine ⟨_, rfl, pa, _, 1, 1, rfl, rfl, p2, rfl, ?_⟩
  rw [z]
  generalize hH3 : upd H2 pa _ = H3
  have k3 : ∀ a o, a ≠ pa → H2 a = some o → H3 a = some o := fun a o n e => by rw [← hH3, upd_ne n]; exact e
  have kk : ∀ a o, a ≠ pa → a ≠ ra → H a = some o → H3 a = some o := fun a o n m e => k3 _ _ n (k2 _ _ n (k1 _ _ m e))
  refine q H3 ⟨⟨bc, bs, bn, kk _ _ e1 e2 hb⟩, ⟨sa, ?_, kk _ _ d1 d2 h2, d1, d2, d3, d4⟩, ?_, ⟨us, kk _ _ e5.symm e6.symm h3, h4.mono fun a t' e => kk a _ (fun z => by rw [z, h1] at e; cases e) (fun z => by rw [z, x.rows] at e; cases e) e⟩, x.d⟩ fun a o _ h2 h3 _ e => kk a o h2 h3 e
  · rw [← hH3, upd_same, S_len]
    show some (HO.lst [V.ref ra, V.str (S []), V.ref ma, V.int ((p.tot : Int) + (p.cur.length : Int) + 1), V.ref sa]) = some (HO.lst [V.ref ra, V.str (S []), V.ref ma, V.int ((p.tot + p.cur.length + 1 : Nat) : Int), V.ref sa])
    rw [show ((p.tot + p.cur.length + 1 : Nat) : Int) = (p.tot : Int) + (p.cur.length : Int) + 1 by omega]
  · refine k3 _ _ e4.symm (k2 _ _ e4.symm ?_)
    rw [← hH1, upd_same]
    show _ = some (HO.lst ((p.rows ++ [p.cur]).map fun r => V.str (S r)))
    rw [List.map_append]; rfl
end
end D0
namespace D0
open PySem PySem.Spec PyProof.Rows L2 SX NumText
theorem PB.upd_cur {H : Hp} {b pa ra ma : Addr} {p : Pg} (t : List Nat) (x : PB H b pa ra ma p) : ∃ l, H pa = some (.lst l) ∧ l.length = 5 ∧ atI l (1 : Int) = some (.str (S p.cur)) ∧ PB (upd H pa (.lst (l.set 1 (.str (S t))))) b pa ra ma (p.setCur t) ∧ Fr4 b pa ra ma H (upd H pa (.lst (l.set 1 (.str (S t))))) := by
  obtain ⟨sa, h1, _⟩ := x.at_
  exact ⟨_, h1, rfl, rfl, x.cur t h1, fun a o _ h2 _ _ e => by rw [upd_ne h2]; exact e⟩
theorem tail_com {g : Nat} {com : List Nat} (h : ComL com) : TailL (spn g ++ com) := ⟨g, com, rfl, .inr h⟩
theorem tail_sp (g : Nat) : TailL (spn g) := ⟨g, [], (List.append_nil _).symm, .inl rfl⟩
theorem ended_nil (p : Pg) (tl : List Nat) : (p.setCur (p.cur ++ tl)).close = p.ended tl [] := by
  unfold Pg.ended Pg.close Pg.setCur blen
  simp
  omega
theorem ended_snoc (p : Pg) (tl r : List Nat) (bl : List (List Nat)) : ((p.ended tl bl).setCur r).close = p.ended tl (bl ++ [r]) := by
  unfold Pg.ended Pg.close Pg.setCur blen
  simp
  omega
theorem six_at : ∀ k, k < 6 → ∃ m : Nat, m ≤ 2 ∧ atI [V.int 0, V.int 0, V.int 0, V.int 0, V.int 1, V.int 2] (k : Nat) = some (.int (m : Nat))
  | 0, _ => ⟨0, by omega, rfl⟩ | 1, _ => ⟨0, by omega, rfl⟩ | 2, _ => ⟨0, by omega, rfl⟩ | 3, _ => ⟨0, by omega, rfl⟩ | 4, _ => ⟨1, by omega, rfl⟩ | 5, _ => ⟨2, by omega, rfl⟩
  | n + 6, h => absurd h (by omega)
section
variable {P : Program} {w : World} {K : PySem.W.Frag} {mg : Str → Option Value} {base : Heap}
theorem ok__law_row_end (T : Txt K w mg) (Ot : OkD P w K mg base CX0 1 "_law_take" p__law_take spTake) (Oc : OkD P w K mg base CX0 2 "_law_comment" p__law_comment spCom) (Ocl : ∀ b, OkD P w K mg base CX0 1 "_law_close_row" p__law_close_row (spClose b)) :
    OkD P w K mg base CX0 3 "_law_row_end" p__law_row_end spRowEnd := by
  refine T.g__law_row_end.ok sc__law_row_end (fun vs H Q E h => ?_) (fun f cdv A outer s H vs Q E hr h => ?_)
  · obtain ⟨b, pa, ra, ma, p, rfl, _⟩ := h; rfl
  obtain ⟨b, pa, ra, ma, p, rfl, x, hpr, hpc, hpm, q⟩ := h
  have lim : (1100000 : Nat) ≤ sizeLine := by decide
  have z : Str.ofString " " = S [32] := by decide +kernel
  have sp1 : (S [32]).length = 1 := rfl
  have Ocl := Ocl b
  refine split_at 1 (fun t => ∀ (tl : List Nat) (H1 : Hp), TailL tl → tl.length ≤ 11 → (100 ≤ p.cur.length → tl = []) → PB H1 b pa ra ma (p.setCur (p.cur ++ tl)) → Fr4 b pa ra ma H H1 → t { nx := fun _ H' => Q .non H', rt := Q } [some (.ref b), some (.ref pa), none] H1) ?_ (fun t ht hg => ?_)
  · refine ⟨_, (pss_cons (ps_expr (pcall Ocl hr (pa_cons (pv 1) pa_nil)))
      (pss_one (ps_for PassesOwn.never rfl (pi_range1 rfl T.z_range (pa_cons (pe_ix ix_list (pe_lst (pa_cons pe_int (pa_cons pe_int (pa_cons pe_int (pa_cons pe_int (pa_cons pe_int (pa_cons pe_int pa_nil))))))) (pcall Ot hr (pa_cons (pv 0) (pa_cons pe_int pa_nil))) (fun _ _ => rfl)) pa_nil)) (pg_name (i := 2) sc__law_row_end.nd rfl (Or.inl rfl)) (pss_cons (ps_asg (pe_op op_mulS pe_str (pcall Ot hr (pa_cons (pv 0) (pa_cons pe_int pa_nil)))) (pg_sub (pv 1) pe_int set_list))
      (pss_cons (ps_if (pt_cmpR op_eq (pcall Ot hr (pa_cons (pv 0) (pa_cons pe_int pa_nil))) pe_int (nomark _)) (pss_one (ps_asg (pe_op op_add_str (pe_ix ix_list (pv 1) pe_int (fun _ _ => rfl)) (pcall Oc hr (pa_cons (pv 0) pa_nil))) (pg_sub (pv 1) pe_int set_list))) pss_nil)
      (pss_one (ps_expr (pcall Ocl hr (pa_cons (pv 1) pa_nil))))))))), ?_⟩
    intro tl H1 htl htl2 htl3 x1 f1
    refine ⟨_, rfl, pa, ra, ma, _, rfl, x1, ⟨by show p.rows.length ≤ _; omega, by show (p.cur ++ tl).length ≤ _; rw [List.length_append]; omega, hpm⟩, fun H2 x2 f2 => ?_⟩
    have f12 := f1.trans f2
    refine ⟨by show 6 ≤ sizeLine; omega, fun g hg => ?_⟩
    refine ⟨_, rfl, b, 6, rfl, (x2.same (same_new hg _)).bag, by decide, by decide, fun r H3 r0 r1 st3 => ?_⟩
    have x2g := x2.same (same_new hg (.lst [.int 0, .int 0, .int 0, .int 0, .int 1, .int 2]))
    have x3 := x2g.stp st3
    have f13 : Fr4 b pa ra ma H H3 := f12.trans ((Fr4.same (same_new hg _)).trans (Fr4.stp st3))
    obtain ⟨k, rfl⟩ : ∃ k : Nat, r = (k : Int) := ⟨r.toNat, by omega⟩
    obtain ⟨m, hm2, hm⟩ := six_at k (by omega)
    have hg3 : H3 g = some (.lst [.int 0, .int 0, .int 0, .int 0, .int 1, .int 2]) := st3.keep g _ (x2.bag.ne hg) upd_same
    refine ⟨g, _, _, .int (m : Nat), rfl, rfl, SqL.of hg3, hm, ?_⟩
    refine ⟨(m : Int), rfl, by omega, by omega, ?_⟩
    rw [ended_nil] at x3
    refine for_range (lo := 0) (n := (m : Int).toNat) (fun i σ H' => ∃ (bl : List (List Nat)) (y : Option V), σ = [some (.ref b), some (.ref pa), y] ∧ bl.length = i ∧ (∀ r ∈ bl, TailL r ∧ r.length ≤ 17) ∧ PB H' b pa ra ma (p.ended tl bl) ∧ Fr4 b pa ra ma H H') ⟨[], none, rfl, rfl, (fun r hr => by cases hr), x3, f13⟩ ?_ ?_
    · rintro i σ H4 hi ⟨bl, y, rfl, hbl, hblt, x4, f4⟩
      rw [z]
      have step : ∀ (row : List Nat) (H5 : Hp), TailL row → row.length ≤ 17 → PB H5 b pa ra ma ((p.ended tl bl).setCur row) → Fr4 b pa ra ma H H5 → tCall (spClose b) [] E0 (tCons (tVar 1) tNil) [some (.ref b), some (.ref pa), some (.int (0 + (i : Int)))] H5 fun _ H6 =>
          ∃ (bl : List (List Nat)) (y : Option V), [some (V.ref b), some (V.ref pa), some (V.int (0 + (i : Int)))] = [some (.ref b), some (.ref pa), y] ∧ bl.length = i + 1 ∧ (∀ r ∈ bl, TailL r ∧ r.length ≤ 17) ∧ PB H6 b pa ra ma (p.ended tl bl) ∧ Fr4 b pa ra ma H H6 := fun row H5 h1 h2 x5 f5 => by
        refine ⟨_, rfl, pa, ra, ma, _, rfl, x5, ⟨by show (p.rows ++ [p.cur ++ tl] ++ bl).length ≤ _; rw [List.length_append, List.length_append, hbl]; show _ + 1 + _ ≤ _; omega, by show row.length ≤ _; omega, hpm⟩, fun H6 x6 f6 => ?_⟩
        rw [ended_snoc] at x6
        refine ⟨bl ++ [row], _, rfl, by rw [List.length_append, hbl]; rfl, fun r hr => ?_, x6, f5.trans f6⟩
        rcases List.mem_append.mp hr with h | h
        · exact hblt r h
        · rw [List.mem_singleton.mp h]; exact ⟨h1, h2⟩
      refine ⟨_, rfl, b, 9, rfl, x4.bag, by decide, by decide, fun r H5 r0 r1 st5 => ?_⟩
      obtain ⟨g', rfl⟩ : ∃ k : Nat, r = (k : Int) := ⟨r.toNat, by omega⟩
      refine ⟨_, _, rfl, rfl, mul_ok sp1 (by omega) (by omega), ?_⟩
      rw [spaces]
      have x5 := x4.stp st5
      obtain ⟨l5, h5, hl5, hat5, x6, f6⟩ := x5.upd_cur (spn g')
      refine ⟨_, rfl, pa, _, 1, 1, rfl, rfl, h5, by rw [hl5]; rfl, ?_⟩
      generalize upd H5 pa _ = H6 at x6 f6
      have f46 := f4.trans ((Fr4.stp st5).trans f6)
      refine ⟨_, rfl, b, 2, rfl, x6.bag, by decide, by decide, fun r H7 _ _ st7 => ⟨rfl, _, rfl, ite2 (fun _ => ?_) (fun _ => ?_)⟩⟩
      · have x7 := x6.stp st7
        obtain ⟨l7, h7, hl7, hat7, _, _⟩ := x7.upd_cur []
        refine ⟨_, rfl, pa, _, 1, _, rfl, rfl, SqL.of h7, hat7, _, rfl, b, rfl, x7.bag, fun com H8 hcom st8 => ?_⟩
        have hc9 := hcom.1
        refine ⟨_, _, rfl, rfl, by rw [S_len, S_len]; show (spn g').length + com.length ≤ _; rw [List.length_replicate]; omega, ?_⟩
        have x8 := x7.stp st8
        obtain ⟨l8, h8, hl8, hat8, x9, f9⟩ := x8.upd_cur (spn g' ++ com)
        refine ⟨_, rfl, pa, _, 1, 1, rfl, rfl, h8, by rw [hl8]; rfl, ?_⟩
        have := step (spn g' ++ com) _ (tail_com hcom) (by rw [List.length_append, List.length_replicate]; omega) x9 (f46.trans ((Fr4.stp st7).trans ((Fr4.stp st8).trans f9)))
        rw [← S_cat] at this
        exact this
      · exact step (spn g') H7 (tail_sp g') (by rw [List.length_replicate]; omega) (x6.stp st7) (f46.trans (Fr4.stp st7))
    · rintro σ H4 ⟨bl, y, rfl, hbl, hblt, x4, f4⟩
      exact q H4 tl bl htl htl2 htl3 (by omega) hblt x4 f4
  · refine ⟨_, pss_cons (ps_if (pt_cmpR op_lt (pe_callB call_len_str (by rfl) T.z_len PySem.boot_len (pa_cons (pe_ix ix_list (pv 1) pe_int (fun _ _ => rfl)) pa_nil)) pe_int (nomark _)) (pss_cons (ps_asg (pe_op op_add_str (pe_ix ix_list (pv 1) pe_int (fun _ _ => rfl)) (pe_op op_mulS pe_str (pcall Ot hr (pa_cons (pv 0) (pa_cons pe_int pa_nil))))) (pg_sub (pv 1) pe_int set_list))
      (pss_one (ps_if (pt_cmpR op_eq (pcall Ot hr (pa_cons (pv 0) (pa_cons pe_int pa_nil))) pe_int (nomark _)) (pss_one (ps_asg (pe_op op_add_str (pe_ix ix_list (pv 1) pe_int (fun _ _ => rfl)) (pcall Oc hr (pa_cons (pv 0) pa_nil))) (pg_sub (pv 1) pe_int set_list))) pss_nil))) pss_nil) ht, ?_⟩
    obtain ⟨l, h1, hl5, hat, _, _⟩ := x.upd_cur []
    refine ⟨_, rfl, pa, _, 1, _, rfl, rfl, SqL.of h1, hat, _, rfl, by rw [S_len]; omega, _, _, rfl, rfl, _, rfl, ite2 (fun c => ?_) (fun c => ?_)⟩
    · have c := of_decide_eq_true c
      rw [S_len] at c
      have c : p.cur.length < 100 := by omega
      refine ⟨_, rfl, pa, _, 1, _, rfl, rfl, SqL.of h1, hat, _, rfl, b, 3, rfl, x.bag, by decide, by decide, fun r H2 r0 r1 st => ?_⟩
      obtain ⟨g, rfl⟩ : ∃ k : Nat, r = (k : Int) := ⟨r.toNat, by omega⟩
      rw [z]
      refine ⟨_, _, rfl, rfl, mul_ok sp1 (by omega) (by omega), ?_⟩
      rw [spaces]
      refine ⟨_, _, rfl, rfl, by rw [S_len, S_len, List.length_replicate]; omega, ?_⟩
      rw [S_cat]
      have x2 := x.stp st
      obtain ⟨l2, h2, hl2, hat2, x3, f3⟩ := x2.upd_cur (p.cur ++ spn g)
      refine ⟨_, rfl, pa, _, 1, 1, rfl, rfl, h2, by rw [hl2]; rfl, ?_⟩
      generalize upd H2 pa _ = H3 at x3 f3
      have f13 : Fr4 b pa ra ma H H3 := (Fr4.stp st).trans f3
      refine ⟨_, rfl, b, 4, rfl, x3.bag, by decide, by decide, fun r H4 _ _ st4 => ⟨rfl, _, rfl, ite2 (fun _ => ?_) (fun _ => ?_)⟩⟩
      · have x4 := x3.stp st4
        obtain ⟨l4, h4, hl4, hat4, _, _⟩ := x4.upd_cur []
        refine ⟨_, rfl, pa, _, 1, _, rfl, rfl, SqL.of h4, hat4, _, rfl, b, rfl, x4.bag, fun com H5 hcom st5 => ?_⟩
        have hc9 := hcom.1
        refine ⟨_, _, rfl, rfl, by rw [S_len, S_len]; show (p.cur ++ spn g).length + com.length ≤ _; rw [List.length_append, List.length_replicate]; omega, ?_⟩
        have x5 := x4.stp st5
        obtain ⟨l5, h5, hl5', hat5, x6, f6⟩ := x5.upd_cur (p.cur ++ spn g ++ com)
        refine ⟨_, rfl, pa, _, 1, 1, rfl, rfl, h5, by rw [hl5']; rfl, ?_⟩
        have := hg (spn g ++ com) _ (tail_com hcom) (by rw [List.length_append, List.length_replicate]; omega) (fun h => absurd c (by omega)) (by rw [← List.append_assoc]; exact x6) (f13.trans ((Fr4.stp st4).trans ((Fr4.stp st5).trans f6)))
        rw [← S_cat] at this
        exact this
      · exact hg (spn g) H4 (tail_sp g) (by rw [List.length_replicate]; omega) (fun h => absurd c (by omega)) (x3.stp st4) (f13.trans (Fr4.stp st4))
    · have c' : ¬ p.cur.length < 100 := fun z => c (decide_eq_true (by rw [S_len]; omega))
      exact hg [] H ⟨0, [], rfl, .inl rfl⟩ (by decide) (fun _ => rfl) (by rw [List.append_nil]; exact x) Fr4.refl
end
end D0
namespace D0
open PySem PySem.Spec PyProof.Rows L2 SX NumText
def spLay : Sp := fun vs H Q _ => ∃ (b pa ra ma ta : Addr) (p : Pg) (k : Kd) (w : Wd) (sp bf : List Nat), vs = [.ref b, .ref pa, .ref ta, .str (S bf)] ∧ PB H b pa ra ma p ∧ p.rows.length ≤ 9000 ∧ p.cur.length ≤ 200 ∧ p.marks.length ≤ 100000 ∧ TupAt H ta k.cp w.v sp ∧ sp.length ≤ 100 ∧ sp ≠ [] ∧ bf.length ≤ 100 ∧
  ∀ H' g, g ≤ 3 → (g = 0 → mustP bf sp = false) → (bf = [] → g = 0) → PB H' b pa ra ma ((p.setCur (p.cur ++ spn g)).put k w sp) → Fr4 b pa ra ma H H' → Q (.str (S sp)) H'
def spBroken : Sp := fun vs H Q _ => ∃ (b pa ra ma : Addr) (p : Pg) (bf : List Nat) (inside : Bool) (wide : Nat), vs = [.ref b, .ref pa, .str (S bf), .bl inside, .int (wide : Nat)] ∧ PB H b pa ra ma p ∧ p.rows.length ≤ 9000 ∧ p.cur.length ≤ 300 ∧ p.marks.length ≤ 100000 ∧
  (∀ H', (inside = false ∨ p.cur.length + wide < 114) → PB H' b pa ra ma p → Fr4 b pa ra ma H H' → Q (.str (S bf)) H') ∧
  (inside = true → ∀ H' tl bl g, TailL tl → tl.length ≤ 11 → (100 ≤ p.cur.length → tl = []) → bl.length ≤ 2 → (∀ r ∈ bl, TailL r ∧ r.length ≤ 17) → g ≤ 8 → PB H' b pa ra ma ((p.ended tl bl).setCur (spn g)) → Fr4 b pa ra ma H H' → Q (.str (S [])) H')
section
variable {P : Program} {w : World} {K : PySem.W.Frag} {mg : Str → Option Value} {base : Heap}
theorem ok__law_broken (T : Txt K w mg) (Ot : OkD P w K mg base CX0 1 "_law_take" p__law_take spTake) (Or_ : OkD P w K mg base CX0 3 "_law_row_end" p__law_row_end spRowEnd) :
    OkD P w K mg base CX0 4 "_law_broken" p__law_broken spBroken := by
  refine T.g__law_broken.ok sc__law_broken (fun vs H Q E h => ?_) (fun f cdv A outer s H vs Q E hr h => ?_)
  · obtain ⟨b, pa, ra, ma, p, bf, inside, wide, rfl, _⟩ := h; rfl
  obtain ⟨b, pa, ra, ma, p, bf, inside, wide, rfl, x, hpr, hpc, hpm, q1, q2⟩ := h
  have lim : (1100000 : Nat) ≤ sizeLine := by decide
  have z : Str.ofString " " = S [32] ∧ Str.ofString "" = S [] := by decide +kernel
  have sp1 : (S [32]).length = 1 := rfl
  refine split_at 1 (fun t => inside = true → ∀ H1, PB H1 b pa ra ma p → Fr4 b pa ra ma H H1 → t { nx := fun _ H' => Q .non H', rt := Q } [some (.ref b), some (.ref pa), some (.str (S bf)), some (.bl inside), some (.int (wide : Nat))] H1) ?_ (fun t ht hg => ?_)
  · refine ⟨_, (pss_cons (ps_expr (pcall Or_ hr (pa_cons (pv 0) (pa_cons (pv 1) pa_nil))))
      (pss_cons (ps_asg (pe_op op_mulS pe_str (pcall Ot hr (pa_cons (pv 0) (pa_cons pe_int pa_nil)))) (pg_sub (pv 1) pe_int set_list))
      (pss_one (ps_ret pe_str)))), ?_⟩
    intro hin H1 x1 f1
    refine ⟨_, rfl, _, rfl, b, pa, ra, ma, p, rfl, x1, hpr, hpc, hpm, fun H2 tl bl h1 h2 h3 h4 h5 x2 f2 => ?_⟩
    rw [z.1]
    refine ⟨_, rfl, b, 9, rfl, x2.bag, by decide, by decide, fun r H3 r0 r1 st3 => ?_⟩
    obtain ⟨g, rfl⟩ : ∃ k : Nat, r = (k : Int) := ⟨r.toNat, by omega⟩
    refine ⟨_, _, rfl, rfl, mul_ok sp1 (by omega) (by omega), ?_⟩
    rw [spaces]
    have x3 := x2.stp st3
    obtain ⟨l3, h3', hl3, hat3, x4, f4⟩ := x3.upd_cur (spn g)
    refine ⟨_, rfl, pa, _, 1, 1, rfl, rfl, h3', by rw [hl3]; rfl, ?_⟩
    rw [z.2]
    exact q2 hin _ tl bl g h1 h2 h3 h4 h5 (by omega) x4 (f1.trans (f2.trans ((Fr4.stp st3).trans f4)))
  · refine ⟨_, pss_cons (ps_if (PW.pt (pw_or (pt_not (pt_val (pv 3))) (pw_or1 (PW.pt (pw_and (pt_cmpR op_lt (pe_op op_add (pe_callB call_len_str (by rfl) T.z_len PySem.boot_len (pa_cons (pe_ix ix_list (pv 1) pe_int (fun _ _ => rfl)) pa_nil)) (pv 4)) pe_int (nomark _)) (pw_and1 (pt_cmpR op_gt (pcall Ot hr (pa_cons (pv 0) (pa_cons pe_int pa_nil))) pe_int (nomark _)))))))) (pss_one (ps_ret (pv 2))) pss_nil) ht, ?_⟩
    obtain ⟨l, h1, hl5, hat, _, _⟩ := x.upd_cur []
    refine ⟨_, rfl, _, rfl, ?_⟩
    cases inside with
    | false => exact iteT (iteT ⟨_, rfl, q1 H (.inl rfl) x Fr4.refl⟩)
    | true =>
      refine iteF ?_
      refine ⟨_, rfl, pa, _, 1, _, rfl, rfl, SqL.of h1, hat, _, rfl, by rw [S_len]; omega, _, rfl, _, _, rfl, rfl, _, _, rfl, rfl, _, rfl, ite2 (fun c => ?_) (fun c => ?_)⟩
      · have c := of_decide_eq_true c
        rw [S_len] at c
        refine ⟨_, rfl, b, 6, rfl, x.bag, by decide, by decide, fun r H2 r0 r1 st => ⟨_, _, rfl, rfl, _, rfl, ite2 (fun _ => ?_) (fun _ => ?_)⟩⟩
        · exact ⟨_, rfl, q1 H2 (.inr (by omega)) (x.stp st) (Fr4.stp st)⟩
        · exact hg rfl H2 (x.stp st) (Fr4.stp st)
      · exact hg rfl H x Fr4.refl
theorem ok__law_lay (T : Txt K w mg) (Ot : OkD P w K mg base CX0 1 "_law_take" p__law_take spTake) (Om : OkD P w K mg base CX0 2 "_law_must_part" p__law_must_part spMust) (Op : ∀ b, OkD P w K mg base CX0 1 "_law_put" p__law_put (spPut b)) :
    OkD P w K mg base CX0 3 "_law_lay" p__law_lay spLay := by
  refine T.g__law_lay.ok sc__law_lay (fun vs H Q E h => ?_) (fun f cdv A outer s H vs Q E hr h => ?_)
  · obtain ⟨b, pa, ra, ma, ta, p, k, w, sp, bf, rfl, _⟩ := h; rfl
  obtain ⟨b, pa, ra, ma, ta, p, k, w, sp, bf, rfl, x, hpr, hpc, hpm, hta, hsp, hne, hbf, q⟩ := h
  have lim : (1100000 : Nat) ≤ sizeLine := by decide
  have z : Str.ofString " " = S [32] ∧ Str.ofString "" = S [] := by decide +kernel
  have sp1 : (S [32]).length = 1 := rfl
  have Op := Op b
  have hta : H ta = some (.tup [.str (S k.cp), w.v, .str (S sp)]) := hta
  have tb : ta ≠ b := x.bag.ne_tup hta
  obtain ⟨sa, hpa, _⟩ := x.at_
  obtain ⟨us, hma, _⟩ := x.mks
  have tpa : ta ≠ pa := fun e => by rw [e, hpa] at hta; cases hta
  have tra : ta ≠ ra := fun e => by rw [e, x.rows] at hta; cases hta
  have tma : ta ≠ ma := fun e => by rw [e, hma] at hta; cases hta
  refine split_at 2 (fun t => ∀ (g : Nat) H1, g ≤ 3 → (g = 0 → mustP bf sp = false) → PB H1 b pa ra ma p → Fr4 b pa ra ma H H1 → t { nx := fun _ H' => Q .non H', rt := Q } [some (.ref b), some (.ref pa), some (.ref ta), some (.str (S bf)), some (.int (g : Nat))] H1) ?_ (fun t ht hg => ?_)
  · refine split_at 1 (fun t => ∀ (g : Nat) H1, g ≤ 3 → (g = 0 → mustP bf sp = false) → (bf = [] → g = 0) → PB H1 b pa ra ma p → Fr4 b pa ra ma H H1 → t { nx := fun _ H' => Q .non H', rt := Q } [some (.ref b), some (.ref pa), some (.ref ta), some (.str (S bf)), some (.int (g : Nat))] H1) ?_ (fun t ht hg => ?_)
    · refine ⟨_, (pss_cons (ps_asg (pe_op op_add_str (pe_ix ix_list (pv 1) pe_int (fun _ _ => rfl)) (pe_op op_mulS pe_str (pv 4))) (pg_sub (pv 1) pe_int set_list))
      (pss_cons (ps_expr (pcall Op hr (pa_cons (pv 1) (pa_cons (pe_ix ix_tup (pv 2) pe_int (fun _ _ => rfl)) (pa_cons (pe_ix ix_tup (pv 2) pe_int (fun _ _ => rfl)) (pa_cons (pe_ix ix_tup (pv 2) pe_int (fun _ _ => rfl)) pa_nil))))))
      (pss_one (ps_ret (pe_ix ix_tup (pv 2) pe_int (fun _ _ => rfl)))))), ?_⟩
      intro g H1 hg3 hg0 hgb x1 f1
      obtain ⟨l1, h1, hl1, hat1, x2, f2⟩ := x1.upd_cur (p.cur ++ spn g)
      rw [z.1]
      refine ⟨_, rfl, pa, _, 1, _, rfl, rfl, SqL.of h1, hat1, _, rfl, _, _, rfl, rfl, mul_ok sp1 (by omega) (by omega), ?_⟩
      rw [spaces]
      refine ⟨_, _, rfl, rfl, by rw [S_len, S_len, List.length_replicate]; omega, ?_⟩
      rw [S_cat]
      refine ⟨_, rfl, pa, _, 1, 1, rfl, rfl, h1, by rw [hl1]; rfl, ?_⟩
      generalize upd H1 pa _ = H2 at x2 f2
      have f12 := f1.trans f2
      have ht2 := f12 ta _ tb tpa tra tma hta
      refine ⟨_, rfl, _, rfl, ta, _, 0, _, rfl, rfl, SqT.of ht2, rfl, _, rfl, ta, _, 1, _, rfl, rfl, SqT.of ht2, rfl, _, rfl, ta, _, 2, _, rfl, rfl, SqT.of ht2, rfl, ?_⟩
      refine ⟨pa, ra, ma, _, k, w, sp, rfl, x2, ⟨by show p.rows.length ≤ _; omega, by show (p.cur ++ spn g).length ≤ _; rw [List.length_append, List.length_replicate]; omega, hpm⟩, hsp, fun H3 x3 f3 => ?_⟩
      have ht3 := f3 ta _ tb tpa tra tma ht2
      exact ⟨_, rfl, ta, _, 2, _, rfl, rfl, SqT.of ht3, rfl, q H3 g hg3 hg0 hgb x3 (f12.trans f3)⟩
    · refine ⟨_, pss_cons (ps_if (pt_cmpR op_eq (pv 3) pe_str (nomark _)) (pss_one (ps_set (i := 4) sc__law_lay.nd rfl (.inl rfl) pe_int)) pss_nil) ht, ?_⟩
      intro g H1 hg3 hg0 x1 f1
      have e0 : decide (V.str (S bf) = V.str (Str.ofString "")) = decide (bf = []) := by rw [z.2, str_dec]
      refine ⟨_, rfl, rfl, _, rfl, iteD (b := decide (V.str (S bf) = V.str (Str.ofString ""))) (fun c => ?_) (fun c => ?_)⟩
      · rw [e0] at c
        have c := of_decide_eq_true c
        exact hg 0 H1 (by omega) (fun _ => by rw [c]; rfl) (fun _ => rfl) x1 f1
      · rw [e0] at c
        have c := of_decide_eq_false c
        exact hg g H1 hg3 hg0 (fun z => absurd z c) x1 f1
  · refine ⟨_, pss_cons (ps_set (i := 4) sc__law_lay.nd rfl (.inl rfl) (pcall Ot hr (pa_cons (pv 0) (pa_cons pe_int pa_nil)))) (pss_cons (ps_if (PW.pt (pw_and (pt_cmpR op_eq (pv 4) pe_int (nomark _)) (pw_and1 (pt_val (pcall Om hr (pa_cons (pv 3) (pa_cons (pe_ix ix_tup (pv 2) pe_int (fun _ _ => rfl)) pa_nil))))))) (pss_one (ps_set (i := 4) sc__law_lay.nd rfl (.inl rfl) pe_int)) pss_nil) ht), ?_⟩
    refine ⟨_, rfl, b, 4, rfl, x.bag, by decide, by decide, fun r H1 r0 r1 st => ?_⟩
    obtain ⟨g, rfl⟩ : ∃ k : Nat, r = (k : Int) := ⟨r.toNat, by omega⟩
    have x1 := x.stp st
    have ht1 := st.keep ta _ tb hta
    refine ⟨_, rfl, rfl, _, rfl, ite2 (fun c => ?_) (fun c => ?_)⟩
    · have c := of_decide_eq_true c
      have c : g = 0 := by have := V.int.inj c; omega
      subst c
      refine ⟨_, rfl, _, rfl, ta, _, 2, _, rfl, rfl, SqT.of ht1, rfl, bf, sp, rfl, by omega, by omega, hne, fun H2 s2 => ⟨_, rfl, ?_⟩⟩
      cases hm : mustP bf sp with
      | true => exact iteT (hg 1 H2 (by omega) (fun z => by omega) (x1.same s2) ((Fr4.stp st).trans (Fr4.same s2)))
      | false => exact iteF (hg 0 H2 (by omega) (fun _ => hm) (x1.same s2) ((Fr4.stp st).trans (Fr4.same s2)))
    · exact hg g H1 (by omega) (fun z => absurd (decide_eq_true (by rw [z]; rfl)) c) x1 (Fr4.stp st)
end
end D0
namespace D0
open PySem PySem.Spec PyProof.Rows L2 SX NumText
/-- the closers that are due, the innermost last -/
def BrM (s : Sc) (cl : List (List Nat)) : Prop := cl.reverse.map cloV = s.br.map fun m => some (wl m.w)
/-- within a line: s is what the scanner has before the next word -/
structure LineSt (p : Pg) (s : Sc) (bf : List Nat) : Prop where
  row : ∃ s0 s', scanRows p.rows 1 sc0 = .ok s0 ∧ Row p.cur (p.rows.length + 1) s0 s' bf ∧
    ((s'.many = 0 ∧ bf = [] ∧ s.many = 0 ∧ beginLine (p.rows.length + 1) (p.cur.length + 1) s' = .ok s) ∨ (s'.many ≠ 0 ∧ s' = s))
  marks : s.marks = p.marks
  spot : bf ≠ [] → p.sl = p.rows.length + 1 ∧ p.sc = s.behind ∧ s.many ≠ 0
/-- between lines -/
structure EndSt (p : Pg) (s : Sc) : Prop where
  scan : scanRows p.rows 1 sc0 = .ok s
  br : s.br = []
  many : s.many = 0
  marks : s.marks = p.marks
  last : lastLn s = p.sl + 1
structure PgOk (p : Pg) : Prop where
  rows : ∀ r ∈ p.rows, r.length ≤ 120 ∧ r.all rowc = true
  cur : p.cur.all rowc = true
  bt : blen p.rows ≤ p.tot
theorem spn_row (g : Nat) : (spn g).all rowc = true := by
  rw [List.all_eq_true]
  intro c hc
  rw [(List.mem_replicate.mp hc).2]; decide
theorem TailL.row {t : List Nat} (h : TailL t) : t.all rowc = true := by
  obtain ⟨g, com, rfl, rfl | ⟨_, c, rfl, hc⟩⟩ := h
  · rw [List.append_nil]; exact spn_row g
  · rw [List.all_append, spn_row, List.all_cons, hc]; rfl
theorem namc_row {c : Nat} (h : namc c = true) : rowc c = true := by
  by_cases k : c < 128
  · have : ∀ c, c < 128 → namc c = true → rowc c = true := by decide
    exact this c k h
  · unfold namc at h
    rw [letc_big c (by omega), dig_big c (by omega)] at h; cases h
theorem dig_row {c : Nat} (h : isDig c = true) : rowc c = true := namc_row (dig_nam h)
theorem SG_row : ∀ s ∈ SG, s.all rowc = true := by decide
theorem TokL.row {k : Kd} {w : Wd} {sp : List Nat} (h : TokL k w sp) : sp.all rowc = true ∧ sp.length ≤ 40 := by
  have sg : ∀ sp ∈ SG, sp.all rowc = true ∧ sp.length ≤ 40 := fun sp h => ⟨SG_row sp h, Nat.le_trans (SG_le sp h) (by decide)⟩
  rcases h with (⟨⟨h30, hall, _⟩, _, _⟩ | ⟨⟨h40, hall, _⟩, _, _⟩ | ⟨w', ⟨q, us, hq, _, e, hu, hok⟩, _, _⟩ | ⟨hsg, _, _, _⟩) | ⟨hb, _, _⟩
  · exact ⟨List.all_eq_true.mpr fun c hc => namc_row (List.all_eq_true.mp hall c hc), by omega⟩
  · exact ⟨List.all_eq_true.mpr fun c hc => dig_row (List.all_eq_true.mp hall c hc), by omega⟩
  · have hqr : rowc q = true := by rcases hq with z | z <;> subst z <;> decide
    have hur : ∀ u ∈ us, (unitSp u).all rowc = true ∧ (unitSp u).length ≤ 2 := fun u hu => by
      have := hok u hu
      obtain ⟨c, e⟩ := u
      cases e with
      | false => exact ⟨by show ([c].all rowc) = true; rw [List.all_cons, this.1]; rfl, by show 1 ≤ 2; decide⟩
      | true => rcases (this : c = 10 ∨ c = 92 ∨ c = 34 ∨ c = 39) with z | z | z | z <;> subst z <;> decide
    have hf : ∀ us : List (Nat × Bool), (∀ u ∈ us, (unitSp u).all rowc = true ∧ (unitSp u).length ≤ 2) → (us.flatMap unitSp).all rowc = true ∧ (us.flatMap unitSp).length ≤ 2 * us.length := by
      intro us
      induction us with
      | nil => intro _; exact ⟨rfl, Nat.le_refl _⟩
      | cons u r ih =>
        intro h
        obtain ⟨i1, i2⟩ := ih fun v hv => h v (List.mem_cons_of_mem _ hv)
        obtain ⟨j1, j2⟩ := h u List.mem_cons_self
        rw [List.flatMap_cons, List.all_append, List.length_append, List.length_cons, i1, j1]
        exact ⟨rfl, by omega⟩
    obtain ⟨f1, f2⟩ := hf us hur
    rw [e]
    refine ⟨by rw [List.all_cons, List.all_append, List.all_cons, hqr, f1]; rfl, ?_⟩
    rw [List.length_cons, List.length_append, List.length_cons]
    show _ + (0 + 1) + 1 ≤ 40
    omega
  · exact sg sp hsg
  · exact sg sp (BRL_SG sp hb)
theorem begin_many {ln col : Nat} {s s1 : Sc} (h : beginLine ln col s = .ok s1) : s1.many = s.many ∧ s1.br = s.br := by
  unfold beginLine finish at h
  split at h
  · cases h
  · split at h
    · split at h
      · cases h
      · split at h
        · cases h
        · cases h; exact ⟨rfl, rfl⟩
    · split at h
      · cases h
      · cases h; exact ⟨rfl, rfl⟩
def Pg.laid (p : Pg) (g : Nat) (k : Kd) (w : Wd) (sp : List Nat) : Pg := (p.setCur (p.cur ++ spn g)).put k w sp
theorem lay_sem {p : Pg} {s s2 : Sc} {bf sp : List Nat} {k : Kd} {w : Wd} {g : Nat} (L : LineSt p s bf) (ht : TokG k w sp) (hm : g = 0 → mustP bf sp = false) (hb : bf = [] → g = 0)
    (hg : gatherP ⟨k, w, p.rows.length + 1, p.cur.length + g + 1⟩ s = .ok s2) (h2 : s2.marks = s.marks ++ [⟨k, w, p.rows.length + 1, p.cur.length + g + 1⟩]) (h3 : s2.many ≠ 0) :
    LineSt (p.laid g k w sp) { s2 with behind := p.cur.length + g + sp.length + 1 } sp := by
  obtain ⟨s0, s', hs, R, hbeg⟩ := L.row
  have hbg : beg (p.rows.length + 1) (p.cur.length + g) s' = .ok s := by
    unfold beg
    rcases hbeg with ⟨a, b, _, c⟩ | ⟨a, b⟩
    · rw [if_pos a, hb b, Nat.add_zero]; exact c
    · rw [if_neg a, b]
  have R2 := row_tok R hbg hg ht hm
  have elen : (p.cur ++ spn g).length = p.cur.length + g := by rw [List.length_append, List.length_replicate]
  refine ⟨⟨s0, _, hs, R2, .inr ⟨h3, rfl⟩⟩, ?_, fun _ => ⟨rfl, ?_, h3⟩⟩
  · show s2.marks = p.marks ++ [⟨k, w, p.rows.length + 1, (p.cur ++ spn g).length + 1⟩]
    rw [h2, L.marks, elen]
  · show (p.cur ++ spn g).length + sp.length + 1 = p.cur.length + g + sp.length + 1
    rw [elen]
theorem scan_blanks : ∀ (bl rows : List (List Nat)) (s : Sc), (∀ r ∈ bl, TailL r) → (∀ ln, fin ln s = s) → scanRows rows 1 sc0 = .ok s → scanRows (rows ++ bl) 1 sc0 = .ok s
  | [], rows, s, _, _, h => by rw [List.append_nil]; exact h
  | r :: bl, rows, s, hb, hf, h => by
    have h1 : scanRows (rows ++ [r]) 1 sc0 = .ok s := by
      rw [scanRows_app rows r 1 sc0 s h, blank_row (hb r List.mem_cons_self), hf]
    have := scan_blanks bl (rows ++ [r]) s (fun x hx => hb x (List.mem_cons_of_mem _ hx)) hf h1
    rw [List.append_assoc] at this
    exact this
/-- a row ends, the line goes on -/
theorem broken_sem {p : Pg} {s : Sc} {bf tl : List Nat} {bl : List (List Nat)} {g : Nat} (L : LineSt p s bf) (hbr : s.br ≠ []) (hm : s.many ≠ 0) (ht : TailL tl) (hb : ∀ r ∈ bl, TailL r) : LineSt ((p.ended tl bl).setCur (spn g)) s [] := by
  obtain ⟨s0, s', hs, R, hbeg⟩ := L.row
  have e : s' = s := by
    rcases hbeg with ⟨_, _, c, _⟩ | ⟨_, b⟩
    · exact absurd c hm
    · exact b
  subst e
  have hf : ∀ ln, fin ln s' = s' := fun ln => if_neg fun z => hbr z.2
  have h1 : scanRows (p.rows ++ [p.cur ++ tl]) 1 sc0 = .ok s' := by
    rw [scanRows_app p.rows _ 1 sc0 s0 hs, Nat.add_comm 1, row_end R ht, hf]
  have h2 := scan_blanks bl _ s' hb hf h1
  exact ⟨⟨s', s', h2, row_start g _ s', .inr ⟨hm, rfl⟩⟩, L.marks, fun z => absurd rfl z⟩
/-- the line ends -/
theorem end_sem {p : Pg} {s : Sc} {bf tl : List Nat} {bl : List (List Nat)} (L : LineSt p s bf) (hn : bf ≠ []) (hbr : s.br = []) (ht : TailL tl) (hb : ∀ r ∈ bl, TailL r) :
    EndSt ((Pg.mk p.rows p.cur (p.marks ++ [⟨.newline, .s [], p.sl, p.sc⟩]) p.tot p.sl p.sc).ended tl bl) (endLine (p.rows.length + 1) s) := by
  obtain ⟨s0, s', hs, R, hbeg⟩ := L.row
  obtain ⟨sp1, sp2, sp3⟩ := L.spot hn
  have e : s' = s := by
    rcases hbeg with ⟨_, b, _, _⟩ | ⟨_, b⟩
    · exact absurd b hn
    · exact b
  subst e
  have hf : fin (p.rows.length + 1) s' = endLine (p.rows.length + 1) s' := if_pos ⟨Nat.pos_of_ne_zero sp3, hbr⟩
  have h1 : scanRows (p.rows ++ [p.cur ++ tl]) 1 sc0 = .ok (endLine (p.rows.length + 1) s') := by
    rw [scanRows_app p.rows _ 1 sc0 s0 hs, Nat.add_comm 1, row_end R ht, hf]
  have hf2 : ∀ ln, fin ln (endLine (p.rows.length + 1) s') = endLine (p.rows.length + 1) s' := fun ln => if_neg fun z => absurd z.1 (Nat.lt_irrefl 0)
  have h2 := scan_blanks bl _ _ hb hf2 h1
  refine ⟨h2, hbr, rfl, ?_, ?_⟩
  · show s'.marks ++ [⟨.newline, .s [], p.rows.length + 1, s'.behind⟩] = p.marks ++ [⟨.newline, .s [], p.sl, p.sc⟩]
    rw [L.marks, sp1, sp2]
  · show lastLn { s' with marks := s'.marks ++ [⟨.newline, .s [], p.rows.length + 1, s'.behind⟩], many := 0 } = p.sl + 1
    unfold lastLn
    dsimp only
    rw [List.getLast?_append, sp1]; rfl
/-- what a word does to the brackets -/
theorem gather_plain {m : Mk} {s : Sc} {cl : List (List Nat)} (h : s.many ≤ 119) (hB : BrM s cl) (hk : isSg m.k = true → wl m.w ∉ OPN ∧ cloV (wl m.w) = none) :
    ∃ s2, gatherP m s = .ok s2 ∧ s2.marks = s.marks ++ [m] ∧ s2.many = s.many + 1 ∧ s2.ind = s.ind ∧ BrM s2 cl := by
  refine ⟨addM m { s with many := s.many + 1 }, ?_, rfl, rfl, rfl, hB⟩
  unfold gatherP
  rw [if_neg (by omega)]
  split
  · rename_i c
    obtain ⟨h1, h2⟩ := hk c
    unfold matchBr
    rw [if_neg h1, h2]; rfl
  · rfl
theorem gather_open {m : Mk} {s : Sc} {cl : List (List Nat)} {c : List Nat} (h : s.many ≤ 119) (hB : BrM s cl) (hk : isSg m.k = true) (ho : wl m.w ∈ OPN) (hc : cloV c = some (wl m.w)) :
    ∃ s2, gatherP m s = .ok s2 ∧ s2.marks = s.marks ++ [m] ∧ s2.many = s.many + 1 ∧ s2.ind = s.ind ∧ BrM s2 (cl ++ [c]) := by
  refine ⟨addM m { s with many := s.many + 1, br := m :: s.br }, ?_, rfl, rfl, rfl, ?_⟩
  · unfold gatherP
    rw [if_neg (by omega), if_pos hk]
    unfold matchBr
    rw [if_pos ho]; rfl
  · show (cl ++ [c]).reverse.map cloV = (m :: s.br).map fun m => some (wl m.w)
    rw [List.reverse_append]
    show cloV c :: cl.reverse.map cloV = some (wl m.w) :: s.br.map fun m => some (wl m.w)
    rw [hc, hB]
theorem gather_close {m : Mk} {s : Sc} {cl : List (List Nat)} (h : s.many ≤ 119) (hB : BrM s (cl ++ [wl m.w])) (hk : isSg m.k = true) (ho : wl m.w ∉ OPN) (hc : (cloV (wl m.w)).isSome = true) :
    ∃ s2, gatherP m s = .ok s2 ∧ s2.marks = s.marks ++ [m] ∧ s2.many = s.many + 1 ∧ s2.ind = s.ind ∧ BrM s2 cl := by
  have hB2 : cloV (wl m.w) :: cl.reverse.map cloV = s.br.map fun m => some (wl m.w) := by
    have : (cl ++ [wl m.w]).reverse.map cloV = s.br.map fun m => some (wl m.w) := hB
    rw [List.reverse_append] at this
    exact this
  cases hbr : s.br with
  | nil => rw [hbr] at hB2; cases hB2
  | cons b r =>
    rw [hbr] at hB2
    injection hB2 with e1 e2
    refine ⟨addM m { s with many := s.many + 1, br := r }, ?_, rfl, rfl, rfl, e2⟩
    unfold gatherP
    rw [if_neg (by omega), if_pos hk]
    unfold matchBr
    rw [if_neg ho, e1]
    show (match s.br with
      | [] => (.error (.token, m.ln, m.col) : Except Er3 Sc)
      | b' :: r' => if wl b'.w = wl b.w then .ok { s with many := s.many + 1, br := r' } else .error (.token, m.ln, m.col)).map (addM m) = _
    rw [hbr]
    show (if wl b.w = wl b.w then (.ok { s with many := s.many + 1, br := r } : Except Er3 Sc) else _).map (addM m) = _
    rw [if_pos rfl]; rfl
end D0
namespace D0
open PySem PySem.Spec PyProof.Rows L2 SX NumText
def CLS : List (List Nat) := [[41], [93], [125]]
theorem blen_le : ∀ bl : List (List Nat), bl.length ≤ 2 → (∀ r ∈ bl, TailL r ∧ r.length ≤ 17) → blen bl ≤ 36 ∧ bl.length ≤ blen bl
  | [], _, _ => ⟨by decide, by decide⟩
  | [a], _, h => by
    have := (h a List.mem_cons_self).2
    show a.length + 1 + 0 ≤ 36 ∧ 1 ≤ a.length + 1 + 0
    omega
  | [a, c], _, h => by
    have h1 := (h a List.mem_cons_self).2
    have h2 := (h c (List.mem_cons_of_mem _ List.mem_cons_self)).2
    show a.length + 1 + (c.length + 1 + 0) ≤ 36 ∧ 2 ≤ a.length + 1 + (c.length + 1 + 0)
    omega
  | a :: c :: d :: r, h, _ => absurd h (by simp)
theorem ended_ok {p : Pg} {tl : List Nat} {bl : List (List Nat)} (o : PgOk p) (hc : p.cur.length ≤ 113) (h1 : TailL tl) (h2 : tl.length ≤ 11) (h3 : 100 ≤ p.cur.length → tl = []) (h4 : bl.length ≤ 2) (h5 : ∀ r ∈ bl, TailL r ∧ r.length ≤ 17) (rl : p.rows.length ≤ p.tot) :
    PgOk (p.ended tl bl) ∧ (p.ended tl bl).tot ≤ p.tot + 161 ∧ (p.ended tl bl).rows.length ≤ (p.ended tl bl).tot := by
  obtain ⟨b1, b2⟩ := blen_le bl h4 h5
  refine ⟨⟨fun r hr => ?_, rfl, ?_⟩, ?_, ?_⟩
  · have hr : r ∈ p.rows ++ [p.cur ++ tl] ++ bl := hr
    rcases List.mem_append.mp hr with hr | hr
    · rcases List.mem_append.mp hr with hr | hr
      · exact o.rows r hr
      · rw [List.mem_singleton.mp hr, List.length_append, List.all_append, o.cur, h1.row]
        refine ⟨?_, rfl⟩
        by_cases c : 100 ≤ p.cur.length
        · rw [h3 c]; show _ + 0 ≤ 120; omega
        · omega
    · exact ⟨by have := (h5 r hr).2; omega, (h5 r hr).1.row⟩
  · have hbt := o.bt
    have ea : ∀ x y : List (List Nat), blen (x ++ y) = blen x + blen y := fun x y => by unfold blen; rw [List.map_append, List.sum_append]
    show blen (p.rows ++ [p.cur ++ tl] ++ bl) ≤ p.tot + (p.cur.length + tl.length + 1) + blen bl
    rw [ea, ea]
    have : blen [p.cur ++ tl] = p.cur.length + tl.length + 1 := by show (p.cur ++ tl).length + 1 + 0 = _; rw [List.length_append] <;> rfl
    omega
  · show p.tot + (p.cur.length + tl.length + 1) + blen bl ≤ p.tot + 161
    omega
  · show (p.rows ++ [p.cur ++ tl] ++ bl).length ≤ p.tot + (p.cur.length + tl.length + 1) + blen bl
    rw [List.length_append, List.length_append]
    show p.rows.length + 1 + bl.length ≤ _
    omega
/-- what holds within a line: cl the list at ca, cb the closers that are due, n words are laid -/
structure LI (H H1 : Hp) (b pa ra ma ca : Addr) (ind0 : List Nat) (m0 : Nat) (cl cb : List (List Nat)) (bf : List Nat) (p : Pg) (s : Sc) (n : Nat) : Prop where
  x : PB H1 b pa ra ma p
  hca : H1 ca = some (.lst (cl.map fun l => V.str (S l)))
  dca : ca ≠ b ∧ ca ≠ pa ∧ ca ≠ ra ∧ ca ≠ ma
  f : Fr4 b pa ra ma H H1
  L : LineSt p s bf
  B : BrM s cb
  ok : PgOk p
  many : s.many = n
  ind : s.ind = ind0
  mkl : p.marks.length = m0 + n
  cls : ∀ c ∈ cl, c ∈ CLS
  cll : cl.length ≤ 6
  cur : p.cur.length ≤ 113
  rl : p.rows.length ≤ p.tot
  bfl : bf.length ≤ 100
  nz : cl ≠ [] → n ≠ 0
  caf : H ca = none
def spLine : Sp := fun vs H Q _ => ∃ (b pa ra ma : Addr) (p : Pg) (s : Sc) (many least : Nat), vs = [.ref b, .ref pa, .int (many : Nat), .int (least : Nat)] ∧ PB H b pa ra ma p ∧ LineSt p s [] ∧ s.many = 0 ∧ s.br = [] ∧ PgOk p ∧ p.cur.length ≤ 60 ∧ p.tot ≤ 4500 ∧ p.rows.length ≤ p.tot ∧ p.marks.length ≤ 90000 ∧
  1 ≤ many ∧ many ≤ 114 ∧ least ≤ 1 ∧
  ∀ H' p' s', PB H' b pa ra ma p' → Fr4 b pa ra ma H H' → EndSt p' s' → PgOk p' → p'.cur = [] → s'.ind = s.ind → p'.tot ≤ 5950 → s'.marks ≠ [] → p'.marks.length ≤ p.marks.length + 125 → p'.rows.length ≤ p'.tot → p'.sl ≠ 0 → Q .non H'
theorem CLS_tok : ∀ c ∈ CLS, TokL .sign (.s c) c ∧ c.length = 1 ∧ c ∉ OPN ∧ (cloV c).isSome = true := by
  intro c hc
  have h : ∀ c ∈ CLS, c ∈ BRL ∧ c.length = 1 ∧ c ∉ OPN ∧ (cloV c).isSome = true := by decide
  obtain ⟨h1, h2, h3, h4⟩ := h c hc
  exact ⟨.inr ⟨h1, rfl, rfl⟩, h2, h3, h4⟩
section
variable {P : Program} {w : World} {K : PySem.W.Frag} {mg : Str → Option Value} {base : Heap}
theorem line_end (T : Txt K w mg) (Or_ : OkD P w K mg base CX0 3 "_law_row_end" p__law_row_end spRowEnd) (Ob : OkD P w K mg base CX0 4 "_law_broken" p__law_broken spBroken) (Ol : OkD P w K mg base CX0 3 "_law_lay" p__law_lay spLay)
    {f : Addr} {cdv : Value} {A : Around} {outer : List Env} {s : Shared} {H : Hp} {E : XK} {Q : VK} (hr : Room 4 (A.deeper (envOfC "_law_line" (defScope s__law_line) s.heap.objs.size f cdv))) {b pa ra ma : Addr} {ind0 : List Nat} {m0 : Nat} (hm0 : m0 ≤ 90000)
    (q : ∀ H' p' s', PB H' b pa ra ma p' → Fr4 b pa ra ma H H' → EndSt p' s' → PgOk p' → p'.cur = [] → s'.ind = ind0 → p'.tot ≤ 5950 → s'.marks ≠ [] → p'.marks.length ≤ m0 + 125 → p'.rows.length ≤ p'.tot → p'.sl ≠ 0 → Q .non H') :
    ∃ t, PSs (cxOf CX0 P w K mg base n__law_line "_law_line" (defScope s__law_line) f cdv A outer s H E).nox ((defBody s__law_line).drop 3) t ∧ ∀ (H1 : Hp) (ca : Addr) (cl : List (List Nat)) (bf : List Nat) (p : Pg) (sc : Sc) (n : Nat) (v2 v3 : V) (y6 y7 y8 y9 : Option V),
      LI H H1 b pa ra ma ca ind0 m0 cl cl bf p sc n → n ≤ 114 → p.tot ≤ 4661 → (bf = [] → cl ≠ []) →
      t { nx := fun _ H' => Q .non H', rt := Q } [some (.ref b), some (.ref pa), some v2, some v3, some (.ref ca), some (.str (S bf)), y6, y7, y8, y9, none] H1 := by
  have lim : (1100000 : Nat) ≤ sizeLine := by decide
  have z : Str.ofString "sign" = S Kd.sign.cp ∧ Str.ofString "newline" = S Kd.newline.cp ∧ Str.ofString "" = S [] := by decide +kernel
  refine ⟨_, (pss_cons (ps_for PassesOwn.never rfl (pi_reversed (by rfl) T.z_reversed (pa_cons (pv 4) pa_nil)) (pg_name (i := 10) sc__law_line.nd rfl (Or.inl rfl)) (pss_cons (ps_set (i := 5) sc__law_line.nd rfl (.inl rfl) (pcall Ob hr (pa_cons (pv 0) (pa_cons (pv 1) (pa_cons (pv 5) (pa_cons pe_bl (pa_cons pe_int pa_nil)))))))
      (pss_one (ps_set (i := 5) sc__law_line.nd rfl (.inl rfl) (pcall Ol hr (pa_cons (pv 0) (pa_cons (pv 1) (pa_cons (pe_tup (pa_cons pe_str (pa_cons (pv 10) (pa_cons (pv 10) pa_nil)))) (pa_cons (pv 5) pa_nil)))))))))
      (pss_cons (ps_expr (pe_bm PySem.F.plainAttrs_list PySem.F.slot_list_append PySem.F.type_list_append mt_append (pe_ix ix_list (pv 1) pe_int (fun _ _ => rfl)) (pa_cons (pe_tup (pa_cons pe_str (pa_cons pe_str (pa_cons (pe_ix ix_list (pe_ix ix_list (pv 1) pe_int (fun _ _ => rfl)) pe_int (fun _ _ => rfl)) (pa_cons (pe_ix ix_list (pe_ix ix_list (pv 1) pe_int (fun _ _ => rfl)) pe_int (fun _ _ => rfl)) pa_nil))))) pa_nil)))
      (pss_one (ps_expr (pcall Or_ hr (pa_cons (pv 0) (pa_cons (pv 1) pa_nil))))))), ?_⟩
  intro H1 ca cl bf p sc n v2 v3 y6 y7 y8 y9 I hn htot hbf
  refine ⟨_, rfl, ca, _, rfl, SqL.of I.hca, for_it walk_rev (fun j σ H' => ∃ (bf : List Nat) (p : Pg) (sc : Sc) (y : Option V), σ = [some (.ref b), some (.ref pa), some v2, some v3, some (.ref ca), some (.str (S bf)), y6, y7, y8, y9, y] ∧ LI H H' b pa ra ma ca ind0 m0 cl (cl.take (cl.length - j)) bf p sc (n + j) ∧ p.tot ≤ 4661 + 161 * j ∧ (bf = [] → j < cl.length))
    ⟨bf, p, sc, none, rfl, by rw [Nat.sub_zero, List.take_length]; exact I, htot, fun h => List.length_pos_iff.mpr (hbf h)⟩ (fun j σ H' _ h => by obtain ⟨_, _, _, _, _, I2, _⟩ := h; exact SqL.of I2.hca) ?_ ?_⟩
  · rintro j x σ H2 H3 hj ⟨bf, p, sc, y, rfl, I, htot, hbf⟩ ⟨rfl, hx⟩
    rw [List.length_map] at hj
    rw [List.length_map, List.getElem?_map] at hx
    obtain ⟨c, hc, rfl⟩ := Option.map_eq_some_iff.mp hx
    have hcm := I.cls c (List.mem_of_getElem? hc)
    obtain ⟨tk, tl1, tno, tso⟩ := CLS_tok c hcm
    obtain ⟨m, hm⟩ : ∃ m, cl.length - j = m + 1 := ⟨cl.length - j - 1, by omega⟩
    have hcm2 : cl[m]? = some c := by rw [← hc]; congr 1; omega
    have htake : cl.take (cl.length - j) = cl.take m ++ [c] := by rw [hm, List.take_add_one, hcm2]; rfl
    have hm2 : cl.length - (j + 1) = m := by omega
    have hj6 : j < 6 := by have := I.cll; omega
    have hn120 : n + j ≤ 119 := by have := I.cll; omega
    have hnz : n + j ≠ 0 := I.nz (fun e => by rw [e] at hc; cases hc)
    have hrl := I.rl
    have hmk := I.mkl
    have hcur := I.cur
    have hB := I.B
    rw [htake] at hB
    have hbr : sc.br ≠ [] := fun e => by
      have : (cl.take m ++ [c]).reverse.map cloV = sc.br.map fun m => some (wl m.w) := hB
      rw [e, List.reverse_append] at this; cases this
    -- the closer is laid
    have lay : ∀ (H4 : Hp) (bf' : List Nat) (p' : Pg) (sc' : Sc), LI H H4 b pa ra ma ca ind0 m0 cl (cl.take m ++ [c]) bf' p' sc' (n + j) → p'.cur.length ≤ 109 → p'.tot ≤ 4661 + 161 * (j + 1) →
        tAsg (tCall spLay [] E0 (tCons (tVar 0) (tCons (tVar 1) (tCons (tTup (tCons (tC (.str (Str.ofString "sign"))) (tCons (tVar 10) (tCons (tVar 10) tNil)))) (tCons (tVar 5) tNil))))) (gName 5)
          { nx := fun σ H' => ∃ (bf : List Nat) (p : Pg) (sc : Sc) (y : Option V), σ = [some (.ref b), some (.ref pa), some v2, some v3, some (.ref ca), some (.str (S bf)), y6, y7, y8, y9, y] ∧ LI H H' b pa ra ma ca ind0 m0 cl (cl.take (cl.length - (j + 1))) bf p sc (n + (j + 1)) ∧ p.tot ≤ 4661 + 161 * (j + 1) ∧ (bf = [] → j + 1 < cl.length), rt := Q }
          [some (.ref b), some (.ref pa), some v2, some v3, some (.ref ca), some (.str (S bf')), y6, y7, y8, y9, some (.str (S c))] H4 := fun H4 bf' p' sc' I' hcur' ht' => by
      refine ⟨_, rfl, _, rfl, _, rfl, _, rfl, by show 3 ≤ sizeLine; omega, fun ta hta => ?_⟩
      have s5 := same_new hta (.tup [.str (Str.ofString "sign"), .str (S c), .str (S c)])
      have hrl' := I'.rl
      have hmk' := I'.mkl
      refine ⟨_, rfl, b, pa, ra, ma, ta, p', .sign, .s c, c, bf', rfl, I'.x.same s5, by omega, by omega, by omega, (by show upd H4 ta _ ta = _; rw [upd_same, z.1]; rfl), by omega, (by intro e; rw [e] at tl1; cases tl1), I'.bfl, fun H6 g hg3 hg0 hgb x6 f6 => ?_⟩
      obtain ⟨s2, e1, e2, e3, e4, e5⟩ := gather_close (m := ⟨.sign, .s c, p'.rows.length + 1, p'.cur.length + g + 1⟩) (s := sc') (cl := cl.take m) (by rw [I'.many]; omega) I'.B rfl tno tso
      have L2 := lay_sem I'.L tk.g hg0 hgb e1 e2 (by rw [e3]; omega)
      obtain ⟨d1, d2, d3, d4⟩ := I'.dca
      refine ⟨c, p'.laid g .sign (.s c) c, _, _, rfl, ⟨x6, f6 ca _ d1 d2 d3 d4 (s5 _ _ I'.hca), I'.dca, I'.f.trans ((Fr4.same s5).trans f6), L2, ?_, ⟨I'.ok.rows, ?_, I'.ok.bt⟩, ?_, ?_, ?_, I.cls, I.cll, ?_, I'.rl, by omega, (fun _ => by omega), I'.caf⟩, ht', fun e => by rw [e] at tl1; cases tl1⟩
      · rw [hm2]; exact e5
      · show (p'.cur ++ spn g ++ c).all rowc = true
        rw [List.all_append, List.all_append, I'.ok.cur, spn_row, tk.row.1]; rfl
      · show s2.many = _
        rw [e3, I'.many]; omega
      · exact e4.trans I'.ind
      · show (p'.marks ++ [_]).length = _
        rw [List.length_append, I'.mkl]; show _ + 1 = _; omega
      · show (p'.cur ++ spn g ++ c).length ≤ 113
        rw [List.length_append, List.length_append, List.length_replicate]; omega
    refine ⟨_, rfl, _, rfl, _, rfl, b, pa, ra, ma, p, bf, true, 4, rfl, I.x, by omega, by omega, by omega, fun H4 hw x4 f4 => ?_, fun _ H4 tl bl g h1 h2 h3 h4 h5 h6 x4 f4 => ?_⟩
    · have hw : p.cur.length + 4 < 114 := hw.resolve_left (fun z => by cases z)
      obtain ⟨d1, d2, d3, d4⟩ := I.dca
      exact lay H4 bf p sc ⟨x4, f4 ca _ d1 d2 d3 d4 I.hca, I.dca, I.f.trans f4, I.L, hB, I.ok, I.many, I.ind, I.mkl, I.cls, I.cll, I.cur, I.rl, I.bfl, I.nz, I.caf⟩ (by omega) (by omega)
    · obtain ⟨d1, d2, d3, d4⟩ := I.dca
      have hmany : sc.many ≠ 0 := by rw [I.many]; exact hnz
      obtain ⟨o1, o2, o3⟩ := ended_ok I.ok hcur h1 h2 h3 h4 h5 hrl
      exact lay H4 [] ((p.ended tl bl).setCur (spn g)) sc ⟨x4, f4 ca _ d1 d2 d3 d4 I.hca, I.dca, I.f.trans f4, broken_sem I.L hbr hmany h1 (fun r hr => (h5 r hr).1), hB, ⟨o1.rows, spn_row g, o1.bt⟩, I.many, I.ind, I.mkl, I.cls, I.cll, (by show (spn g).length ≤ 113; rw [List.length_replicate]; omega), o3, (by show 0 ≤ 100; decide), I.nz, I.caf⟩ (by show (spn g).length ≤ 109; rw [List.length_replicate]; omega) (by show (p.ended tl bl).tot ≤ _; omega)
  · rintro σ H2 ⟨bf, p, sc, y, rfl, I, htot, hbf⟩
    rw [List.length_map] at I htot hbf
    have hne : bf ≠ [] := fun e => absurd (hbf e) (by omega)
    have hcll := I.cll
    have hrl := I.rl
    have hmk := I.mkl
    have hcur := I.cur
    have hB : BrM sc [] := by have := I.B; rw [Nat.sub_self] at this; exact this
    have hbr : sc.br = [] := by
      cases e : sc.br with
      | nil => rfl
      | cons a r =>
        have hB : ([] : List (Option (List Nat))) = sc.br.map fun m => some (wl m.w) := hB
        rw [e] at hB; cases hB
    obtain ⟨sa, h1, h2, d1, d2, d3, d4⟩ := I.x.at_
    obtain ⟨us, h3, h4⟩ := I.x.mks
    obtain ⟨e1, e2, e3, e4, e5, e6⟩ := I.x.d
    obtain ⟨bc, bs, bn, hb⟩ := I.x.bag
    refine ⟨_, rfl, pa, _, 2, .ref ma, rfl, rfl, SqL.of h1, rfl, ?_⟩
    refine ⟨.inl ⟨rfl, _, SqL.of h3⟩, ?_⟩
    refine ⟨_, rfl, pa, _, 4, .ref sa, rfl, rfl, SqL.of h1, rfl, sa, _, 0, _, rfl, rfl, SqL.of h2, rfl, _, rfl, pa, _, 4, .ref sa, rfl, rfl, SqL.of h1, rfl, sa, _, 1, _, rfl, rfl, SqL.of h2, rfl, by show 4 ≤ sizeLine; omega, fun t ht => ?_⟩
    have s1 := same_new ht (.tup [.str (Str.ofString "newline"), .str (Str.ofString ""), .int (p.sl : Nat), .int (p.sc : Nat)])
    have n1 : ma ≠ t := ne_of_none h3 ht
    refine ⟨ma, us, _, rfl, rfl, s1 _ _ h3, by rw [h4.1]; omega, ?_⟩
    generalize hH3 : upd (upd H2 t _) ma _ = H3
    have k1 : ∀ a o, a ≠ ma → H2 a = some o → H3 a = some o := fun a o n e => by rw [← hH3, upd_ne n]; exact s1 a o e
    have t1 : H3 t = some (.tup (Mk.vs ⟨.newline, .s [], p.sl, p.sc⟩)) := by
      rw [← hH3, upd_ne n1.symm, upd_same, z.2.1, z.2.2]; rfl
    have x3 : PB H3 b pa ra ma ⟨p.rows, p.cur, p.marks ++ [⟨.newline, .s [], p.sl, p.sc⟩], p.tot, p.sl, p.sc⟩ := by
      refine ⟨⟨bc, bs, bn, k1 _ _ e3 hb⟩, ⟨sa, k1 _ _ e5 h1, k1 _ _ d3 h2, d1, d2, d3, d4⟩, k1 _ _ e6 I.x.rows, ⟨us ++ [.ref t], by rw [← hH3]; exact upd_same, ?_⟩, I.x.d⟩
      exact Mks.snoc (h4.mono fun a t' e => k1 a _ (fun z => by rw [z, h3] at e; cases e) e) t1
    have f3 : Fr4 b pa ra ma H2 H3 := fun a o _ _ _ h e => k1 a o h e
    refine ⟨_, rfl, _, rfl, b, pa, ra, ma, _, rfl, x3, (by show p.rows.length ≤ 9000; omega), (by show p.cur.length ≤ 300; omega), (by show (p.marks ++ [_]).length ≤ _; rw [List.length_append]; show _ + 1 ≤ _; omega), fun H4 tl bl g1 g2 g3 g4 g5 x4 f4 => ?_⟩
    obtain ⟨o1, o2, o3⟩ := ended_ok I.ok hcur g1 g2 g3 g4 g5 hrl
    refine q H4 _ _ x4 (I.f.trans (f3.trans f4)) (end_sem I.L hne hbr g1 (fun r hr => (g5 r hr).1)) ⟨o1.rows, rfl, o1.bt⟩ rfl I.ind (by show (p.ended tl bl).tot ≤ 5950; omega) ?_ ?_ o3 (by show p.sl ≠ 0; rw [(I.L.spot hne).1]; omega)
    · show sc.marks ++ [_] ≠ []
      exact fun e => by have := congrArg List.length e; rw [List.length_append] at this; simp at this
    · show (p.marks ++ [_]).length ≤ _
      rw [List.length_append]; show _ + 1 ≤ _; omega
end
end D0
namespace D0
open PySem PySem.Spec PyProof.Rows L2 SX NumText
/-- the next piece of a line -/
def PC (cl : List (List Nat)) (k : Kd) (w : Wd) (sp : List Nat) : Prop := TokL k w sp ∧
  (((isSg k = true → wl w ∉ OPN ∧ cloV (wl w) = none) ∧ sp ∉ OPN ∧ sp ∉ CLS) ∨ (k = .sign ∧ w = .s sp ∧ sp ∈ OPN ∧ cl.length < 6) ∨ (k = .sign ∧ w = .s sp ∧ sp ∈ CLS ∧ ∃ c0, cl = c0 ++ [sp]))
theorem brk_head : ∀ s ∈ OPN ++ CLS, ∃ c t, s = c :: t ∧ letc c = false ∧ isDig c = false ∧ c ≠ 34 ∧ c ≠ 39 := by
  intro s hs
  have h : ∀ s ∈ OPN ++ CLS, s ∈ SG := by decide
  obtain ⟨c, t, e, h1, h2, h3, h4, _⟩ := SG_head s (h s hs)
  exact ⟨c, t, e, h1, h2, h3, h4⟩
theorem SG_plain : ∀ s ∈ SG, s ∉ BRL → s ∉ OPN ∧ s ∉ CLS ∧ cloV s = none := by decide
theorem piece_pc {cl : List (List Nat)} {k : Kd} {w : Wd} {sp : List Nat} (h : PieceL k w sp) : PC cl k w sp := by
  refine ⟨.inl h, .inl ?_⟩
  have no : ∀ c t, sp = c :: t → (letc c = true ∨ isDig c = true ∨ c = 34 ∨ c = 39) → sp ∉ OPN ∧ sp ∉ CLS := fun c t e hc => by
    have : sp ∉ OPN ++ CLS := fun hm => by
      obtain ⟨c', t', e', a1, a2, a3, a4⟩ := brk_head sp hm
      rw [e] at e'
      have : c = c' := (List.cons.inj e').1
      subst this
      rcases hc with x | x | x | x
      · rw [a1] at x; cases x
      · rw [a2] at x; cases x
      · exact a3 x
      · exact a4 x
    exact ⟨fun z => this (List.mem_append_left _ z), fun z => this (List.mem_append_right _ z)⟩
  rcases h with ⟨⟨_, _, c, t, e, hc⟩, rfl, rfl⟩ | ⟨⟨_, hall, c, t, e, _⟩, rfl, rfl⟩ | ⟨w', ⟨q, us, hq, _, e, _, _⟩, rfl, rfl⟩ | ⟨hsg, hnb, rfl, rfl⟩
  · refine ⟨fun z => ?_, no c t e (.inl hc)⟩
    split at z <;> cases z
  · have hd : isDig c = true := by rw [e, List.all_cons, Bool.and_eq_true] at hall; exact hall.1
    exact ⟨(fun z => by cases z), no c t e (.inr (.inl hd))⟩
  · exact ⟨(fun z => by cases z), no q _ e (.inr (.inr hq))⟩
  · obtain ⟨h1, h2, h3⟩ := SG_plain sp hsg hnb
    exact ⟨fun _ => ⟨h1, h3⟩, h1, h2⟩
theorem opn_at : ∀ sp ∈ OPN, ∃ (i c : Nat), Builtin.Str.occurrences (S [40, 91, 123]) (S sp) 0 (S [40, 91, 123]).length 1 = [i] ∧ ([41, 93, 125] : List Nat)[i]? = some c ∧ [c] ∈ CLS ∧ cloV [c] = some sp := by
  intro sp h
  rcases List.mem_cons.mp h with h | h
  · subst h; exact ⟨0, 41, by decide +kernel, rfl, by decide, rfl⟩
  rcases List.mem_cons.mp h with h | h
  · subst h; exact ⟨1, 93, by decide +kernel, rfl, by decide, rfl⟩
  rw [List.mem_singleton.mp h]
  exact ⟨2, 125, by decide +kernel, rfl, by decide, rfl⟩
section
variable {P : Program} {w : World} {K : PySem.W.Frag} {mg : Str → Option Value} {base : Heap}
theorem PB.keep {H H' : Hp} {b pa ra ma ca : Addr} {p : Pg} {cl : List (List Nat)} (x : PB H b pa ra ma p) (hca : H ca = some (.lst (cl.map fun l => V.str (S l)))) (dca : ca ≠ b ∧ ca ≠ pa ∧ ca ≠ ra ∧ ca ≠ ma) (k : ∀ a o, a ≠ ca → H a = some o → H' a = some o) : PB H' b pa ra ma p := by
  obtain ⟨sa, h1, h2, d1, d2, d3, d4⟩ := x.at_
  obtain ⟨us, h3, h4⟩ := x.mks
  obtain ⟨bc, bs, bn, hb⟩ := x.bag
  obtain ⟨c1, c2, c3, c4⟩ := dca
  have ns : sa ≠ ca := fun e => by
    rw [e, hca] at h2
    have h2 := HO.lst.inj (Option.some.inj h2)
    cases cl with
    | nil => cases h2
    | cons c r => cases (List.cons.inj h2).1
  exact ⟨⟨bc, bs, bn, k _ _ c1.symm hb⟩, ⟨sa, k _ _ c2.symm h1, k _ _ ns h2, d1, d2, d3, d4⟩, k _ _ c3.symm x.rows, ⟨us, k _ _ c4.symm h3, h4.mono fun a t e => k a _ (fun z => by rw [z, hca] at e; cases e) e⟩, x.d⟩
def fb : Stmt → List Stmt
  | .For _ _ b _ _ => b
  | _ => []
theorem line_rest (T : Txt K w mg) (Ol : OkD P w K mg base CX0 3 "_law_lay" p__law_lay spLay)
    {f : Addr} {cdv : Value} {A : Around} {outer : List Env} {s : Shared} {H : Hp} {E : XK} (hr : Room 4 (A.deeper (envOfC "_law_line" (defScope s__law_line) s.heap.objs.size f cdv))) {b pa ra ma : Addr} {ind0 : List Nat} {m0 : Nat} (hm0 : m0 ≤ 90000) :
    ∃ t, PSs (cxOf CX0 P w K mg base n__law_line "_law_line" (defScope s__law_line) f cdv A outer s H E).nox ((fb ((defBody s__law_line).getD 2 (.Pass ⟨0, 0, 0, 0⟩))).drop 3) t ∧ ∀ (D : Ends) (H1 : Hp) (ca ta : Addr) (cl : List (List Nat)) (k : Kd) (wd : Wd) (sp bf : List Nat) (p : Pg) (sc : Sc) (n : Nat) (v2 v3 : V) (y6 y7 y8 : Option V),
      LI H H1 b pa ra ma ca ind0 m0 cl cl bf p sc n → TupAt H1 ta k.cp wd.v sp → PC cl k wd sp → n ≤ 113 → p.tot ≤ 4661 → (n = 0 → cl = [] ∧ bf = [] ∧ p.cur.length ≤ 60 ∧ p.tot ≤ 4500) → (bf = [] → n = 0 ∨ cl ≠ []) →
      (n ≠ 0 → D.bk [some (.ref b), some (.ref pa), some v2, some v3, some (.ref ca), some (.str (S bf)), y6, y7, y8, some (.ref ta), none] H1) →
      (∀ H' cl' p' sc', LI H H' b pa ra ma ca ind0 m0 cl' cl' sp p' sc' (n + 1) → p'.tot ≤ 4500 → D.nx [some (.ref b), some (.ref pa), some v2, some v3, some (.ref ca), some (.str (S sp)), y6, y7, y8, some (.ref ta), none] H') →
      t D [some (.ref b), some (.ref pa), some v2, some v3, some (.ref ca), some (.str (S bf)), y6, y7, y8, some (.ref ta), none] H1 := by
  have lim : (1100000 : Nat) ≤ sizeLine := by decide
  have z : Str.ofString "" = S [] ∧ Str.ofString "([{" = S [40, 91, 123] ∧ Str.ofString ")]}" = S [41, 93, 125] ∧ Str.ofString "sign" = S Kd.sign.cp := by decide +kernel
  have zb : Str.ofString "(" = S [40] ∧ Str.ofString ")" = S [41] ∧ Str.ofString "[" = S [91] ∧ Str.ofString "]" = S [93] ∧ Str.ofString "{" = S [123] ∧ Str.ofString "}" = S [125] := by decide +kernel
  refine ⟨_, (pss_cons (ps_if (PW.pt (pw_or (pt_cmpR op_ge (pe_op op_add (pe_op op_add (pe_callB call_len_str (by rfl) T.z_len PySem.boot_len (pa_cons (pe_ix ix_list (pv 1) pe_int (fun _ _ => rfl)) pa_nil)) (pe_callB call_len_str (by rfl) T.z_len PySem.boot_len (pa_cons (pe_ix ix_tup (pv 9) pe_int (fun _ _ => rfl)) pa_nil))) pe_int) pe_int (nomark _)) (pw_or1 (pt_cmpR op_gt (pe_ix ix_list (pv 1) pe_int (fun _ _ => rfl)) pe_int (nomark _))))) (pss_one ps_break) pss_nil)
      (pss_cons (ps_set (i := 5) sc__law_line.nd rfl (.inl rfl) (pcall Ol hr (pa_cons (pv 0) (pa_cons (pv 1) (pa_cons (pv 9) (pa_cons (pv 5) pa_nil))))))
      (pss_cons (PS.of (t' := fun D σ H => ∃ (ca ta : Addr) (cl : List (List Nat)) (k : Kd) (w : Wd) (sp : List Nat), σ[4]? = some (some (V.ref ca)) ∧ σ[9]? = some (some (V.ref ta)) ∧ H ca = some (.lst (cl.map fun l => V.str (S l))) ∧ TupAt H ta k.cp w.v sp ∧ cl.length ≤ 6 ∧
          ∀ H' cl', (sp ∉ OPN → cl' = cl) → (sp ∈ OPN → ∃ c, c ∈ CLS ∧ cloV c = some sp ∧ cl' = cl ++ [c]) → H' ca = some (.lst (cl'.map fun l => V.str (S l))) → (∀ a o, a ≠ ca → H a = some o → H' a = some o) → D.nx σ H')
        (ps_if (pt_cmpR (show OpR _ _ (rIn K false) from op_in_seq) (pe_ix ix_tup (pv 9) pe_int (fun _ _ => rfl)) (pe_lst (pa_cons pe_str (pa_cons pe_str (pa_cons pe_str pa_nil)))) (by rfl)) (pss_one (ps_expr (pe_bm PySem.F.plainAttrs_list PySem.F.slot_list_append PySem.F.type_list_append mt_append (pv 4) (pa_cons (pe_ix ix_str pe_str (pe_bm PySem.F.plainAttrs_str PySem.F.slot_str_index PySem.F.type_str_index mt_sindex pe_str (pa_cons (pe_ix ix_tup (pv 9) pe_int (fun _ _ => rfl)) pa_nil)) (fun _ _ => rfl)) pa_nil)))) pss_nil) ?ifo)
      (pss_one (ps_if (pt_cmpR (show OpR _ _ (rIn K false) from op_in_seq) (pe_ix ix_tup (pv 9) pe_int (fun _ _ => rfl)) (pe_lst (pa_cons pe_str (pa_cons pe_str (pa_cons pe_str pa_nil)))) (by rfl)) (pss_one (ps_expr (pe_bm0 PySem.F.plainAttrs_list PySem.F.slot_list_pop PySem.F.type_list_pop mt_pop (pv 4)))) pss_nil))))), ?_⟩
  case ifo =>
    rintro D σ H ⟨ca, ta, cl, k, w, sp, h4, h9, hca, hta, hcl, q⟩
    have hta : H ta = some (.tup [.str (S k.cp), w.v, .str (S sp)]) := hta
    refine ⟨_, h9, ta, _, 2, _, rfl, rfl, SqT.of hta, rfl, by show 3 ≤ sizeLine; omega, fun g hg => ?_⟩
    have hd : ([.str (Str.ofString "("), .str (Str.ofString "["), .str (Str.ofString "{")] : List V) = OPN.map fun l => V.str (S l) := by rw [zb.1, zb.2.2.1, zb.2.2.2.2.1]; rfl
    have s1 := same_new hg (.lst [.str (Str.ofString "("), .str (Str.ofString "["), .str (Str.ofString "{")])
    refine ⟨g, OPN.map fun l => V.str (S l), rfl, .inl (SqL.of (by rw [upd_same, ← hd])), rfl, flat_strs OPN, _, rfl, ?_⟩
    have e2 := in_strs sp OPN
    have hca1 := s1 _ _ hca
    have hta1 := s1 _ _ hta
    by_cases c : sp ∈ OPN
    · refine iteT' (by show (if false = true then !inV _ _ else inV _ _) = true; rw [if_neg Bool.false_ne_true, e2, decide_eq_true c]) ?_
      obtain ⟨i, c1, o1, o2, o3, o4⟩ := opn_at sp c
      rw [z.2.1, z.2.2.1]
      refine ⟨_, h4, .inl ⟨rfl, _, SqL.of hca1⟩, ?_⟩
      refine ⟨rfl, _, h9, ta, _, 2, _, rfl, rfl, SqT.of hta1, rfl, S [40, 91, 123], S sp, i, [], rfl, rfl, o1, S [41, 93, 125], i, c1, rfl, rfl, by rw [S_len]; show 3 ≤ sizeLine; omega, at_S o2, ?_⟩
      refine ⟨ca, _, _, rfl, rfl, hca1, by rw [List.length_map]; omega, ?_⟩
      refine q _ (cl ++ [[c1]]) (fun z => absurd c z) (fun _ => ⟨[c1], o3, o4, rfl⟩) ?_ (fun a o n e => by rw [upd_ne n]; exact s1 a o e)
      rw [upd_same, List.map_append]; rfl
    · refine iteF' (by show (if false = true then !inV _ _ else inV _ _) = false; rw [if_neg Bool.false_ne_true, e2, decide_eq_false c]) ?_
      exact q _ cl (fun _ => rfl) (fun z => absurd z c) hca1 (fun a o _ e => s1 a o e)
  intro D H1 ca ta cl k wd sp bf p sc n v2 v3 y6 y7 y8 I hta hpc hn htot h0 hbf qb qn
  have hta : H1 ta = some (.tup [.str (S k.cp), wd.v, .str (S sp)]) := hta
  obtain ⟨tk, hpc⟩ := hpc
  obtain ⟨hsr, hsl⟩ := tk.row
  obtain ⟨hc1, ht1, esp, _, _⟩ := tk.g.head
  have hrl := I.rl
  have hmk := I.mkl
  have hcur := I.cur
  obtain ⟨sa, h1, h2, _⟩ := I.x.at_
  obtain ⟨d1, d2, d3, d4⟩ := I.dca
  have tb : ta ≠ b := I.x.bag.ne_tup hta
  have tpa : ta ≠ pa := fun e => by rw [e, h1] at hta; cases hta
  have tra : ta ≠ ra := fun e => by rw [e, I.x.rows] at hta; cases hta
  have tma : ta ≠ ma := fun e => by obtain ⟨us, hma, _⟩ := I.x.mks; rw [e, hma] at hta; cases hta
  have tca : ta ≠ ca := fun e => by rw [e, I.hca] at hta; cases hta
  refine ⟨_, rfl, pa, _, 1, .str (S p.cur), rfl, rfl, SqL.of h1, rfl, _, rfl, by rw [S_len]; omega, _, rfl, ta, _, 2, _, rfl, rfl, SqT.of hta, rfl, _, rfl, by rw [S_len]; omega, _, _, rfl, rfl, _, _, rfl, rfl, _, _, rfl, rfl, _, rfl, ite2 (fun c => ?_) (fun c => ?_)⟩
  · have c := of_decide_eq_true c
    rw [S_len, S_len] at c
    exact qb fun e => by obtain ⟨_, _, h3, _⟩ := h0 e; omega
  have c : p.cur.length + sp.length + 3 < 114 := by
    refine Nat.lt_of_not_le fun z => c (decide_eq_true ?_)
    rw [S_len, S_len]; omega
  refine ⟨_, rfl, pa, _, 3, .int (p.tot : Nat), rfl, rfl, SqL.of h1, rfl, _, _, rfl, rfl, _, rfl, ite2 (fun c2 => ?_) (fun c2 => ?_)⟩
  · have c2 := of_decide_eq_true c2
    exact qb fun e => by obtain ⟨_, _, _, h4⟩ := h0 e; omega
  have c2 : p.tot ≤ 4500 := Nat.le_of_not_lt fun z => c2 (decide_eq_true (by omega))
  refine ⟨_, rfl, _, rfl, _, rfl, _, rfl, b, pa, ra, ma, ta, p, k, wd, sp, bf, rfl, I.x, by omega, by omega, by omega, hta, by omega, (by rw [esp]; exact fun e => by cases e), I.bfl, fun H2 g hg3 hg0 hgb x2 f2 => ?_⟩
  have hca2 := f2 ca _ d1 d2 d3 d4 I.hca
  have hta2 := f2 ta _ tb tpa tra tma hta
  refine ⟨ca, ta, cl, k, wd, sp, rfl, rfl, hca2, hta2, I.cll, fun H3 cl' hno hop hca3 hk3 => ?_⟩
  have hta3 := hk3 ta _ tca hta2
  have x3 := x2.keep hca2 I.dca hk3
  have f3 : Fr4 b pa ra ma H H3 := fun a o e1 e2 e3 e4 e => hk3 a o (fun z => by rw [z, I.caf] at e; cases e) (f2 a o e1 e2 e3 e4 (I.f a o e1 e2 e3 e4 e))
  have elen : (p.cur ++ spn g ++ sp).length = p.cur.length + g + sp.length := by rw [List.length_append, List.length_append, List.length_replicate]
  have mkLI : ∀ (H7 : Hp) (cl7 : List (List Nat)) (sc7 : Sc), PB H7 b pa ra ma (p.laid g k wd sp) → H7 ca = some (.lst (cl7.map fun l => V.str (S l))) → Fr4 b pa ra ma H H7 → gatherP ⟨k, wd, p.rows.length + 1, p.cur.length + g + 1⟩ sc = .ok sc7 →
      sc7.marks = sc.marks ++ [⟨k, wd, p.rows.length + 1, p.cur.length + g + 1⟩] → sc7.many = sc.many + 1 → sc7.ind = sc.ind → BrM sc7 cl7 → (∀ c ∈ cl7, c ∈ CLS) → cl7.length ≤ 6 →
      LI H H7 b pa ra ma ca ind0 m0 cl7 cl7 sp (p.laid g k wd sp) { sc7 with behind := p.cur.length + g + sp.length + 1 } (n + 1) := fun H7 cl7 sc7 a1 a2 a3 a4 a5 a6 a7 a8 a9 a10 => by
    refine ⟨a1, a2, I.dca, a3, lay_sem I.L tk.g hg0 hgb a4 a5 (by rw [a6]; omega), a8, ⟨I.ok.rows, ?_, I.ok.bt⟩, ?_, a7.trans I.ind, ?_, a9, a10, ?_, I.rl, by omega, fun _ => by omega, I.caf⟩
    · show (p.cur ++ spn g ++ sp).all rowc = true
      rw [List.all_append, List.all_append, I.ok.cur, spn_row, hsr]; rfl
    · show sc7.many = _
      rw [a6, I.many]
    · show (p.marks ++ [_]).length = _
      rw [List.length_append, I.mkl]; show _ + 1 = _; omega
    · show (p.cur ++ spn g ++ sp).length ≤ 113
      rw [elen]; omega
  have n119 : sc.many ≤ 119 := by rw [I.many]; omega
  have zd : ([.str (Str.ofString ")"), .str (Str.ofString "]"), .str (Str.ofString "}")] : List V) = CLS.map fun l => V.str (S l) := by rw [zb.2.1, zb.2.2.2.1, zb.2.2.2.2.2]; rfl
  refine ⟨_, rfl, ta, _, 2, _, rfl, rfl, SqT.of hta3, rfl, by show 3 ≤ sizeLine; omega, fun g2 hg2 => ?_⟩
  have s4 := same_new hg2 (.lst [.str (Str.ofString ")"), .str (Str.ofString "]"), .str (Str.ofString "}")])
  refine ⟨g2, CLS.map fun l => V.str (S l), rfl, .inl (SqL.of (by rw [upd_same, ← zd])), rfl, flat_strs CLS, _, rfl, ?_⟩
  have e2 := in_strs sp CLS
  have hca4 := s4 _ _ hca3
  have x4 := x3.same s4
  have f4 : Fr4 b pa ra ma H _ := f3.trans (Fr4.same s4)
  rcases hpc with ⟨hp, no, nc⟩ | ⟨hk, hw, ho, hlt⟩ | ⟨hk, hw, hc, c0, hc0⟩
  · refine iteF' (by show (if false = true then !inV _ _ else inV _ _) = false; rw [if_neg Bool.false_ne_true, e2, decide_eq_false nc]) ?_
    obtain ⟨sc7, a4, a5, a6, a7, a8⟩ := gather_plain (m := ⟨k, wd, p.rows.length + 1, p.cur.length + g + 1⟩) n119 I.B hp
    have hcl := hno no
    subst hcl
    exact qn _ _ _ _ (mkLI _ _ sc7 x4 hca4 f4 a4 a5 a6 a7 a8 I.cls I.cll) c2
  · obtain ⟨cx, hcx, hcv, hcl⟩ := hop ho
    have nc : sp ∉ CLS := by
      have : ∀ x ∈ OPN, x ∉ CLS := by decide
      exact this sp ho
    refine iteF' (by show (if false = true then !inV _ _ else inV _ _) = false; rw [if_neg Bool.false_ne_true, e2, decide_eq_false nc]) ?_
    subst hk hw
    obtain ⟨sc7, a4, a5, a6, a7, a8⟩ := gather_open (m := ⟨.sign, .s sp, p.rows.length + 1, p.cur.length + g + 1⟩) n119 I.B rfl ho hcv
    subst hcl
    refine qn _ _ _ _ (mkLI _ _ sc7 x4 hca4 f4 a4 a5 a6 a7 a8 (fun c hc => ?_) (by rw [List.length_append]; show _ + 1 ≤ 6; omega)) c2
    rcases List.mem_append.mp hc with h | h
    · exact I.cls c h
    · rw [List.mem_singleton.mp h]; exact hcx
  · obtain ⟨_, _, no, hcs⟩ := CLS_tok sp hc
    refine iteT' (by show (if false = true then !inV _ _ else inV _ _) = true; rw [if_neg Bool.false_ne_true, e2, decide_eq_true hc]) ?_
    have hcl := hno no
    subst hk hw
    rw [hcl, hc0] at hca4
    have hB := I.B
    rw [hc0] at hB
    obtain ⟨sc7, a4, a5, a6, a7, a8⟩ := gather_close (m := ⟨.sign, .s sp, p.rows.length + 1, p.cur.length + g + 1⟩) n119 hB rfl no hcs
    refine ⟨_, rfl, .inl ⟨rfl, _, SqL.of hca4⟩, ca, _, .str (S sp), rfl, rfl, hca4, ?_, ?_⟩
    · rw [List.map_append, List.length_append, List.length_map]
      show (_ ++ [V.str (S sp)])[c0.length + 1 - 1]? = _
      rw [Nat.add_sub_cancel, List.getElem?_append_right (by rw [List.length_map]; omega), List.length_map, Nat.sub_self]; rfl
    · have ed : ((c0 ++ [sp]).map fun l => V.str (S l)).dropLast = c0.map fun l => V.str (S l) := by
        rw [List.map_append]
        show (_ ++ [V.str (S sp)]).dropLast = _
        rw [List.dropLast_concat]
      rw [ed]
      have hcc := I.cll
      rw [hc0, List.length_append] at hcc
      have kc : ∀ a o, a ≠ ca → upd H3 g2 (.lst [.str (Str.ofString ")"), .str (Str.ofString "]"), .str (Str.ofString "}")]) a = some o → upd (upd H3 g2 (.lst [.str (Str.ofString ")"), .str (Str.ofString "]"), .str (Str.ofString "}")])) ca (.lst (c0.map fun l => V.str (S l))) a = some o := fun a o n e => by rw [upd_ne n]; exact e
      refine qn _ c0 _ _ (mkLI _ _ sc7 (x4.keep hca4 I.dca kc) upd_same ?_ a4 a5 a6 a7 a8 (fun c h => I.cls c (by rw [hc0]; exact List.mem_append_left _ h)) (by omega)) c2
      exact fun a o e1 e2 e3 e4 e => kc a o (fun z => by rw [z, I.caf] at e; cases e) (f4 a o e1 e2 e3 e4 e)
end
end D0
namespace D0
open PySem PySem.Spec PyProof.Rows L2 SX NumText
def dSs : List (List Nat) → List PyData := dS
theorem CLS_ok : ∀ l ∈ CLS, PyData.strOk (S l) = true := by decide +kernel
section
variable {P : Program} {w : World} {K : PySem.W.Frag} {mg : Str → Option Value} {base : Heap}
theorem ok__law_line (T : Txt K w mg) (Ot : OkD P w K mg base CX0 1 "_law_take" p__law_take spTake) (Ow : OkD P w K mg base CX0 3 "_law_word" p__law_word spWord) (Or_ : OkD P w K mg base CX0 3 "_law_row_end" p__law_row_end spRowEnd) (Ob : OkD P w K mg base CX0 4 "_law_broken" p__law_broken spBroken)
    (Ol : OkD P w K mg base CX0 3 "_law_lay" p__law_lay spLay) : OkD P w K mg base CX0 5 "_law_line" p__law_line spLine := by
  refine T.g__law_line.ok sc__law_line (fun vs H Q E h => ?_) (fun f cdv A outer s H vs Q E hr h => ?_)
  · obtain ⟨b, pa, ra, ma, p, sc, many, least, rfl, _⟩ := h; rfl
  obtain ⟨b, pa, ra, ma, p, sc, many, least, rfl, x, L, hmany, hbr, ok, hcur, htot, hrl, hmk, m1, m114, hle, q⟩ := h
  have lim : (1100000 : Nat) ≤ sizeLine := by decide
  have z : Str.ofString "" = S [] ∧ Str.ofString "([{" = S [40, 91, 123] ∧ Str.ofString ")]}" = S [41, 93, 125] ∧ Str.ofString "sign" = S Kd.sign.cp := by decide +kernel
  have zb : Str.ofString "(" = S [40] ∧ Str.ofString ")" = S [41] ∧ Str.ofString "[" = S [91] ∧ Str.ofString "]" = S [93] ∧ Str.ofString "{" = S [123] ∧ Str.ofString "}" = S [125] := by decide +kernel
  refine split_at 3 (fun t => ∀ (H1 : Hp) (ca : Addr) (cl : List (List Nat)) (bf : List Nat) (p' : Pg) (sc' : Sc) (n : Nat) (v2 v3 : V) (y6 y7 y8 y9 : Option V),
      LI H H1 b pa ra ma ca sc.ind p.marks.length cl cl bf p' sc' n → n ≤ 114 → p'.tot ≤ 4661 → (bf = [] → cl ≠ []) →
      t { nx := fun _ H' => Q .non H', rt := Q } [some (.ref b), some (.ref pa), some v2, some v3, some (.ref ca), some (.str (S bf)), y6, y7, y8, y9, none] H1) (line_end T Or_ Ob Ol hr hmk q) (fun t ht hg => ?_)
  obtain ⟨t2, ht2, hg2⟩ := line_rest (P := P) (w := w) (base := base) (f := f) (cdv := cdv) (A := A) (outer := outer) (s := s) (H := H) (E := E) (b := b) (pa := pa) (ra := ra) (ma := ma) (ind0 := sc.ind) T Ol hr hmk
  refine ⟨_, pss_cons (ps_set (i := 4) sc__law_line.nd rfl (.inl rfl) (pe_lst pa_nil)) (pss_cons (ps_set (i := 5) sc__law_line.nd rfl (.inl rfl) pe_str) (pss_cons (ps_for PassesOwn.never rfl (pi_range1 rfl T.z_range (pa_cons (pv 2) pa_nil)) (pg_name (i := 6) sc__law_line.nd rfl (Or.inl rfl)) (pss_cons (ps_set (i := 7) sc__law_line.nd rfl (.inl rfl) (pcall Ot hr (pa_cons (pv 0) (pa_cons pe_int pa_nil))))
      (pss_cons (PS.of (t' := fun D σ H => ∃ (b ca : Addr) (cl : List (List Nat)) (many least turn way : Int) (v1 v5 : V) (y8 y9 y10 : Option V), σ = [some (.ref b), some v1, some (.int many), some (.int least), some (.ref ca), some v5, some (.int turn), some (.int way), y8, y9, y10] ∧ Bag H b ∧ H ca = some (.lst (cl.map fun l => V.str (S l))) ∧
          (∀ c ∈ cl, c ∈ CLS) ∧ 0 ≤ least ∧ least ≤ 1 ∧ 0 ≤ turn ∧ (turn = 0 → cl = []) ∧ cl.length ≤ 6 ∧
          ∀ H' ta k w sp y8', PC cl k w sp → Stp b H H' → ta ≠ b → H ta = none → TupAt H' ta k.cp w.v sp → D.nx [some (.ref b), some v1, some (.int many), some (.int least), some (.ref ca), some v5, some (.int turn), some (.int way), y8', some (.ref ta), y10] H')
        (ps_if (PW.pt (pw_or (PW.pt (pw_and (pt_cmpR op_eq (pv 7) pe_int (nomark _)) (pw_and1 (pt_cmpR op_lt (pe_callB call_len_seq (by rfl) T.z_len PySem.boot_len (pa_cons (pv 4) pa_nil)) pe_int (nomark _))))) (pw_or1 (pt_cmpR op_lt (pv 6) (pv 3) (nomark _))))) (pss_cons (ps_set (i := 8) sc__law_line.nd rfl (.inl rfl) (pe_ix ix_str pe_str (pcall Ot hr (pa_cons (pv 0) (pa_cons pe_int pa_nil))) (fun _ _ => rfl)))
      (pss_one (ps_set (i := 9) sc__law_line.nd rfl (.inl rfl) (pe_tup (pa_cons pe_str (pa_cons (pv 8) (pa_cons (pv 8) pa_nil))))))) (pss_one (ps_if (PW.pt (pw_and (pt_cmpR op_eq (pv 7) pe_int (nomark _)) (pw_and1 (pt_cmpR op_gt (pe_callB call_len_seq (by rfl) T.z_len PySem.boot_len (pa_cons (pv 4) pa_nil)) (pv 3) (nomark _))))) (pss_one (ps_set (i := 9) sc__law_line.nd rfl (.inl rfl) (pe_tup (pa_cons pe_str (pa_cons (pe_ix ix_list (pv 4) (pe_un un_neg pe_int) (fun _ _ => rfl)) (pa_cons (pe_ix ix_list (pv 4) (pe_un un_neg pe_int) (fun _ _ => rfl)) pa_nil)))))) (pss_one (ps_set (i := 9) sc__law_line.nd rfl (.inl rfl) (pcall Ow hr (pa_cons (pv 0) (pa_cons (pe_cmpR op_gt (pv 2) pe_int (nomark _)) pa_nil)))))))) ?ifx)
      (pss_cons (ps_set (i := 5) sc__law_line.nd rfl (.inl rfl) (pcall Ob hr (pa_cons (pv 0) (pa_cons (pv 1) (pa_cons (pv 5) (pa_cons (pe_cmpR (op_neD hr.units) (pv 4) (pe_lst pa_nil) (nomark _)) (pa_cons (pe_op op_add (pe_callB call_len_str (by rfl) T.z_len PySem.boot_len (pa_cons (pe_ix ix_tup (pv 9) pe_int (fun _ _ => rfl)) pa_nil)) pe_int) pa_nil))))))) ht2)))) ht)), ?_⟩
  case ifx =>
    rintro D σ H ⟨b, ca, cl, many, least, turn, way, v1, v5, y8, y9, y10, rfl, hb, hca, hcls, hl0, hl1, ht0, htc, hcl, q⟩
    have three3 : 3 ≤ sizeLine := by omega
    have opener : ∀ {D : Ends}, cl.length < 6 → (∀ H' ta k w sp y8', PC cl k w sp → Stp b H H' → ta ≠ b → H ta = none → TupAt H' ta k.cp w.v sp → D.nx [some (.ref b), some v1, some (.int many), some (.int least), some (.ref ca), some v5, some (.int turn), some (.int way), y8', some (.ref ta), y10] H') →
        tSeq (tAsg (tOp rIxS (tC (.str (Str.ofString "([{"))) (tCall spTake [] E0 (tCons (tVar 0) (tCons (tC (.int 3)) tNil)))) (gName 8)) (tAsg (tTup (tCons (tC (.str (Str.ofString "sign"))) (tCons (tVar 8) (tCons (tVar 8) tNil)))) (gName 9)) D
          [some (.ref b), some v1, some (.int many), some (.int least), some (.ref ca), some v5, some (.int turn), some (.int way), y8, y9, y10] H := fun hlt q => by
      refine ⟨_, rfl, b, 3, rfl, hb, by decide, by decide, fun r H2 r0 r1 st2 => ?_⟩
      obtain ⟨k, rfl⟩ : ∃ k : Nat, r = (k : Int) := ⟨r.toNat, by omega⟩
      have gk : ([40, 91, 123] : List Nat)[k]? = some (([40, 91, 123] : List Nat)[k]'(by simp; omega)) := List.getElem?_eq_getElem (by simp; omega)
      generalize ([40, 91, 123] : List Nat)[k]'_ = c1 at gk
      have hc1 : [c1] ∈ OPN := by
        have h4 : ∀ x ∈ ([40, 91, 123] : List Nat), [x] ∈ OPN := by decide
        exact h4 c1 (List.mem_of_getElem? gk)
      have hbr : ∀ s ∈ OPN, s ∈ BRL := by decide
      refine ⟨S [40, 91, 123], _, c1, by rw [← z.2.1], rfl, by rw [S_len]; show 3 ≤ sizeLine; omega, at_S gk, ?_⟩
      refine ⟨_, rfl, _, rfl, three3, fun t ht => ?_⟩
      have nb := st2.b1.ne ht
      refine q _ t .sign (.s [c1]) [c1] _ ⟨.inr ⟨hbr _ hc1, rfl, rfl⟩, .inr (.inl ⟨rfl, rfl, hc1, hlt⟩)⟩ (st2.trans (Stp.new st2.b1 ht)) nb (st2.none nb ht) ?_
      show upd H2 t _ t = _
      rw [upd_same, z.2.2.2]; rfl
    have other : ∀ {D : Ends}, (∀ H' ta k w sp y8', PC cl k w sp → Stp b H H' → ta ≠ b → H ta = none → TupAt H' ta k.cp w.v sp → D.nx [some (.ref b), some v1, some (.int many), some (.int least), some (.ref ca), some v5, some (.int turn), some (.int way), y8', some (.ref ta), y10] H') →
        tAsg (tCall spWord [] E0 (tCons (tVar 0) (tCons (tOp (rI0 fun i j => V.bl (decide (j < i))) (tVar 2) (tC (.int 20))) tNil))) (gName 9) D
          [some (.ref b), some v1, some (.int many), some (.int least), some (.ref ca), some v5, some (.int turn), some (.int way), y8, y9, y10] H := fun q =>
      ⟨_, rfl, _, rfl, _, _, rfl, rfl, b, _, rfl, hb, fun k w sp H' a hp st na hn hA => q H' a k w sp _ (piece_pc hp) st na hn hA⟩
    refine ⟨_, rfl, rfl, _, rfl, ?_⟩
    refine (fun hC => ite2 (fun c => ⟨_, rfl, ca, _, rfl, .inl (SqL.of hca), _, _, rfl, rfl, _, rfl, ite2 (fun c2 => ?g1) (fun _ => hC)⟩) (fun _ => hC)) ?hc
    case g1 =>
      have c2 := of_decide_eq_true c2
      rw [List.length_map] at c2
      exact iteT (opener (by omega) q)
    refine ⟨_, rfl, _, rfl, _, _, rfl, rfl, _, rfl, ite2 (fun c => ?_) (fun c => ?_)⟩
    · have c := of_decide_eq_true c
      have e : turn = 0 := by omega
      exact opener (by rw [htc e]; decide) q
    refine ⟨_, rfl, rfl, _, rfl, ?_⟩
    refine (fun hC => ite2 (fun c => ⟨_, rfl, ca, _, rfl, .inl (SqL.of hca), _, rfl, _, _, rfl, rfl, _, rfl, ite2 (fun c2 => ?g2) (fun _ => hC)⟩) (fun _ => hC)) ?hd
    case g2 =>
      have c2 := of_decide_eq_true c2
      rw [List.length_map] at c2
      have hne : cl ≠ [] := fun e => by rw [e] at c2; simp at c2; omega
      obtain ⟨c0, cx, rfl⟩ : ∃ c0 cx, cl = c0 ++ [cx] := ⟨cl.dropLast, cl.getLast hne, (List.dropLast_concat_getLast hne).symm⟩
      have hcx := hcls cx (List.mem_append_right _ List.mem_cons_self)
      obtain ⟨tk, _⟩ := CLS_tok cx hcx
      have hat : atI ((c0 ++ [cx]).map fun l => V.str (S l)) (-1) = some (.str (S cx)) := by rw [List.map_append]; exact atI_last _ _
      refine ⟨_, rfl, _, rfl, ca, _, -1, _, rfl, rfl, SqL.of hca, hat, _, rfl, _, rfl, ca, _, -1, _, rfl, rfl, SqL.of hca, hat, three3, fun t ht => ?_⟩
      have nb := hb.ne ht
      refine q _ t .sign (.s cx) cx _ ⟨tk, .inr (.inr ⟨rfl, rfl, hcx, c0, rfl⟩)⟩ (Stp.new hb ht) nb ht ?_
      show upd H t _ t = _
      rw [upd_same, z.2.2.2]; rfl
    case hd => exact other q
  refine ⟨by show 0 ≤ sizeLine; omega, fun ca hca => ?_⟩
  rw [z.1]
  refine ⟨_, rfl, (many : Int), rfl, by omega, by omega, ?_⟩
  have s0 := same_new hca (.lst [])
  obtain ⟨sa, h1, _⟩ := x.at_
  obtain ⟨us, h3, _⟩ := x.mks
  refine for_range (lo := 0) (n := (many : Int).toNat) (fun i σ H' => ∃ (bf : List Nat) (p' : Pg) (sc' : Sc) (cl : List (List Nat)) (y6 y7 y8 y9 : Option V), σ = [some (.ref b), some (.ref pa), some (.int (many : Nat)), some (.int (least : Nat)), some (.ref ca), some (.str (S bf)), y6, y7, y8, y9, none] ∧
      LI H H' b pa ra ma ca sc.ind p.marks.length cl cl bf p' sc' i ∧ p'.tot ≤ 4500 ∧ (i = 0 → cl = [] ∧ bf = [] ∧ p'.cur.length ≤ 60) ∧ (bf = [] → i = 0))
    ⟨[], p, sc, [], none, none, none, none, rfl, ⟨x.same s0, upd_same, ⟨x.bag.ne hca, (ne_of_none h1 hca).symm, (ne_of_none x.rows hca).symm, (ne_of_none h3 hca).symm⟩, Fr4.same s0, L, (by show [] = sc.br.map _; rw [hbr]; rfl), ok, hmany, rfl, rfl, (fun c hc => by cases hc), by decide, by omega, hrl, by decide, fun e => absurd rfl e, hca⟩, htot, fun _ => ⟨rfl, rfl, hcur⟩, fun _ => rfl⟩ ?_ ?_
  · rintro i σ H2 hi ⟨bf, p', sc', cl, y6, y7, y8, y9, rfl, I, htot, h0, hbf⟩
    have hi : i < many := by omega
    refine ⟨_, rfl, b, 8, rfl, I.x.bag, by decide, by decide, fun r H3 r0 r1 st => ?_⟩
    have x3 := I.x.stp st
    have hca3 := st.keep ca _ I.dca.1 I.hca
    refine ⟨b, ca, cl, many, least, _, r, .ref pa, .str (S bf), y8, y9, none, rfl, x3.bag, hca3, I.cls, by omega, by omega, by omega, (fun e => (h0 (by omega)).1), I.cll, fun H4 ta k w sp y8' hpc st4 nab hnone hA => ?_⟩
    have hta : H4 ta = some (.tup [.str (S k.cp), w.v, .str (S sp)]) := hA
    obtain ⟨hsr, hsl⟩ := hpc.1.row
    obtain ⟨hc1, ht1, esp, _, _⟩ := hpc.1.g.head
    have x4 := x3.stp st4
    obtain ⟨d1, d2, d3, d4⟩ := I.dca
    have hca4 := st4.keep ca _ d1 hca3
    refine ⟨_, rfl, _, rfl, _, rfl, _, rfl, by show 0 ≤ sizeLine; omega, fun g0 hg0 => ?_⟩
    have s5 := same_new hg0 (.lst [])
    have x5 := x4.same s5
    have hca5 := s5 _ _ hca4
    have hta5 := s5 _ _ hta
    refine ⟨.list (dS cl), .list [], .lst (SqL.of hca5) (dS_dp _), .lst (SqL.of upd_same) .nil, dS_shaped _ (fun l hl => CLS_ok l (I.cls l hl)), by decide, ?_⟩
    rw [dS_nil]
    have f5 : Fr4 b pa ra ma H2 _ := (Fr4.stp st).trans ((Fr4.stp st4).trans (Fr4.same s5))
    have hrl' := I.rl
    have hmk' := I.mkl
    have hcur' := I.cur
    have tb : ta ≠ b := nab
    obtain ⟨sa5, h15, _⟩ := x5.at_
    obtain ⟨us5, h35, _⟩ := x5.mks
    have tpa : ta ≠ pa := fun e => by rw [e, h15] at hta5; cases hta5
    have tra : ta ≠ ra := fun e => by rw [e, x5.rows] at hta5; cases hta5
    have tma : ta ≠ ma := fun e => by rw [e, h35] at hta5; cases hta5
    have qn : ∀ (y6 y7 y8 : Option V), ∀ H' cl' p2 sc2, LI H H' b pa ra ma ca sc.ind p.marks.length cl' cl' sp p2 sc2 (i + 1) → p2.tot ≤ 4500 → ∃ (bf : List Nat) (p' : Pg) (sc' : Sc) (cl : List (List Nat)) (y6' y7' y8' y9' : Option V), [some (V.ref b), some (V.ref pa), some (V.int (many : Nat)), some (V.int (least : Nat)), some (V.ref ca), some (V.str (S sp)), y6, y7, y8, some (V.ref ta), none] = [some (.ref b), some (.ref pa), some (.int (many : Nat)), some (.int (least : Nat)), some (.ref ca), some (.str (S bf)), y6', y7', y8', y9', none] ∧
        LI H H' b pa ra ma ca sc.ind p.marks.length cl cl bf p' sc' (i + 1) ∧ p'.tot ≤ 4500 ∧ (i + 1 = 0 → cl = [] ∧ bf = [] ∧ p'.cur.length ≤ 60) ∧ (bf = [] → i + 1 = 0) := fun y6 y7 y8 H' cl' p2 sc2 I2 ht2 =>
      ⟨sp, p2, sc2, cl', _, _, _, _, rfl, I2, ht2, fun e => absurd e (by omega), fun e => by rw [esp] at e; cases e⟩
    refine ⟨_, rfl, ta, _, 2, _, rfl, rfl, SqT.of hta5, rfl, _, rfl, by rw [S_len]; omega, _, _, rfl, rfl, ?_⟩
    refine ⟨b, pa, ra, ma, p', bf, !decide (cl = []), sp.length + 3, by rw [S_len]; rfl, x5, by omega, by omega, by omega, fun H6 hw x6 f6 => ?_, fun hin H6 tl bl g g1 g2 g3 g4 g5 g6 x6 f6 => ?_⟩
    · have I6 : LI H H6 b pa ra ma ca sc.ind p.marks.length cl cl bf p' sc' i := ⟨x6, f6 ca _ d1 d2 d3 d4 hca5, I.dca, I.f.trans (f5.trans f6), I.L, I.B, I.ok, I.many, I.ind, I.mkl, I.cls, I.cll, I.cur, I.rl, I.bfl, I.nz, I.caf⟩
      refine hg2 _ H6 ca ta cl k w sp bf p' sc' i _ _ _ _ _ I6 (f6 ta _ tb tpa tra tma hta5) hpc (by omega) (by omega) (fun e => ⟨(h0 e).1, (h0 e).2.1, (h0 e).2.2, htot⟩) (fun e => .inl (hbf e)) (fun ne => ?_) (qn _ _ _)
      exact hg H6 ca cl bf p' sc' i _ _ _ _ _ _ I6 (by omega) (by omega) (fun e => absurd (hbf e) ne)
    · have hcl : cl ≠ [] := fun e => by rw [decide_eq_true e] at hin; cases hin
      have hi0 : i ≠ 0 := fun e => hcl (h0 e).1
      have hbr : sc'.br ≠ [] := fun e => by
        have hB : cl.reverse.map cloV = sc'.br.map fun m => some (wl m.w) := I.B
        rw [e] at hB
        have := congrArg List.length hB
        rw [List.length_map, List.length_reverse] at this
        exact hcl (List.length_eq_zero_iff.mp this)
      obtain ⟨o1, o2, o3⟩ := ended_ok I.ok hcur' g1 g2 g3 g4 g5 hrl'
      have I6 : LI H H6 b pa ra ma ca sc.ind p.marks.length cl cl [] ((p'.ended tl bl).setCur (spn g)) sc' i :=
        ⟨x6, f6 ca _ d1 d2 d3 d4 hca5, I.dca, I.f.trans (f5.trans f6), broken_sem I.L hbr (by rw [I.many]; exact hi0) g1 (fun r hr => (g5 r hr).1), I.B, ⟨o1.rows, spn_row g, o1.bt⟩, I.many, I.ind, I.mkl, I.cls, I.cll, (by show (spn g).length ≤ 113; rw [List.length_replicate]; omega), o3, (by show 0 ≤ 100; decide), I.nz, I.caf⟩
      have ht6 : ((p'.ended tl bl).setCur (spn g)).tot ≤ 4661 := by show (p'.ended tl bl).tot ≤ 4661; omega
      refine hg2 _ H6 ca ta cl k w sp [] _ sc' i _ _ _ _ _ I6 (f6 ta _ tb tpa tra tma hta5) hpc (by omega) ht6 (fun e => absurd e hi0) (fun _ => .inr hcl) (fun ne => ?_) (qn _ _ _)
      exact hg H6 ca cl [] _ sc' i _ _ _ _ _ _ I6 (by omega) ht6 (fun _ => hcl)
  · rintro σ H2 ⟨bf, p', sc', cl, y6, y7, y8, y9, rfl, I, htot, h0, hbf⟩
    exact hg H2 ca cl bf p' sc' _ _ _ y6 y7 y8 y9 I (by omega) (by omega) (fun e => absurd (hbf e) (by omega))
end
end D0
namespace D0
open PySem PySem.Spec PyProof.Rows L2 SX NumText
def wv (ws : List Nat) : List V := ws.map fun n => V.int (n : Nat)
theorem PB.keepW {H H' : Hp} {b pa ra ma wa : Addr} {p : Pg} {ws : List Nat} (x : PB H b pa ra ma p) (hwa : H wa = some (.lst (wv ws))) (h0 : ws.head? = some 0) (hs : p.sl ≠ 0 ∨ ws = [0]) (d : wa ≠ b ∧ wa ≠ pa ∧ wa ≠ ra ∧ wa ≠ ma) (k : ∀ a o, a ≠ wa → H a = some o → H' a = some o) : PB H' b pa ra ma p := by
  obtain ⟨sa, h1, h2, d1, d2, d3, d4⟩ := x.at_
  obtain ⟨us, h3, h4⟩ := x.mks
  obtain ⟨bc, bs, bn, hb⟩ := x.bag
  obtain ⟨c1, c2, c3, c4⟩ := d
  have ns : sa ≠ wa := fun e => by
    rw [e, hwa] at h2
    have h2 := HO.lst.inj (Option.some.inj h2)
    rcases hs with hs | hs
    · cases ws with
      | nil => cases h0
      | cons a r =>
        have e0 : a = 0 := Option.some.inj h0
        have h2 : V.int (a : Nat) :: wv r = V.int (p.sl : Nat) :: [V.int (p.sc : Nat)] := h2
        have := V.int.inj (List.cons.inj h2).1
        omega
    · rw [hs] at h2
      have h2 := congrArg List.length h2
      cases h2
  exact ⟨⟨bc, bs, bn, k _ _ c1.symm hb⟩, ⟨sa, k _ _ c2.symm h1, k _ _ ns h2, d1, d2, d3, d4⟩, k _ _ c3.symm x.rows, ⟨us, k _ _ c4.symm h3, h4.mono fun a t e => k a _ (fun z => by rw [z, hwa] at e; cases e) e⟩, x.d⟩
def Pg.mk1 (p : Pg) (ms : List Mk) : Pg := { p with marks := p.marks ++ ms }
/-- a mark behind the marks -/
theorem PB.mark {H : Hp} {b pa ra ma t : Addr} {p : Pg} {us : List V} {m : Mk} (x : PB H b pa ra ma p) (ht : H t = some (.tup m.vs)) (hma : H ma = some (.lst us)) : PB (upd H ma (.lst (us ++ [.ref t]))) b pa ra ma (p.mk1 [m]) := by
  obtain ⟨sa, h1, h2, d1, d2, d3, d4⟩ := x.at_
  obtain ⟨us', h3, h4⟩ := x.mks
  have : us' = us := by rw [hma] at h3; exact (HO.lst.inj (Option.some.inj h3)).symm
  subst this
  obtain ⟨bc, bs, bn, hb⟩ := x.bag
  obtain ⟨e1, e2, e3, e4, e5, e6⟩ := x.d
  have k : ∀ a o, a ≠ ma → H a = some o → upd H ma (.lst (us' ++ [.ref t])) a = some o := fun a o n e => by rw [upd_ne n]; exact e
  refine ⟨⟨bc, bs, bn, k _ _ e3 hb⟩, ⟨sa, k _ _ e5 h1, k _ _ d3 h2, d1, d2, d3, d4⟩, k _ _ e6 x.rows, ⟨us' ++ [.ref t], upd_same, ?_⟩, x.d⟩
  have kt : ∀ a t', H a = some (.tup t') → upd H ma (.lst (us' ++ [.ref t])) a = some (.tup t') := fun a t' e => k a _ (fun z => by rw [z, h3] at e; cases e) e
  exact Mks.snoc (h4.mono kt) (kt _ _ ht)
def Fr5 (b pa ra ma wa : Addr) (H H' : Hp) : Prop := ∀ a o, a ≠ b → a ≠ pa → a ≠ ra → a ≠ ma → a ≠ wa → H a = some o → H' a = some o
theorem Fr5.trans {b pa ra ma wa : Addr} {H H1 H2 : Hp} (x : Fr5 b pa ra ma wa H H1) (y : Fr5 b pa ra ma wa H1 H2) : Fr5 b pa ra ma wa H H2 := fun a o h1 h2 h3 h4 h5 e => y a o h1 h2 h3 h4 h5 (x a o h1 h2 h3 h4 h5 e)
theorem Fr4.to5 {b pa ra ma wa : Addr} {H H' : Hp} (x : Fr4 b pa ra ma H H') : Fr5 b pa ra ma wa H H' := fun a o h1 h2 h3 h4 _ e => x a o h1 h2 h3 h4 e
def indentM (ln col : Nat) : Mk := ⟨.indent, .s [], ln, col⟩
/-- what becomes of the widths, the marks for it -/
def MgR (ln : Nat) (ws : List Nat) (way : Int) (ws' : List Nat) (ms : List Mk) : Prop :=
  (∃ n : Nat, way = 2 ∧ ws.length < 11 ∧ ws.getLastD 0 < n ∧ n ≤ ws.getLastD 0 + 4 ∧ ws' = ws ++ [n] ∧ ms = [indentM ln (n + 1)]) ∨
  (∃ rest : List Nat, (way ≠ 3 → rest = []) ∧ ws = ws' ++ rest ∧ ws' ≠ [] ∧ ms = List.replicate rest.length (dedent ln (ws'.getLastD 0 + 1)))
def spMargin : Sp := fun vs H Q _ => ∃ (b pa ra ma wa : Addr) (p : Pg) (ws : List Nat) (way : Int), vs = [.ref b, .ref pa, .ref wa, .int way] ∧ PB H b pa ra ma p ∧ p.rows.length ≤ 9000 ∧ p.marks.length ≤ 90000 ∧ H wa = some (.lst (wv ws)) ∧ ws.head? = some 0 ∧ ws.length ≤ 11 ∧ (∀ n ∈ ws, n ≤ 100) ∧ (p.sl ≠ 0 ∨ ws = [0]) ∧
  (wa ≠ b ∧ wa ≠ pa ∧ wa ≠ ra ∧ wa ≠ ma) ∧ ∀ H' ws' ms, MgR (p.rows.length + 1) ws way ws' ms → PB H' b pa ra ma ((p.mk1 ms).setCur (spn (ws'.getLastD 0))) → H' wa = some (.lst (wv ws')) → Fr5 b pa ra ma wa H H' → Q .non H'
theorem wv_last {ws : List Nat} (h : ws ≠ []) : atI (wv ws) (-1) = some (.int (ws.getLastD 0 : Nat)) := by
  obtain ⟨a, n, rfl⟩ : ∃ a n, ws = a ++ [n] := ⟨ws.dropLast, ws.getLast h, (List.dropLast_concat_getLast h).symm⟩
  have e2 : (a ++ [n]).getLastD 0 = n := by simp
  rw [e2]
  have : wv (a ++ [n]) = wv a ++ [V.int (n : Nat)] := by unfold wv; rw [List.map_append]; rfl
  rw [this]; exact atI_last _ _
theorem last_app (a : List Nat) (n : Nat) : (a ++ [n]).getLastD 0 = n := by simp
section
variable {P : Program} {w : World} {K : PySem.W.Frag} {mg : Str → Option Value} {base : Heap}
theorem ok__law_margin (T : Txt K w mg) (Ot : OkD P w K mg base CX0 1 "_law_take" p__law_take spTake) : OkD P w K mg base CX0 2 "_law_margin" p__law_margin spMargin := by
  refine T.g__law_margin.ok sc__law_margin (fun vs H Q E h => ?_) (fun f cdv A outer s H vs Q E hr h => ?_)
  · obtain ⟨b, pa, ra, ma, wa, p, ws, way, rfl, _⟩ := h; rfl
  obtain ⟨b, pa, ra, ma, wa, p, ws, way, rfl, x, hrl, hmk, hwa, hw0, hwl, hwn, hsl, dwa, q⟩ := h
  have lim : (1100000 : Nat) ≤ sizeLine := by decide
  have z : Str.ofString "indent" = S Kd.indent.cp ∧ Str.ofString "dedent" = S Kd.dedent.cp ∧ Str.ofString "" = S [] ∧ Str.ofString " " = S [32] := by decide +kernel
  have sp1 : (S [32]).length = 1 := rfl
  have wne : ws ≠ [] := fun e => by rw [e] at hw0; cases hw0
  refine split_at 3 (fun t => ∀ (ws' : List Nat) (ms : List Mk) (H1 : Hp) (y5 y6 : Option V), MgR (p.rows.length + 1) ws way ws' ms → ws' ≠ [] → ws'.getLastD 0 ≤ 200 → PB H1 b pa ra ma (p.mk1 ms) → H1 wa = some (.lst (wv ws')) → Fr5 b pa ra ma wa H H1 →
    t { nx := fun _ H' => Q .non H', rt := Q } [some (.ref b), some (.ref pa), some (.ref wa), some (.int way), some (.int ((p.rows.length : Nat) + 1 : Int)), y5, y6] H1) ?_ (fun t ht hg => ?_)
  · refine ⟨_, (pss_one (ps_asg (pe_op op_mulS pe_str (pe_ix ix_list (pv 2) (pe_un un_neg pe_int) (fun _ _ => rfl))) (pg_sub (pv 1) pe_int set_list))), ?_⟩
    intro ws' ms H1 y5 y6 hR hne hl x1 hwa1 f1
    rw [z.2.2.2]
    refine ⟨_, rfl, _, rfl, wa, _, -1, _, rfl, rfl, SqL.of hwa1, wv_last hne, _, _, rfl, rfl, mul_ok sp1 (by omega) (by omega), ?_⟩
    rw [spaces]
    obtain ⟨l1, h1, hl1, hat1, x2, f2⟩ := x1.upd_cur (spn (ws'.getLastD 0))
    refine ⟨_, rfl, pa, _, 1, 1, rfl, rfl, h1, by rw [hl1]; rfl, ?_⟩
    refine q _ ws' ms hR x2 ?_ (f1.trans f2.to5)
    rw [upd_ne dwa.2.1]; exact hwa1
  refine ⟨_, pss_cons (ps_set (i := 4) sc__law_margin.nd rfl (.inl rfl) (pe_op op_add (pe_callB call_len_seq (by rfl) T.z_len PySem.boot_len (pa_cons (pe_ix ix_list (pv 1) pe_int (fun _ _ => rfl)) pa_nil)) pe_int))
    (pss_cons (ps_if (PW.pt (pw_and (pt_cmpR op_eq (pv 3) pe_int (nomark _)) (pw_and1 (pt_cmpR op_lt (pe_callB call_len_seq (by rfl) T.z_len PySem.boot_len (pa_cons (pv 2) pa_nil)) pe_int (nomark _))))) (pss_cons (ps_expr (pe_bm PySem.F.plainAttrs_list PySem.F.slot_list_append PySem.F.type_list_append mt_append (pv 2) (pa_cons (pe_op op_add (pe_op op_add (pe_ix ix_list (pv 2) (pe_un un_neg pe_int) (fun _ _ => rfl)) pe_int) (pcall Ot hr (pa_cons (pv 0) (pa_cons pe_int pa_nil)))) pa_nil)))
      (pss_one (ps_expr (pe_bm PySem.F.plainAttrs_list PySem.F.slot_list_append PySem.F.type_list_append mt_append (pe_ix ix_list (pv 1) pe_int (fun _ _ => rfl)) (pa_cons (pe_tup (pa_cons pe_str (pa_cons pe_str (pa_cons (pv 4) (pa_cons (pe_op op_add (pe_ix ix_list (pv 2) (pe_un un_neg pe_int) (fun _ _ => rfl)) pe_int) pa_nil))))) pa_nil))))) pss_nil)
    (pss_cons (ps_if (pt_cmpR op_eq (pv 3) pe_int (nomark _)) (pss_cons (ps_set (i := 5) sc__law_margin.nd rfl (.inl rfl) (pcall Ot hr (pa_cons (pv 0) (pa_cons (pe_callB call_len_seq (by rfl) T.z_len PySem.boot_len (pa_cons (pv 2) pa_nil)) pa_nil))))
      (pss_cons (ps_for PassesOwn.never rfl (pi_range1 rfl T.z_range (pa_cons (pv 5) pa_nil)) (pg_name (i := 6) sc__law_margin.nd rfl (Or.inl rfl)) (pss_one (ps_expr (pe_bm0 PySem.F.plainAttrs_list PySem.F.slot_list_pop PySem.F.type_list_pop mt_pop (pv 2)))))
      (pss_one (ps_for PassesOwn.never rfl (pi_range1 rfl T.z_range (pa_cons (pv 5) pa_nil)) (pg_name (i := 6) sc__law_margin.nd rfl (Or.inl rfl)) (pss_one (ps_expr (pe_bm PySem.F.plainAttrs_list PySem.F.slot_list_append PySem.F.type_list_append mt_append (pe_ix ix_list (pv 1) pe_int (fun _ _ => rfl)) (pa_cons (pe_tup (pa_cons pe_str (pa_cons pe_str (pa_cons (pv 4) (pa_cons (pe_op op_add (pe_ix ix_list (pv 2) (pe_un un_neg pe_int) (fun _ _ => rfl)) pe_int) pa_nil))))) pa_nil)))))))) pss_nil) ht)), ?_⟩
  obtain ⟨sa, h1, h2, d1, d2, d3, d4⟩ := x.at_
  refine ⟨_, rfl, pa, _, 0, .ref ra, rfl, rfl, SqL.of h1, rfl, ra, _, rfl, .inl (SqL.of x.rows), _, _, rfl, rfl, ?_⟩
  rw [List.length_map]
  have hm1 : PB H b pa ra ma (p.mk1 []) := by
    have : p.mk1 [] = p := by unfold Pg.mk1; rw [List.append_nil]
    rw [this]; exact x
  have hlast : ws.getLastD 0 ≤ 100 := by
    obtain ⟨a, n, rfl⟩ : ∃ a n, ws = a ++ [n] := ⟨ws.dropLast, ws.getLast wne, (List.dropLast_concat_getLast wne).symm⟩
    rw [last_app]; exact hwn n (List.mem_append_right _ List.mem_cons_self)
  refine ⟨_, rfl, rfl, _, rfl, ?_⟩
  refine (fun hC => ite2 (fun c => ⟨_, rfl, wa, _, rfl, .inl (SqL.of hwa), _, _, rfl, rfl, _, rfl, ite2 (fun c2 => ?g1) (fun _ => hC)⟩) (fun _ => hC)) ?hc
  case g1 =>
    have c : way = 2 := V.int.inj (of_decide_eq_true c)
    have c2 := of_decide_eq_true c2
    have c2 : ws.length < 11 := by unfold wv at c2; rw [List.length_map] at c2; omega
    subst c
    refine ⟨_, rfl, .inl ⟨rfl, _, SqL.of hwa⟩, _, rfl, _, rfl, wa, _, -1, _, rfl, rfl, SqL.of hwa, wv_last wne, _, _, rfl, rfl, _, rfl, b, 4, rfl, x.bag, by decide, by decide, fun r H2 r0 r1 st2 => ?_⟩
    have hwa2 := st2.keep wa _ dwa.1 hwa
    have x2 := x.stp st2
    refine ⟨_, _, rfl, rfl, wa, _, _, rfl, rfl, hwa2, by unfold wv; rw [List.length_map]; omega, ?_⟩
    obtain ⟨k, rfl⟩ : ∃ k : Nat, r = (k : Int) := ⟨r.toNat, by omega⟩
    have ew : wv ws ++ [V.int ((ws.getLastD 0 : Nat) + 1 + (k : Int))] = wv (ws ++ [ws.getLastD 0 + 1 + k]) := by
      unfold wv; rw [List.map_append]
      show _ = _ ++ [V.int ((ws.getLastD 0 + 1 + k : Nat) : Int)]
      rw [show ((ws.getLastD 0 + 1 + k : Nat) : Int) = (ws.getLastD 0 : Nat) + 1 + (k : Int) by omega]
    rw [ew]
    generalize hn : ws.getLastD 0 + 1 + k = n
    have kW : ∀ a o, a ≠ wa → H2 a = some o → upd H2 wa (.lst (wv (ws ++ [n]))) a = some o := fun a o n e => by rw [upd_ne n]; exact e
    have x3 := x2.keepW hwa2 hw0 hsl dwa kW
    have hwa3 : upd H2 wa (.lst (wv (ws ++ [n]))) wa = some (.lst (wv (ws ++ [n]))) := upd_same
    have f3 : Fr5 b pa ra ma wa H (upd H2 wa (.lst (wv (ws ++ [n])))) := fun a o h1 _ _ _ h5 e => kW a o h5 (st2.keep a o h1 e)
    generalize upd H2 wa _ = H3 at x3 hwa3 f3
    obtain ⟨sa3, p3, _⟩ := x3.at_
    obtain ⟨us, hma, hms⟩ := x3.mks
    refine ⟨_, rfl, pa, _, 2, .ref ma, rfl, rfl, SqL.of p3, rfl, .inl ⟨rfl, _, SqL.of hma⟩, _, rfl, _, rfl, _, rfl, wa, _, -1, _, rfl, rfl, SqL.of hwa3, wv_last (by simp), _, _, rfl, rfl, by show 4 ≤ sizeLine; omega, fun t ht => ?_⟩
    rw [last_app]
    have s4 := same_new ht (.tup [.str (Str.ofString "indent"), .str (Str.ofString ""), .int ((p.rows.length : Nat) + 1 : Int), .int ((n : Nat) + 1 : Int)])
    refine ⟨ma, us, _, rfl, rfl, s4 _ _ hma, by rw [hms.1]; omega, ?_⟩
    have x4 := (x3.same s4).mark (t := t) (m := indentM (p.rows.length + 1) (n + 1)) (by rw [upd_same, z.1, z.2.2.1]; rfl) (s4 _ _ hma)
    refine ⟨_, rfl, rfl, _, rfl, iteF' (by decide) ?_⟩
    refine hg (ws ++ [n]) [indentM (p.rows.length + 1) (n + 1)] _ _ _ (.inl ⟨n, rfl, c2, by omega, by omega, rfl, rfl⟩) (by simp) (by rw [last_app]; omega) x4 ?_ ?_
    · rw [upd_ne dwa.2.2.2]; exact s4 _ _ hwa3
    · exact f3.trans fun a o _ _ _ h4 _ e => by rw [upd_ne h4]; exact s4 _ _ e
  refine ⟨_, rfl, rfl, _, rfl, ite2 (fun c => ?_) (fun c => ?_)⟩
  rotate_left
  · exact hg ws [] H _ _ (.inr ⟨[], fun _ => rfl, (List.append_nil _).symm, wne, rfl⟩) wne (by omega) hm1 hwa (fun a o _ _ _ _ _ e => e)
  have c : way = 3 := V.int.inj (of_decide_eq_true c)
  subst c
  have hwv : (wv ws).length = ws.length := by unfold wv; rw [List.length_map]
  have hwpos : 0 < ws.length := List.length_pos_iff.mpr wne
  refine ⟨_, rfl, _, rfl, wa, _, rfl, .inl (SqL.of hwa), b, (ws.length : Int), by rw [hwv]; rfl, x.bag, by omega, by omega, fun r H2 r0 r1 st2 => ?_⟩
  obtain ⟨back, rfl⟩ : ∃ k : Nat, r = (k : Int) := ⟨r.toNat, by omega⟩
  have hback : back < ws.length := by omega
  have hwa2 := st2.keep wa _ dwa.1 hwa
  have x2 := x.stp st2
  refine ⟨_, rfl, (back : Int), rfl, by omega, by omega, ?_⟩
  have f2 : Fr5 b pa ra ma wa H H2 := (Fr4.stp st2).to5
  refine for_range (lo := 0) (n := (back : Int).toNat) (fun i σ H' => ∃ y6, σ = [some (.ref b), some (.ref pa), some (.ref wa), some (.int 3), some (.int ((p.rows.length : Nat) + 1 : Int)), some (.int (back : Nat)), y6] ∧ i ≤ back ∧ PB H' b pa ra ma p ∧ H' wa = some (.lst (wv (ws.take (ws.length - i)))) ∧ Fr5 b pa ra ma wa H H')
    ⟨none, rfl, Nat.zero_le _, x2, by rw [Nat.sub_zero, List.take_length]; exact hwa2, f2⟩ ?_ ?_
  · rintro i σ H3 hi ⟨y6, rfl, _, x3, hwa3, f3⟩
    have hi : i < back := by omega
    have hlen : (ws.take (ws.length - i)).length = ws.length - i := by rw [List.length_take]; omega
    obtain ⟨a, n, ea⟩ : ∃ a n, ws.take (ws.length - i) = a ++ [n] := by
      have hne : ws.take (ws.length - i) ≠ [] := fun e => by rw [e] at hlen; simp at hlen; omega
      exact ⟨_, _, (List.dropLast_concat_getLast hne).symm⟩
    have e2 : ws.take (ws.length - (i + 1)) = a := by
      have := congrArg List.dropLast ea
      rw [List.dropLast_concat, List.dropLast_eq_take, List.take_take, hlen] at this
      rw [← this]
      congr 1
      omega
    have ewa : wv (a ++ [n]) = wv a ++ [V.int (n : Nat)] := by unfold wv; rw [List.map_append]; rfl
    rw [ea, ewa] at hwa3
    refine ⟨_, rfl, .inl ⟨rfl, _, SqL.of hwa3⟩, wa, _, .int (n : Nat), rfl, rfl, hwa3, ?_, ?_⟩
    · rw [List.length_append, show (wv a).length + [V.int (n : Nat)].length - 1 = (wv a).length by show _ + 1 - 1 = _; omega, List.getElem?_append_right (Nat.le_refl _), Nat.sub_self]; rfl
    · rw [List.dropLast_concat]
      have kW : ∀ b' o, b' ≠ wa → H3 b' = some o → upd H3 wa (.lst (wv a)) b' = some o := fun b' o n e => by rw [upd_ne n]; exact e
      rw [← ewa, ← ea] at hwa3
      refine ⟨_, rfl, by omega, x3.keepW hwa3 ?_ ?_ dwa kW, by rw [e2]; exact upd_same, f3.trans fun b' o _ _ _ _ h5 e => kW b' o h5 e⟩
      · cases ws with
        | nil => exact absurd rfl wne
        | cons w0 wr =>
          have : (w0 :: wr).length - i = ((w0 :: wr).length - i - 1) + 1 := by omega
          rw [this, List.take_succ_cons]; exact hw0
      · rcases hsl with h | h
        · exact .inl h
        · rw [h] at hback; simp at hback; omega
  rintro σ H3 ⟨y6, rfl, _, x3, hwa3, f3⟩
  have ebk : (back : Int).toNat = back := by omega
  rw [ebk] at hwa3
  obtain ⟨ws', hws'⟩ : ∃ ws', ws' = ws.take (ws.length - back) := ⟨_, rfl⟩
  rw [← hws'] at hwa3
  have hl' : ws'.length = ws.length - back := by rw [hws', List.length_take]; omega
  have hne' : ws' ≠ [] := fun e => by rw [e] at hl'; simp at hl'; omega
  have hsplit : ws = ws' ++ ws.drop (ws.length - back) := by rw [hws', List.take_append_drop]
  have hrest : (ws.drop (ws.length - back)).length = back := by rw [List.length_drop]; omega
  have hl100 : ws'.getLastD 0 ≤ 100 := by
    obtain ⟨a, n, ea⟩ : ∃ a n, ws' = a ++ [n] := ⟨ws'.dropLast, ws'.getLast hne', (List.dropLast_concat_getLast hne').symm⟩
    rw [ea, last_app]
    refine hwn n ?_
    rw [hsplit, ea]
    exact List.mem_append_left _ (List.mem_append_right _ List.mem_cons_self)
  refine ⟨_, rfl, (back : Int), rfl, by omega, by omega, ?_⟩
  refine for_range (lo := 0) (n := (back : Int).toNat) (fun i σ H' => ∃ y6, σ = [some (.ref b), some (.ref pa), some (.ref wa), some (.int 3), some (.int ((p.rows.length : Nat) + 1 : Int)), some (.int (back : Nat)), y6] ∧ PB H' b pa ra ma (p.mk1 (List.replicate i (dedent (p.rows.length + 1) (ws'.getLastD 0 + 1)))) ∧ H' wa = some (.lst (wv ws')) ∧ Fr5 b pa ra ma wa H H')
    ⟨_, rfl, by rw [List.replicate_zero]; unfold Pg.mk1; rw [List.append_nil]; exact x3, hwa3, f3⟩ ?_ ?_
  · rintro i σ H4 hi ⟨y6, rfl, x4, hwa4, f4⟩
    have hi : i < back := by omega
    obtain ⟨sa4, p4, _⟩ := x4.at_
    obtain ⟨us, hma, hms⟩ := x4.mks
    refine ⟨_, rfl, pa, _, 2, .ref ma, rfl, rfl, SqL.of p4, rfl, .inl ⟨rfl, _, SqL.of hma⟩, _, rfl, _, rfl, _, rfl, wa, _, -1, _, rfl, rfl, SqL.of hwa4, wv_last hne', _, _, rfl, rfl, by show 4 ≤ sizeLine; omega, fun t ht => ?_⟩
    have s5 := same_new ht (.tup [.str (Str.ofString "dedent"), .str (Str.ofString ""), .int ((p.rows.length : Nat) + 1 : Int), .int ((ws'.getLastD 0 : Nat) + 1 : Int)])
    refine ⟨ma, us, _, rfl, rfl, s5 _ _ hma, by rw [hms.1]; show (p.marks ++ _).length < _; rw [List.length_append, List.length_replicate]; omega, ?_⟩
    have x5 := (x4.same s5).mark (t := t) (m := dedent (p.rows.length + 1) (ws'.getLastD 0 + 1)) (by rw [upd_same, z.2.1, z.2.2.1]; rfl) (s5 _ _ hma)
    have e3 : (p.mk1 (List.replicate i (dedent (p.rows.length + 1) (ws'.getLastD 0 + 1)))).mk1 [dedent (p.rows.length + 1) (ws'.getLastD 0 + 1)] = p.mk1 (List.replicate (i + 1) (dedent (p.rows.length + 1) (ws'.getLastD 0 + 1))) := by
      unfold Pg.mk1
      dsimp only
      rw [List.append_assoc, ← List.replicate_succ']
    rw [e3] at x5
    refine ⟨_, rfl, x5, ?_, f4.trans fun a o _ _ _ h4 _ e => by rw [upd_ne h4]; exact s5 _ _ e⟩
    rw [upd_ne dwa.2.2.2]; exact s5 _ _ hwa4
  · rintro σ H4 ⟨y6, rfl, x4, hwa4, f4⟩
    rw [ebk] at x4
    exact hg ws' _ H4 _ _ (.inr ⟨_, fun h => absurd rfl h, hsplit, hne', by rw [hrest]⟩) hne' (by omega) x4 hwa4 f4
end
end D0
namespace D0
open PySem PySem.Spec PyProof.Rows L2 SX NumText
theorem popW_app {n : Nat} {t : List Nat} : ∀ l : List Nat, (∀ x ∈ l, n < x) → popW n (l ++ n :: t) = n :: t
  | [], _ => by
    show (if n < n then popW n t else n :: t) = _
    rw [if_neg (Nat.lt_irrefl n)]
  | x :: l, h => by
    show (if n < x then popW n (l ++ n :: t) else x :: (l ++ n :: t)) = _
    rw [if_pos (h x List.mem_cons_self), popW_app l fun y hy => h y (List.mem_cons_of_mem _ hy)]
theorem margin_sem {p : Pg} {s : Sc} {ws ws' : List Nat} {way : Int} {ms : List Mk} (h : EndSt p s) (hind : s.ind = ws.reverse) (hs : ws.Pairwise (· < ·)) (hl : ws.length ≤ 11) (hn : ∀ i x, ws[i]? = some x → x ≤ 4 * i) (hne : ws ≠ []) (hm : p.marks ≠ [] ∨ (ws = [0] ∧ way ≠ 2)) (hR : MgR (p.rows.length + 1) ws way ws' ms) :
    ∃ s1, LineSt ((p.mk1 ms).setCur (spn (ws'.getLastD 0))) s1 [] ∧ s1.many = 0 ∧ s1.br = [] ∧ s1.ind = ws'.reverse ∧ ws'.Pairwise (· < ·) ∧ ws'.length ≤ 11 ∧ (∀ i x, ws'[i]? = some x → x ≤ 4 * i) ∧ ws' ≠ [] ∧ ms.length ≤ 11 ∧ ws'.head? = ws.head? ∧ ws'.getLastD 0 ≤ 48 ∧ (ws = [0] → way ≠ 2 → ws' = [0]) := by
  have fin : ∀ n s1, ws'.getLastD 0 = n → beginLine (p.rows.length + 1) (n + 1) s = .ok s1 → s1.marks = p.marks ++ ms → LineSt ((p.mk1 ms).setCur (spn (ws'.getLastD 0))) s1 [] ∧ s1.many = 0 ∧ s1.br = [] := fun n s1 en hb hmk => by
    obtain ⟨b1, b2⟩ := begin_many hb
    refine ⟨⟨⟨s, s, h.scan, row_start _ _ s, .inl ⟨h.many, rfl, by rw [b1, h.many], ?_⟩⟩, hmk, fun z => absurd rfl z⟩, by rw [b1, h.many], by rw [b2, h.br]⟩
    show beginLine (p.rows.length + 1) ((spn (ws'.getLastD 0)).length + 1) s = .ok s1
    rw [List.length_replicate, en]; exact hb
  rcases hR with ⟨n, hw, hlt, h1, h2, rfl, rfl⟩ | ⟨rest, hw, rfl, hne', rfl⟩
  · have hm2 : p.marks ≠ [] := hm.resolve_right (fun z => z.2 hw)
    obtain ⟨a, t, rfl⟩ : ∃ a t, ws = a ++ [t] := ⟨ws.dropLast, ws.getLast hne, (List.dropLast_concat_getLast hne).symm⟩
    rw [last_app] at h1 h2
    have hmn : s.marks ≠ [] := by rw [h.marks]; exact hm2
    have hi : s.ind = t :: a.reverse := by rw [hind, List.reverse_append]; rfl
    have hlen : (a ++ [t]).length = a.length + 1 := by rw [List.length_append]; rfl
    have ht4 := hn a.length t (by rw [List.getElem?_append_right (Nat.le_refl _), Nat.sub_self]; rfl)
    have hb : beginLine (p.rows.length + 1) (n + 1) s = .ok { s with ind := n :: s.ind, marks := s.marks ++ [indentM (p.rows.length + 1) (n + 1)] } := by
      unfold beginLine
      rw [Nat.add_sub_cancel, if_neg (fun z => hmn z.2), hi, if_pos (by show t < n; exact h1), if_neg (by rw [List.length_cons, List.length_reverse]; omega)]
      unfold finish
      have hp : popW n (n :: t :: a.reverse) = n :: t :: a.reverse := popW_app (t := t :: a.reverse) [] (fun x hx => by cases hx)
      dsimp only
      rw [hp, if_neg (by show ¬ n < n; omega), Nat.sub_self, List.replicate_zero, List.append_nil]
      rfl
    have L := fin n _ (last_app _ _) hb (by show s.marks ++ _ = _; rw [h.marks])
    refine ⟨_, L.1, L.2.1, L.2.2, ?_, ?_, by rw [List.length_append]; show _ + 1 ≤ 11; omega, ?_, by simp, by show 1 ≤ 11; decide, ?_, by rw [last_app]; omega, fun _ z => absurd hw z⟩
    · show n :: s.ind = _
      rw [hind, List.reverse_append (as := a ++ [t])]; rfl
    · rw [List.pairwise_append]
      refine ⟨hs, List.pairwise_singleton _ _, fun x hx y hy => ?_⟩
      rw [List.mem_singleton.mp hy]
      rcases List.mem_append.mp hx with h3 | h3
      · have := (List.pairwise_append.mp hs).2.2 x h3 t List.mem_cons_self
        omega
      · rw [List.mem_singleton.mp h3]; exact h1
    · intro i x hx
      by_cases c : i < (a ++ [t]).length
      · rw [List.getElem?_append_left c] at hx
        exact hn i x hx
      · rw [List.getElem?_append_right (by omega)] at hx
        have hx0 : i - (a ++ [t]).length = 0 ∧ x = n := by
          cases e : i - (a ++ [t]).length with
          | zero => rw [e] at hx; exact ⟨rfl, (Option.some.inj hx).symm⟩
          | succ m => rw [e] at hx; cases hx
        rw [hx0.2]; omega
    · cases a with
      | nil => rfl
      | cons x y => rfl
  · obtain ⟨a, t, rfl⟩ : ∃ a t, ws' = a ++ [t] := ⟨ws'.dropLast, ws'.getLast hne', (List.dropLast_concat_getLast hne').symm⟩
    have hp1 := List.pairwise_append.mp hs
    have hlen : (a ++ [t] ++ rest).length = a.length + 1 + rest.length := by rw [List.length_append, List.length_append]; rfl
    have hi : s.ind = rest.reverse ++ t :: a.reverse := by rw [hind, List.reverse_append, List.reverse_append]; rfl
    have hhead : ¬ s.ind.headD 0 < t := by
      rw [hi]
      cases hr : rest.reverse with
      | nil => show ¬ t < t; omega
      | cons x r =>
        show ¬ x < t
        have : x ∈ rest := List.mem_reverse.mp (by rw [hr]; exact List.mem_cons_self)
        have := hp1.2.2 t (List.mem_append_right _ List.mem_cons_self) x this
        omega
    have hpop : popW t s.ind = t :: a.reverse := by
      rw [hi]
      exact popW_app _ fun x hx => hp1.2.2 t (List.mem_append_right _ List.mem_cons_self) x (List.mem_reverse.mp hx)
    have hfirst : ¬ (0 < t ∧ s.marks = []) := fun z => by
      rcases hm with hm | ⟨hm, _⟩
      · exact hm (by rw [← h.marks]; exact z.2)
      · have : t ∈ [0] := by rw [← hm]; exact List.mem_append_left _ (List.mem_append_right _ List.mem_cons_self)
        have := List.mem_singleton.mp this
        omega
    have ed : s.ind.length - (t :: a.reverse).length = rest.length := by
      rw [hi, List.length_append, List.length_reverse]; omega
    have hb : beginLine (p.rows.length + 1) (t + 1) s = .ok { s with ind := t :: a.reverse, marks := s.marks ++ List.replicate rest.length (dedent (p.rows.length + 1) (t + 1)) } := by
      unfold beginLine
      rw [Nat.add_sub_cancel, if_neg hfirst, if_neg hhead]
      unfold finish
      rw [hpop, if_neg (by show ¬ t < t; omega), ed]
    have ht4 := hn a.length t (by rw [List.getElem?_append_left (by rw [List.length_append]; show _ < _ + 1; omega), List.getElem?_append_right (Nat.le_refl _), Nat.sub_self]; rfl)
    have L := fin t _ (last_app _ _) hb (by show s.marks ++ _ = _; rw [h.marks, last_app])
    refine ⟨_, L.1, L.2.1, L.2.2, ?_, hp1.1, by rw [List.length_append]; show a.length + 1 ≤ 11; omega, ?_, by simp, by rw [List.length_replicate]; omega, ?_, by rw [last_app]; omega, fun e _ => ?_⟩
    · show t :: a.reverse = _
      rw [List.reverse_append]; rfl
    · intro i x hx
      refine hn i x ?_
      rw [List.getElem?_append_left (List.getElem?_eq_some_iff.mp hx).1]
      exact hx
    · cases a with
      | nil => rfl
      | cons x y => rfl
    · have h3 := congrArg List.length e
      rw [hlen] at h3
      have : rest = [] := List.length_eq_zero_iff.mp (by simp at h3; omega)
      rw [this, List.append_nil] at e
      exact e
end D0
namespace D0
open PySem PySem.Spec PyProof.Rows L2 SX NumText
theorem spl_cons {c : Nat} (t acc : List Nat) : TL.spl [10] 0 acc (c :: t) = if c = 10 then acc :: TL.spl [10] 0 [] t else TL.spl [10] 0 (acc ++ [c]) t := by
  by_cases h : c = 10
  · subst h; rw [if_pos rfl]; rfl
  · rw [if_neg h]
    show (if TL.pre [10] (c :: t) = true then _ else _) = _
    rw [if_neg (by simp [TL.pre]; exact h)]
theorem spl_row : ∀ (r acc t : List Nat), 10 ∉ r → TL.spl [10] 0 acc (r ++ 10 :: t) = (acc ++ r) :: TL.spl [10] 0 [] t
  | [], acc, t, _ => by rw [List.nil_append, spl_cons, if_pos rfl, List.append_nil]
  | c :: r, acc, t, h => by
    rw [List.cons_append, spl_cons, if_neg (fun z => h (by rw [z]; exact List.mem_cons_self)), spl_row r (acc ++ [c]) t (fun z => h (List.mem_cons_of_mem _ z)), List.append_assoc]; rfl
theorem spl_one : ∀ (r acc : List Nat), 10 ∉ r → TL.spl [10] 0 acc r = [acc ++ r]
  | [], acc, _ => by rw [List.append_nil]; rfl
  | c :: r, acc, h => by
    rw [spl_cons, if_neg (fun z => h (by rw [z]; exact List.mem_cons_self)), spl_one r (acc ++ [c]) (fun z => h (List.mem_cons_of_mem _ z)), List.append_assoc]; rfl
/-- the page's text -/
def txt (rows : List (List Nat)) (e : Nat) : List Nat := TL.joinL [10] rows ++ List.replicate e 10
def tailR : Nat → List (List Nat)
  | 0 => []
  | n + 1 => [] :: tailR n
theorem rowsOf_nl : ∀ e, rowsOf (List.replicate e 10) = [] :: tailR e
  | 0 => rfl
  | e + 1 => by
    show TL.spl [10] 0 [] (10 :: List.replicate e 10) = _
    rw [spl_cons, if_pos rfl]
    show [] :: rowsOf (List.replicate e 10) = _
    rw [rowsOf_nl e]; rfl
theorem rowsOf_txt : ∀ (rows : List (List Nat)) (e : Nat), (∀ r ∈ rows, 10 ∉ r) → rows ≠ [] → rowsOf (txt rows e) = rows ++ tailR e
  | [], _, _, h => absurd rfl h
  | [r], e, h, _ => by
    have hr := h r List.mem_cons_self
    show TL.spl [10] 0 [] (r ++ List.replicate e 10) = _
    cases e with
    | zero => rw [List.replicate_zero, List.append_nil, spl_one r [] hr]; rfl
    | succ n =>
      rw [List.replicate_succ, spl_row r [] _ hr]
      show r :: rowsOf (List.replicate n 10) = _
      rw [rowsOf_nl n]; rfl
  | r :: q :: rs, e, h, _ => by
    have hr := h r List.mem_cons_self
    have ih := rowsOf_txt (q :: rs) e (fun x hx => h x (List.mem_cons_of_mem _ hx)) (fun z => by cases z)
    have : txt (r :: q :: rs) e = r ++ 10 :: txt (q :: rs) e := by
      show (r ++ ([10] ++ TL.joinL [10] (q :: rs))) ++ List.replicate e 10 = _
      unfold txt; simp
    rw [this]
    show TL.spl [10] 0 [] (r ++ 10 :: txt (q :: rs) e) = _
    rw [spl_row r [] _ hr]
    show r :: rowsOf (txt (q :: rs) e) = _
    rw [ih]; rfl
theorem txt_len : ∀ (rows : List (List Nat)), (TL.joinL [10] rows).length ≤ blen rows
  | [] => Nat.le_refl _
  | [r] => by show r.length ≤ r.length + 1 + 0; omega
  | r :: q :: rs => by
    have ih := txt_len (q :: rs)
    show (r ++ ([10] ++ TL.joinL [10] (q :: rs))).length ≤ r.length + 1 + blen (q :: rs)
    rw [List.length_append, List.length_append]
    show r.length + (1 + _) ≤ _
    omega
theorem bad_none : ∀ (rows : List (List Nat)) (ln : Nat), (∀ r ∈ rows, r.length ≤ 120 ∧ r.all rowc = true) → badAt rows ln = none ∧ longAt rows ln = none
  | [], _, _ => ⟨rfl, rfl⟩
  | r :: rs, ln, h => by
    obtain ⟨h1, h2⟩ := h r List.mem_cons_self
    obtain ⟨i1, i2⟩ := bad_none rs (ln + 1) fun x hx => h x (List.mem_cons_of_mem _ hx)
    have hb : rowBad r = none := by
      unfold rowBad
      rw [List.findIdx?_eq_none_iff]
      intro x hx
      have := List.all_eq_true.mp h2 x hx
      rw [this]; rfl
    refine ⟨?_, ?_⟩
    · unfold badAt; rw [hb]; exact i1
    · unfold longAt; rw [if_neg (by omega)]; exact i2
theorem page_sem {p : Pg} {s : Sc} {e : Nat} (h : EndSt p s) (o : PgOk p) (ht : p.tot ≤ 5990) (he : e ≤ 1) : (txt p.rows e).length ≤ 6000 ∧
    tokensP (txt p.rows e) = .ok ((p.marks ++ List.replicate (s.ind.length - 1) (dedent (p.sl + 1) 1)) ++ [⟨.fin, .s [], p.sl + 1, 1⟩]) := by
  have hbt := o.bt
  have hl : (txt p.rows e).length ≤ 6000 := by
    unfold txt
    rw [List.length_append, List.length_replicate]
    have := txt_len p.rows
    omega
  refine ⟨hl, ?_⟩
  have n10 : ∀ r ∈ p.rows, 10 ∉ r := fun r hr z => by
    have := List.all_eq_true.mp (o.rows r hr).2 10 z
    cases this
  have hf : ∀ ln, fin ln s = s := fun ln => if_neg fun z => by rw [h.many] at z; exact absurd z.1 (Nat.lt_irrefl 0)
  have htl : ∀ n, ∀ r ∈ tailR n, r = [] := by
    intro n
    induction n with
    | zero => intro r hr; cases hr
    | succ m ih =>
      intro r hr
      rcases List.mem_cons.mp hr with h | h
      · exact h
      · exact ih r h
  obtain ⟨rs, hrs, hbl⟩ : ∃ rs, rowsOf (txt p.rows e) = p.rows ++ rs ∧ ∀ r ∈ rs, r = [] := by
    by_cases c : p.rows = []
    · refine ⟨[] :: tailR e, ?_, fun r hr => ?_⟩
      · rw [c]
        show rowsOf ([] ++ List.replicate e 10) = _
        rw [List.nil_append, rowsOf_nl]; rfl
      · rcases List.mem_cons.mp hr with h | h
        · exact h
        · exact htl e r h
    · exact ⟨_, rowsOf_txt p.rows e n10 c, htl e⟩
  have hall : ∀ r ∈ p.rows ++ rs, r.length ≤ 120 ∧ r.all rowc = true := fun r hr => by
    rcases List.mem_append.mp hr with h1 | h1
    · exact o.rows r h1
    · rw [hbl r h1]; exact ⟨by decide, rfl⟩
  have hc : checkRows (txt p.rows e) = .ok (p.rows ++ rs) := by
    unfold checkRows
    obtain ⟨b1, b2⟩ := bad_none (p.rows ++ rs) 1 hall
    rw [if_neg (by omega), hrs, b1]
    show (match longAt (p.rows ++ rs) 1 with
      | some n => (.error (.long, n, 121) : Except Er3 (List (List Nat)))
      | none => .ok (p.rows ++ rs)) = _
    rw [b2]
  have hsc := scan_blanks rs p.rows s (fun r hr => by rw [hbl r hr]; exact ⟨0, [], rfl, .inl rfl⟩) hf h.scan
  unfold tokensP
  rw [hc]
  show ((scanRows (p.rows ++ rs) 1 sc0).bind fun s => (endText s).map Sc.marks) = _
  rw [hsc]
  show (endText s).map Sc.marks = _
  unfold endText
  rw [h.br, h.last, h.marks]; rfl
end D0
namespace D0
open PySem PySem.Spec PyProof.Rows L2 SX NumText
def isN : Kd → Bool
  | .number => true
  | _ => false
def Sg (l : List Nat) : Prop := ∀ c ∈ l, c < 1114112
def GW (k : Kd) (w : Wd) : Prop := (isN k = true ∧ ∃ n, w = .n n) ∨ (isN k = false ∧ ∃ l, w = .s l ∧ Sg l)
theorem escV_sg {c : Nat} {m : List Nat} (h : escV [c] = some m) : Sg m := by
  unfold escV at h
  split at h <;> first | (cases h; intro x hx; rw [List.mem_singleton.mp hx]; decide) | cases h
theorem scanT_form {q st : Nat} : ∀ {r : List Nat} {b : Bool} {k : Nat} {acc : List Nat} {t : Tr}, scanT q st b r k acc = .ok t → Sg r → Sg acc → GW t.1 t.2.1
  | [], b, k, acc, t, h, _, _ => by unfold scanT at h; cases b <;> cases h
  | c :: r, true, k, acc, t, h, hr, ha => by
    unfold scanT at h
    cases hx : escV [c] with
    | none => rw [hx] at h; cases h
    | some m =>
      rw [hx] at h
      refine scanT_form (r := r) (b := false) h (fun x hx => hr x (List.mem_cons_of_mem _ hx)) (fun x hx2 => ?_)
      rcases List.mem_append.mp hx2 with h1 | h1
      · exact ha x h1
      · exact escV_sg hx x h1
  | c :: r, false, k, acc, t, h, hr, ha => by
    unfold scanT at h
    split at h
    · cases h; exact .inr ⟨rfl, _, rfl, ha⟩
    split at h
    · exact scanT_form (r := r) h (fun x hx => hr x (List.mem_cons_of_mem _ hx)) ha
    · refine scanT_form (r := r) h (fun x hx => hr x (List.mem_cons_of_mem _ hx)) (fun x hx2 => ?_)
      rcases List.mem_append.mp hx2 with h1 | h1
      · exact ha x h1
      · rw [List.mem_singleton.mp h1]; exact hr c List.mem_cons_self
theorem tok_gw {l : List Nat} {i : Nat} {t : Tr} (h : scanTok l i = .ok t) (hc : Sg l) : GW t.1 t.2.1 := by
  have hsub : ∀ j, Sg (word l i j) := fun j c hx => hc c (List.mem_of_mem_drop (List.mem_of_mem_take hx))
  unfold scanTok at h
  split at h
  · unfold scanName at h
    split at h
    · cases h
    · cases h
      refine .inr ⟨?_, _, rfl, hsub _⟩
      show isN (if _ then _ else _) = false
      split <;> rfl
  split at h
  · unfold scanNumber at h
    split at h
    · cases h
    · cases h; exact .inl ⟨rfl, _, rfl⟩
  split at h
  · unfold scanText at h
    exact scanT_form h (fun c hx => hc c (List.mem_of_mem_drop hx)) (fun c hx => by cases hx)
  · unfold scanSign at h
    split at h
    · rename_i s hs
      cases h
      have hm := List.mem_of_find?_eq_some hs
      have : ∀ s ∈ SG, ∀ c ∈ s, c < 1114112 := by decide
      exact .inr ⟨rfl, _, rfl, this _ hm⟩
    · cases h
def GS (s : Sc) : Prop := ∀ m ∈ s.marks, GW m.k m.w
theorem gw_nil {k : Kd} (h : isN k = false) : GW k (.s []) := .inr ⟨h, [], rfl, fun c hc => by cases hc⟩
theorem gs_app {s : Sc} {ms : List Mk} (h : GS s) (hm : ∀ m ∈ ms, GW m.k m.w) : ∀ m ∈ s.marks ++ ms, GW m.k m.w := fun m hx => by
  rcases List.mem_append.mp hx with h1 | h1
  · exact h m h1
  · exact hm m h1
theorem gs_rep {n ln col : Nat} : ∀ m ∈ List.replicate n (dedent ln col), GW m.k m.w := fun m h => by rw [(List.mem_replicate.mp h).2]; exact gw_nil rfl
theorem gs_finish {n ln col : Nat} {s s1 : Sc} (h : GS s) (e : finish n ln col s = .ok s1) : GS s1 := by
  unfold finish at e
  split at e
  · cases e
  · cases e; exact gs_app h gs_rep
theorem gs_begin {ln col : Nat} {s s1 : Sc} (h : GS s) (e : beginLine ln col s = .ok s1) : GS s1 := by
  unfold beginLine at e
  split at e
  · cases e
  split at e
  · split at e
    · cases e
    · refine gs_finish (s := { s with ind := (col - 1) :: s.ind, marks := s.marks ++ [⟨.indent, .s [], ln, col⟩] }) (gs_app h fun m hm => ?_) e
      rw [List.mem_singleton.mp hm]; exact gw_nil rfl
  · exact gs_finish h e
theorem gs_gather {m : Mk} {s s1 : Sc} (h : GS s) (hm : GW m.k m.w) (e : gatherP m s = .ok s1) : GS s1 := by
  have one : ∀ x ∈ [m], GW x.k x.w := fun x hx => by rw [List.mem_singleton.mp hx]; exact hm
  unfold gatherP at e
  split at e
  · cases e
  split at e
  · unfold matchBr at e
    split at e
    · cases e; exact gs_app h one
    split at e
    · cases e; exact gs_app h one
    split at e
    · cases e
    split at e
    · cases e; exact gs_app h one
    · cases e
  · cases e; exact gs_app h one
theorem gs_step {l : List Nat} {ln i : Nat} {s : Sc} {r : Nat × Sc} (hl : Sg l) (h : GS s) (e : stepR l ln i s = .ok r) : GS r.2 := by
  unfold stepR at e
  have hb : ∀ s1, beg ln i s = .ok s1 → GS s1 := fun s1 e1 => by
    unfold beg at e1
    split at e1
    · exact gs_begin h e1
    · cases e1; exact h
  cases hb2 : beg ln i s with
  | error x => rw [hb2] at e; cases e
  | ok s1 =>
    rw [hb2] at e
    have e : tokS l ln i s1 = .ok r := e
    unfold tokS at e
    cases ht : scanTok l i with
    | error c => rw [ht] at e; cases e
    | ok t =>
      rw [ht] at e
      have e : (gatherP ⟨t.1, t.2.1, ln, i + 1⟩ s1).map (fun s2 => (twl spc l t.2.2, { s2 with behind := t.2.2 + 1 })) = .ok r := e
      cases hg : gatherP ⟨t.1, t.2.1, ln, i + 1⟩ s1 with
      | error x => rw [hg] at e; cases e
      | ok s2 =>
        rw [hg] at e
        cases e
        have g : GS s2 := gs_gather (m := ⟨t.1, t.2.1, ln, i + 1⟩) (hb s1 hb2) (tok_gw ht hl) hg
        exact g
theorem gs_run {l : List Nat} {ln : Nat} (hl : Sg l) : ∀ (f i : Nat) (s s1 : Sc), GS s → runRow l ln f i s = .ok s1 → GS s1
  | 0, _, s, s1, h, e => by cases e; exact h
  | f + 1, i, s, s1, h, e => by
    unfold runRow at e
    split at e
    · cases hs : stepR l ln i s with
      | error x => rw [hs] at e; cases e
      | ok r => rw [hs] at e; exact gs_run hl f r.1 r.2 s1 (gs_step hl h hs) e
    · cases e; exact h
theorem gs_rows : ∀ (rows : List (List Nat)) (ln : Nat) (s s1 : Sc), (∀ r ∈ rows, Sg r) → GS s → scanRows rows ln s = .ok s1 → GS s1
  | [], _, s, s1, _, h, e => by cases e; exact h
  | r :: rs, ln, s, s1, hr, h, e => by
    have e : (scanRow r ln s).bind (scanRows rs (ln + 1)) = .ok s1 := e
    cases hs : scanRow r ln s with
    | error x => rw [hs] at e; cases e
    | ok s2 =>
      rw [hs] at e
      refine gs_rows rs (ln + 1) s2 s1 (fun x hx => hr x (List.mem_cons_of_mem _ hx)) ?_ e
      unfold scanRow at hs
      cases hq : runRow r ln (r.length + 1) (twl spc r 0) s with
      | error x => rw [hq] at hs; cases hs
      | ok s3 =>
        rw [hq] at hs
        cases hs
        have h3 := gs_run (hr r List.mem_cons_self) _ _ _ _ h hq
        unfold fin
        split
        · exact gs_app h3 fun m hm => by rw [List.mem_singleton.mp hm]; exact gw_nil rfl
        · exact h3
theorem gs_tokens {l : List Nat} {ms : List Mk} (h : tokensP l = .ok ms) : ∀ m ∈ ms, GW m.k m.w := by
  unfold tokensP at h
  cases hc : checkRows l with
  | error e => rw [hc] at h; cases h
  | ok rs =>
    rw [hc] at h
    have h : ((scanRows rs 1 sc0).bind fun s => (endText s).map Sc.marks) = .ok ms := h
    have hrs : ∀ r ∈ rs, Sg r := by
      unfold checkRows at hc
      split at hc
      · cases hc
      cases hb : badAt (rowsOf l) 1 with
      | some e => rw [hb] at hc; cases hc
      | none =>
        rw [hb] at hc
        have hc : (match longAt (rowsOf l) 1 with
          | some n => (.error (.long, n, 121) : Except Er3 (List (List Nat)))
          | none => .ok (rowsOf l)) = .ok rs := hc
        cases hlg : longAt (rowsOf l) 1 with
        | some n => rw [hlg] at hc; cases hc
        | none =>
          rw [hlg] at hc
          cases hc
          have hbad : ∀ (rows : List (List Nat)) (ln : Nat), badAt rows ln = none → ∀ r ∈ rows, Sg r := by
            intro rows
            induction rows with
            | nil => intro ln _ r hr; cases hr
            | cons a t ih =>
              intro ln hb r hr
              unfold badAt at hb
              cases hx : rowBad a with
              | some j => rw [hx] at hb; cases hb
              | none =>
                rw [hx] at hb
                rcases List.mem_cons.mp hr with h1 | h1
                · rw [h1]
                  intro c hcm
                  unfold rowBad at hx
                  have := List.findIdx?_eq_none_iff.mp hx c hcm
                  have hrc : rowc c = true := by simpa using this
                  have := of_decide_eq_true hrc
                  omega
                · exact ih (ln + 1) hb r h1
          exact hbad _ _ hb
    cases hs : scanRows rs 1 sc0 with
    | error e => rw [hs] at h; cases h
    | ok s =>
      rw [hs] at h
      have h : (endText s).map Sc.marks = .ok ms := h
      have hg := gs_rows rs 1 sc0 s hrs (fun m hm => by cases hm) hs
      unfold endText at h
      split at h
      · cases h
      · cases h
        intro m hm
        rcases List.mem_append.mp hm with h1 | h1
        · exact gs_app hg gs_rep m h1
        · rw [List.mem_singleton.mp h1]; exact gw_nil rfl
end D0
namespace D0
open PySem PySem.Spec PyProof.Rows L2 SX NumText
theorem snoc_ind {α : Type} {C : List α → Prop} (h0 : C []) (h1 : ∀ l a, C l → C (l ++ [a])) (l : List α) : C l := by
  rw [← List.reverse_reverse l]
  induction l.reverse with
  | nil => exact h0
  | cons a t ih => rw [List.reverse_cons]; exact h1 _ _ ih
theorem dv_snoc (l : List Nat) (c : Nat) : digitsVal (l ++ [c]) = digitsVal l * 10 + (c - 48) := by
  unfold digitsVal; rw [List.foldl_append]; rfl
theorem dv_pos : ∀ l : List Nat, l ≠ [] → AllDigits l → l.head? ≠ some 48 → 1 ≤ digitsVal l := by
  refine snoc_ind (fun h => absurd rfl h) ?_
  intro l a ih _ hd h0
  rw [dv_snoc]
  by_cases e : l = []
  · subst e
    have ha := hd a (by simp)
    have : a ≠ 48 := fun z => h0 (by rw [z]; rfl)
    omega
  · have := ih e (fun c hc => hd c (List.mem_append_left _ hc)) (fun z => h0 (by cases l with | nil => exact absurd rfl e | cons b t => simpa using z))
    omega
theorem numL_of : ∀ l : List Nat, l ≠ [] → AllDigits l → (l.head? = some 48 → l.length = 1) → TL.numL (digitsVal l) = l := by
  refine snoc_ind (fun h => absurd rfl h) ?_
  intro l a ih _ hd h0
  have ha := hd a (by simp)
  rw [dv_snoc]
  by_cases e : l = []
  · subst e
    have : digitsVal [] = 0 := rfl
    rw [this, TL.numL_lt (by omega)]
    show [48 + (0 * 10 + (a - 48))] = [a]
    congr 1; omega
  · have hne : l.head? ≠ some 48 := fun z => by
      have : (l ++ [a]).length = 1 := h0 (by cases l with | nil => exact absurd rfl e | cons b t => simpa using z)
      rw [List.length_append, List.length_singleton] at this
      have := List.length_pos_iff.mpr e
      omega
    have hdl : AllDigits l := fun c hc => hd c (List.mem_append_left _ hc)
    have hp := dv_pos l e hdl hne
    rw [TL.numL_step (by omega), show (digitsVal l * 10 + (a - 48)) / 10 = digitsVal l by omega, show 48 + (digitsVal l * 10 + (a - 48)) % 10 = a by omega, ih e hdl (fun z => absurd z hne)]
/-- texts as layout writes them -/
def escd (c : Nat) : Bool := decide (c = 10 ∨ c = 92 ∨ c = 34)
def esc1 (c : Nat) : List Nat := unitSp (c, escd c)
def quo (w : List Nat) : List Nat := 34 :: (w.flatMap esc1 ++ [34])
def spell : Kd → Wd → List Nat
  | _, .n n => TL.numL n
  | .text, .s l => quo l
  | _, .s l => l
theorem flat_units : ∀ w : List Nat, (w.map fun c => (c, escd c)).flatMap unitSp = w.flatMap esc1
  | [] => rfl
  | c :: r => by rw [List.map_cons, List.flatMap_cons, List.flatMap_cons, flat_units r]; rfl
theorem map_fst : ∀ w : List Nat, (w.map fun c => (c, escd c)).map Prod.fst = w
  | [] => rfl
  | c :: r => by rw [List.map_cons, List.map_cons, map_fst r]
theorem quo_len : ∀ w : List Nat, (quo w).length ≤ 2 * w.length + 2 := by
  have f : ∀ w : List Nat, (w.flatMap esc1).length ≤ 2 * w.length := by
    intro w
    induction w with
    | nil => exact Nat.le_refl _
    | cons c r ih =>
      have : (esc1 c).length ≤ 2 := unitSp_len (c, escd c)
      rw [List.flatMap_cons, List.length_append, List.length_cons]
      omega
  intro w
  have := f w
  unfold quo
  rw [List.length_cons, List.length_append]
  show (_ + 1) + 1 ≤ _
  omega
theorem quo_text {w : List Nat} (h : ∀ c ∈ w, okc10 c) : TextL w.length w (quo w) := by
  refine ⟨34, w.map fun c => (c, escd c), .inl rfl, (map_fst w).symm, by rw [flat_units]; rfl, by rw [List.length_map]; exact Nat.le_refl _, fun u hu => ?_⟩
  obtain ⟨c, hc, rfl⟩ := List.mem_map.mp hu
  have h1 := h c hc
  by_cases e : c = 10 ∨ c = 92 ∨ c = 34
  · unfold escd; rw [decide_eq_true e]
    rcases e with e | e | e
    · exact .inl e
    · exact .inr (.inl e)
    · exact .inr (.inr (.inl e))
  · unfold escd; rw [decide_eq_false e]
    refine ⟨h1.resolve_right fun z => e (.inl z), fun z => e (.inr (.inl z)), fun z => e (.inr (.inr z))⟩
theorem TextL.ok {n : Nat} {w sp : List Nat} (h : TextL n w sp) : ∀ c ∈ w, okc10 c := by
  obtain ⟨q, us, hq, rfl, _, _, hok⟩ := h
  intro c hc
  obtain ⟨⟨c', e⟩, hu, rfl⟩ := List.mem_map.mp hc
  have := hok _ hu
  cases e with
  | false => exact .inl this.1
  | true => rcases (this : c' = 10 ∨ c' = 92 ∨ c' = 34 ∨ c' = 39) with z | z | z | z <;> subst z <;> first | exact .inr rfl | exact .inl (by decide)
theorem fig_num {sp : List Nat} (h : FigL sp) : TL.numL (digitsVal sp) = sp := by
  obtain ⟨_, hall, c, t, e, h48⟩ := h
  refine numL_of sp (by rw [e]; exact fun z => by cases z) (fun d hd => ?_) (fun z => ?_)
  · exact of_decide_eq_true (List.all_eq_true.mp hall d hd)
  · rw [e] at z ⊢
    have : c = 48 := Option.some.inj z
    rw [h48 this]; rfl
/-- a word, spelled as layout does, is the word -/
theorem TokG.can {k : Kd} {w : Wd} {sp : List Nat} (h : TokG k w sp) : TokG k w (spell k w) := by
  rcases h with ⟨h, rfl, rfl⟩ | ⟨h, rfl, rfl⟩ | ⟨t, n, h, rfl, rfl⟩ | ⟨h, rfl, rfl⟩
  · have e : spell (if sp ∈ KW then .keyword else .name) (.s sp) = sp := by split <;> rfl
    rw [e]; exact .inl ⟨h, rfl, rfl⟩
  · have e : spell .number (.n (digitsVal sp)) = sp := fig_num h
    rw [e]; exact .inr (.inl ⟨h, rfl, rfl⟩)
  · exact .inr (.inr (.inl ⟨t, t.length, quo_text h.ok, rfl, rfl⟩))
  · exact .inr (.inr (.inr ⟨h, rfl, rfl⟩))
theorem TokG.row1 {k : Kd} {w : Wd} {sp : List Nat} (h : TokG k w sp) : sp.all rowc = true := by
  rcases h with ⟨⟨_, hall, _⟩, _, _⟩ | ⟨⟨_, hall, _⟩, _, _⟩ | ⟨w', n, ⟨q, us, hq, _, e, hu, hok⟩, _, _⟩ | ⟨hsg, _, _⟩
  · exact List.all_eq_true.mpr fun c hc => namc_row (List.all_eq_true.mp hall c hc)
  · exact List.all_eq_true.mpr fun c hc => dig_row (List.all_eq_true.mp hall c hc)
  · have hqr : rowc q = true := by rcases hq with z | z <;> subst z <;> decide
    rw [e, List.all_cons, List.all_append, List.all_cons, hqr, List.all_nil, Bool.true_and, Bool.and_true, Bool.and_true]
    rw [List.all_eq_true]
    intro x hx
    obtain ⟨⟨c, b⟩, hu, hx⟩ := List.mem_flatMap.mp hx
    have := hok _ hu
    cases b with
    | false => rw [List.mem_singleton.mp hx]; exact this.1
    | true =>
      have k : ∀ d ∈ [10, 92, 34, 39], ∀ x ∈ unitSp (d, true), rowc x = true := by decide
      have this : c = 10 ∨ c = 92 ∨ c = 34 ∨ c = 39 := this
      exact k c (by simpa using this) x hx
  · exact SG_row sp hsg
/-! what the scanner takes for a word is one -/
theorem escV_unit {c : Nat} {m : List Nat} (h : escV [c] = some m) : ∃ d, m = [d] ∧ (d = 10 ∨ d = 92 ∨ d = 34 ∨ d = 39) := by
  unfold escV at h
  split at h <;> first | (cases h; exact ⟨_, rfl, by decide⟩) | cases h
theorem scanT_text {q st : Nat} : ∀ {r : List Nat} {b : Bool} {k : Nat} {acc : List Nat} {t : Tr}, scanT q st b r k acc = .ok t → r.all rowc = true → ∃ us : List (Nat × Bool), t.1 = .text ∧ t.2.1 = .s (acc ++ us.map Prod.fst) ∧ us.length + 1 ≤ r.length ∧ ∀ u ∈ us, UnitOk q u
  | [], b, k, acc, t, h, _ => by unfold scanT at h; cases b <;> cases h
  | c :: r, true, k, acc, t, h, hr => by
    rw [List.all_cons, Bool.and_eq_true] at hr
    unfold scanT at h
    cases hx : escV [c] with
    | none => rw [hx] at h; cases h
    | some m =>
      rw [hx] at h
      obtain ⟨d, rfl, hd⟩ := escV_unit hx
      obtain ⟨us, e1, e2, e4, e3⟩ := scanT_text (r := r) (b := false) h hr.2
      refine ⟨(d, true) :: us, e1, by rw [e2, List.map_cons, List.append_assoc]; rfl, by rw [List.length_cons, List.length_cons]; omega, fun u hu => ?_⟩
      rcases List.mem_cons.mp hu with rfl | hu
      · exact hd
      · exact e3 u hu
  | c :: r, false, k, acc, t, h, hr => by
    rw [List.all_cons, Bool.and_eq_true] at hr
    unfold scanT at h
    split at h
    · cases h; exact ⟨[], rfl, by rw [List.map_nil, List.append_nil], by rw [List.length_cons]; exact Nat.le_add_left _ _, fun u hu => by cases hu⟩
    rename_i n1
    split at h
    · obtain ⟨us, e1, e2, e4, e3⟩ := scanT_text (r := r) h hr.2
      exact ⟨us, e1, e2, by rw [List.length_cons]; omega, e3⟩
    · rename_i n2
      obtain ⟨us, e1, e2, e4, e3⟩ := scanT_text (r := r) (b := false) h hr.2
      refine ⟨(c, false) :: us, e1, by rw [e2, List.map_cons, List.append_assoc]; rfl, by rw [List.length_cons, List.length_cons]; omega, fun u hu => ?_⟩
      rcases List.mem_cons.mp hu with rfl | hu
      · exact ⟨hr.1, n2, n1⟩
      · exact e3 u hu
theorem tw_all {f : Nat → Bool} : ∀ l : List Nat, (l.takeWhile f).all f = true
  | [] => rfl
  | c :: r => by
    rw [List.takeWhile_cons]
    split
    · rename_i h; rw [List.all_cons, h, tw_all r]; rfl
    · rfl
theorem tw_head {f : Nat → Bool} {l : List Nat} (h : f (l.headD 0) = true) (h0 : f 0 = false) : ∃ c t, l.takeWhile f = c :: t ∧ f c = true ∧ l.headD 0 = c := by
  cases l with
  | nil => rw [List.headD_nil, h0] at h; cases h
  | cons c t => exact ⟨c, t.takeWhile f, by rw [List.takeWhile_cons]; exact if_pos h, h, rfl⟩
theorem scanned {l : List Nat} {i : Nat} {t : Tr} (h : scanTok l i = .ok t) (hr : l.all rowc = true) (h120 : l.length ≤ 120) : TokG t.1 t.2.1 (spell t.1 t.2.1) ∧ (spell t.1 t.2.1).length ≤ 238 := by
  unfold scanTok at h
  split at h
  · rename_i hl
    have hl : letc ((l.drop i).headD 0) = true := hl
    unfold scanName at h
    split at h
    · cases h
    · rename_i h30
      cases h
      rw [word_tw] at h30 ⊢
      have hn : namc ((l.drop i).headD 0) = true := by unfold namc; rw [hl]; rfl
      obtain ⟨c, r, e, hc, e2⟩ := tw_head hn (by decide)
      have g : TokG _ _ _ := .inl ⟨⟨by omega, tw_all _, c, r, e, by rw [← e2]; exact hl⟩, rfl, rfl⟩
      refine ⟨g.can, ?_⟩
      show (spell (if _ then _ else _) (.s _)).length ≤ 238
      have e : ∀ sp : List Nat, spell (if sp ∈ KW then .keyword else .name) (.s sp) = sp := fun sp => by split <;> rfl
      rw [e]; omega
  split at h
  · rename_i hd
    have hd : isDig ((l.drop i).headD 0) = true := hd
    unfold scanNumber at h
    split at h
    · cases h
    · rename_i nb
      cases h
      have nb : numBad l i = false := by simpa using nb
      unfold numBad at nb
      obtain ⟨n1, _⟩ := Bool.or_eq_false_iff.mp nb
      obtain ⟨n1, n2⟩ := Bool.or_eq_false_iff.mp n1
      rw [word_tw] at n1 n2
      show TokG .number (.n (digitsVal (word l i (twl isDig l i)))) (TL.numL (digitsVal (word l i (twl isDig l i)))) ∧ (TL.numL (digitsVal (word l i (twl isDig l i)))).length ≤ 238
      rw [word_tw]
      have n1 := of_decide_eq_false n1
      obtain ⟨c, r, e, hc, e2⟩ := tw_head hd (by decide)
      have fg : FigL ((l.drop i).takeWhile isDig) := by
        refine ⟨by omega, tw_all _, c, r, e, fun z => ?_⟩
        rw [e, z] at n2
        cases r with
        | nil => rfl
        | cons x y =>
          rw [decide_eq_true (show 1 < (48 :: x :: y).length by simp), decide_eq_true (show (48 :: x :: y).head? = some 48 from rfl)] at n2
          cases n2
      rw [fig_num fg]
      exact ⟨.inr (.inl ⟨fg, rfl, rfl⟩), by omega⟩
  split at h
  · rename_i hq
    unfold scanText at h
    have hr2 : (l.drop (i + 1)).all rowc = true := List.all_eq_true.mpr fun c hc => List.all_eq_true.mp hr c (List.mem_of_mem_drop hc)
    obtain ⟨us, e1, e2, e4, e3⟩ := scanT_text h hr2
    rw [e1, e2]
    have g : TokG .text (.s ([] ++ us.map Prod.fst)) _ := .inr (.inr (.inl ⟨_, us.length, ⟨_, us, hq, rfl, rfl, Nat.le_refl _, e3⟩, rfl, rfl⟩))
    refine ⟨g.can, ?_⟩
    show (quo ([] ++ us.map Prod.fst)).length ≤ 238
    have := quo_len ([] ++ us.map Prod.fst)
    rw [List.length_append, List.length_nil, List.length_map] at this
    rw [List.length_drop] at e4
    omega
  · unfold scanSign at h
    split at h
    · rename_i s hs
      cases h
      have hm := List.mem_of_find?_eq_some hs
      exact ⟨.inr (.inr (.inr ⟨hm, rfl, rfl⟩)), Nat.le_trans (SG_le s hm) (by decide)⟩
    · cases h
end D0
namespace D0
open PySem PySem.Spec PyProof.Rows L2 SX NumText
/-! laying marks: closed rows, the open row, the depth -/
structure LS where
  rows : List (List Nat)
  row : List Nat
  dep : Int
abbrev Pl := Option (Nat × Nat)
def LS.open_ (st : LS) : List Nat := if st.row = [] then spn (4 * st.dep.toNat) else st.row ++ [32]
def LS.next (st : LS) : Kd → Wd → LS × Pl
  | .indent, _ => (⟨st.rows, st.row, st.dep + 1⟩, none)
  | .dedent, _ => (⟨st.rows, st.row, st.dep - 1⟩, none)
  | .newline, _ => (⟨st.rows ++ [st.row], [], st.dep⟩, some (st.rows.length + 1, st.row.length + 1))
  | .fin, _ => (st, some (st.rows.length + 1, st.row.length + 1))
  | k, w => (⟨st.rows, st.open_ ++ spell k w, st.dep⟩, some (st.rows.length + 1, st.open_.length + 1))
def layF : LS → List Mk → LS × List Pl
  | st, [] => (st, [])
  | st, m :: r => ((layF (st.next m.k m.w).1 r).1, (st.next m.k m.w).2 :: (layF (st.next m.k m.w).1 r).2)
theorem layF_app : ∀ (a b : List Mk) (st : LS), layF st (a ++ b) = ((layF (layF st a).1 b).1, (layF st a).2 ++ (layF (layF st a).1 b).2)
  | [], b, st => rfl
  | m :: a, b, st => by
    show ((layF (st.next m.k m.w).1 (a ++ b)).1, (st.next m.k m.w).2 :: (layF (st.next m.k m.w).1 (a ++ b)).2) = _
    rw [layF_app a b]; rfl
theorem layF_len : ∀ (a : List Mk) (st : LS), (layF st a).2.length = a.length
  | [], _ => rfl
  | m :: a, st => congrArg (· + 1) (layF_len a _)
def nextp : List Pl → Nat × Nat → Nat × Nat
  | [], d => d
  | some p :: _, _ => p
  | none :: r, d => nextp r d
def fillP : List Mk → List Pl → Nat × Nat → List Mk
  | m :: ms, z :: zs, d => ⟨m.k, m.w, (nextp (z :: zs) d).1, (nextp (z :: zs) d).2⟩ :: fillP ms zs d
  | _, _, _ => []
theorem nextp_app : ∀ (a b : List Pl) (d : Nat × Nat), nextp (a ++ b) d = nextp a (nextp b d)
  | [], _, _ => rfl
  | some p :: a, b, d => rfl
  | none :: a, b, d => nextp_app a b d
theorem fillP_app : ∀ (a b : List Mk) (za zb : List Pl) (d : Nat × Nat), a.length = za.length → fillP (a ++ b) (za ++ zb) d = fillP a za (nextp zb d) ++ fillP b zb d
  | [], b, [], zb, d, _ => rfl
  | [], b, z :: za, zb, d, h => by cases h
  | m :: a, b, [], zb, d, h => by cases h
  | m :: a, b, z :: za, zb, d, h => by
    show _ :: fillP (a ++ b) (za ++ zb) d = _
    have e := nextp_app (z :: za) zb d
    show (⟨m.k, m.w, (nextp (z :: za ++ zb) d).1, (nextp (z :: za ++ zb) d).2⟩ : Mk) :: fillP (a ++ b) (za ++ zb) d = _
    rw [fillP_app a b za zb d (Nat.succ.inj h), e]
    rfl
theorem fillP_len : ∀ (a : List Mk) (za : List Pl) (d : Nat × Nat), a.length = za.length → (fillP a za d).length = a.length
  | [], _, _, _ => rfl
  | m :: a, [], d, h => by cases h
  | m :: a, z :: za, d, h => congrArg (· + 1) (fillP_len a za d (Nat.succ.inj h))
def L0 : LS := ⟨[], [], 0⟩
/-- the widths of n blocks -/
def wq (n : Nat) : List Nat := (List.range n).map (4 * ·)
theorem wq_len (n : Nat) : (wq n).length = n := by unfold wq; rw [List.length_map, List.length_range]
theorem wq_succ (n : Nat) : wq (n + 1) = wq n ++ [4 * n] := by unfold wq; rw [List.range_succ, List.map_append]; rfl
theorem wq_at {n i x : Nat} (h : (wq n)[i]? = some x) : x = 4 * i := by
  unfold wq at h
  rw [List.getElem?_map] at h
  cases e : (List.range n)[i]? with
  | none => rw [e] at h; cases h
  | some y =>
    rw [e] at h
    have h1 := List.getElem?_eq_some_iff.mp e
    obtain ⟨h1, h2⟩ := h1
    rw [List.getElem_range] at h2
    cases h; rw [h2]
theorem wq_pair (n : Nat) : (wq n).Pairwise (· < ·) := by
  unfold wq
  rw [List.pairwise_map]
  exact List.pairwise_lt_range.imp fun h => by omega
theorem wq_last {n : Nat} (h : 0 < n) : (wq n).getLastD 0 = 4 * (n - 1) := by
  obtain ⟨m, rfl⟩ : ∃ m, n = m + 1 := ⟨n - 1, by omega⟩
  rw [wq_succ, last_app]; rfl
theorem wq_split {n j : Nat} (h : j ≤ n) : ∃ rest, wq n = wq j ++ rest ∧ rest.length = n - j := by
  induction n with
  | zero => exact ⟨[], by rw [show j = 0 by omega]; rfl, by simp⟩
  | succ m ih =>
    by_cases c : j ≤ m
    · obtain ⟨r, h1, h2⟩ := ih c
      exact ⟨r ++ [4 * m], by rw [wq_succ, h1, List.append_assoc], by rw [List.length_append, h2]; show _ + 1 = _; omega⟩
    · exact ⟨[], by rw [List.append_nil, show j = m + 1 by omega], by rw [show j = m + 1 by omega]; simp⟩
theorem wq_head {n : Nat} (h : 0 < n) : (wq n).head? = some 0 := by
  obtain ⟨m, rfl⟩ : ∃ m, n = m + 1 := ⟨n - 1, by omega⟩
  unfold wq
  rw [List.range_succ_eq_map]; rfl
/-! what the steps of the scanner do -/
theorem popW_ne {n : Nat} {l : List Nat} (h : Ind l) : popW n l ≠ [] := (Ind.pop h).ne
theorem popW_le (n : Nat) (l : List Nat) : (popW n l).length ≤ l.length := (popW_suf n l).length_le
theorem begin_form {ln col : Nat} {s s1 : Sc} (h : beginLine ln col s = .ok s1) (hI : Ind s.ind) :
    s1.br = s.br ∧ s1.many = s.many ∧ s1.behind = s.behind ∧
    ((s.marks ≠ [] ∧ s1.ind.length = s.ind.length + 1 ∧ s.ind.length + 1 ≤ 11 ∧ s1.marks = s.marks ++ [indentM ln col]) ∨
     (0 < s1.ind.length ∧ s1.ind.length ≤ s.ind.length ∧ s1.marks = s.marks ++ List.replicate (s.ind.length - s1.ind.length) (dedent ln col))) := by
  unfold beginLine at h
  split at h
  · cases h
  rename_i n0
  split at h
  · rename_i n1
    split at h
    · cases h
    rename_i n2
    unfold finish at h
    have hp : popW (col - 1) ((col - 1) :: s.ind) = (col - 1) :: s.ind := by
      show (if col - 1 < col - 1 then _ else _) = _
      rw [if_neg (Nat.lt_irrefl _)]
    dsimp only at h
    rw [hp, if_neg (show ¬ ((col - 1) :: s.ind).headD 0 < col - 1 from Nat.lt_irrefl _), Nat.sub_self, List.replicate_zero, List.append_nil] at h
    cases h
    refine ⟨rfl, rfl, rfl, .inl ⟨fun z => n0 ⟨by omega, z⟩, rfl, by omega, rfl⟩⟩
  · unfold finish at h
    split at h
    · cases h
    · cases h
      exact ⟨rfl, rfl, rfl, .inr ⟨List.length_pos_iff.mpr (popW_ne hI), popW_le _ _, rfl⟩⟩
theorem gather_sim {k : Kd} {w : Wd} {a b a' b' : Nat} {s s2 s' : Sc} (h : gatherP ⟨k, w, a, b⟩ s = .ok s2) (hm : s'.many = s.many) (hb : s'.br.map Mk.w = s.br.map Mk.w) :
    s2.marks = s.marks ++ [⟨k, w, a, b⟩] ∧ s2.many = s.many + 1 ∧ s2.ind = s.ind ∧
    ∃ s2', gatherP ⟨k, w, a', b'⟩ s' = .ok s2' ∧ s2'.marks = s'.marks ++ [⟨k, w, a', b'⟩] ∧ s2'.many = s2.many ∧ s2'.ind = s'.ind ∧ s2'.br.map Mk.w = s2.br.map Mk.w := by
  unfold gatherP at h ⊢
  split at h
  · cases h
  rename_i n1
  rw [if_neg (by rw [hm]; exact n1)]
  by_cases c : isSg k = true
  · rw [if_pos (show isSg (⟨k, w, a, b⟩ : Mk).k = true from c)] at h
    rw [if_pos (show isSg (⟨k, w, a', b'⟩ : Mk).k = true from c)]
    unfold matchBr at h ⊢
    by_cases o : wl w ∈ OPN
    · rw [if_pos (show wl (⟨k, w, a, b⟩ : Mk).w ∈ OPN from o)] at h
      rw [if_pos (show wl (⟨k, w, a', b'⟩ : Mk).w ∈ OPN from o)]
      cases h
      refine ⟨rfl, rfl, rfl, _, rfl, rfl, ?_, rfl, ?_⟩
      · show s'.many + 1 = s.many + 1; rw [hm]
      · show w :: s'.br.map Mk.w = w :: s.br.map Mk.w; rw [hb]
    · rw [if_neg (show ¬ wl (⟨k, w, a, b⟩ : Mk).w ∈ OPN from o)] at h
      rw [if_neg (show ¬ wl (⟨k, w, a', b'⟩ : Mk).w ∈ OPN from o)]
      dsimp only at h ⊢
      cases hc : cloV (wl w) with
      | none =>
        rw [hc] at h
        cases h
        refine ⟨rfl, rfl, rfl, _, rfl, rfl, ?_, rfl, hb⟩
        show s'.many + 1 = s.many + 1; rw [hm]
      | some o =>
        rw [hc] at h
        dsimp only at h ⊢
        cases h1 : s.br with
        | nil => rw [h1] at h; cases h
        | cons x r =>
          rw [h1] at h hb
          cases h2 : s'.br with
          | nil => rw [h2] at hb; cases hb
          | cons x' r' =>
            rw [h2] at hb
            injection hb with e1 e2
            dsimp only at h ⊢
            by_cases z : wl x.w = o
            · rw [if_pos z] at h
              rw [if_pos (by rw [e1]; exact z)]
              cases h
              refine ⟨rfl, rfl, rfl, _, rfl, rfl, ?_, rfl, e2⟩
              show s'.many + 1 = s.many + 1; rw [hm]
            · rw [if_neg z] at h; cases h
  · rw [if_neg (show ¬ isSg (⟨k, w, a, b⟩ : Mk).k = true from c)] at h
    rw [if_neg (show ¬ isSg (⟨k, w, a', b'⟩ : Mk).k = true from c)]
    cases h
    refine ⟨rfl, rfl, rfl, _, rfl, rfl, ?_, rfl, hb⟩
    show s'.many + 1 = s.many + 1; rw [hm]
theorem TokG.next {k : Kd} {w : Wd} {sp : List Nat} (h : TokG k w sp) (st : LS) : st.next k w = (⟨st.rows, st.open_ ++ spell k w, st.dep⟩, some (st.rows.length + 1, st.open_.length + 1)) := by
  have e : ∀ k : Kd, k = .name ∨ k = .keyword ∨ k = .number ∨ k = .text ∨ k = .sign → st.next k w = (⟨st.rows, st.open_ ++ spell k w, st.dep⟩, some (st.rows.length + 1, st.open_.length + 1)) := by
    rintro k (rfl | rfl | rfl | rfl | rfl) <;> rfl
  refine e k ?_
  rcases h with ⟨_, rfl, _⟩ | ⟨_, rfl, _⟩ | ⟨_, _, _, rfl, _⟩ | ⟨_, rfl, _⟩
  · split
    · exact .inr (.inl rfl)
    · exact .inl rfl
  · exact .inr (.inr (.inl rfl))
  · exact .inr (.inr (.inr (.inl rfl)))
  · exact .inr (.inr (.inr (.inr rfl)))
/-! as layout does it: closed rows, the words of the open row, the depth -/
structure PL2 where
  rows : List (List Nat)
  ws : List (List Nat)
  dep : Int
def PL2.row (p : PL2) : List Nat := spn (4 * p.dep.toNat) ++ TL.joinL [32] p.ws
def PL2.next (p : PL2) : Kd → Wd → PL2
  | .indent, _ => ⟨p.rows, p.ws, p.dep + 1⟩
  | .dedent, _ => ⟨p.rows, p.ws, p.dep - 1⟩
  | .newline, _ => ⟨p.rows ++ [p.row], [], p.dep⟩
  | .fin, _ => p
  | k, w => ⟨p.rows, p.ws ++ [spell k w], p.dep⟩
def pF (ms : List Mk) : PL2 := ms.foldl (fun p m => p.next m.k m.w) ⟨[], [], 0⟩
theorem pF_app (a b : List Mk) : pF (a ++ b) = b.foldl (fun p m => p.next m.k m.w) (pF a) := List.foldl_append ..
theorem TokG.pnext {k : Kd} {w : Wd} {sp : List Nat} (h : TokG k w sp) (p : PL2) : p.next k w = ⟨p.rows, p.ws ++ [spell k w], p.dep⟩ := by
  have e : ∀ k : Kd, k = .name ∨ k = .keyword ∨ k = .number ∨ k = .text ∨ k = .sign → p.next k w = ⟨p.rows, p.ws ++ [spell k w], p.dep⟩ := by
    rintro k (rfl | rfl | rfl | rfl | rfl) <;> rfl
  refine e k ?_
  rcases h with ⟨_, rfl, _⟩ | ⟨_, rfl, _⟩ | ⟨_, _, _, rfl, _⟩ | ⟨_, rfl, _⟩
  · split
    · exact .inr (.inl rfl)
    · exact .inl rfl
  · exact .inr (.inr (.inl rfl))
  · exact .inr (.inr (.inr (.inl rfl)))
  · exact .inr (.inr (.inr (.inr rfl)))
theorem pded : ∀ (n ln col : Nat) (p : PL2), (List.replicate n (dedent ln col)).foldl (fun p m => p.next m.k m.w) p = ⟨p.rows, p.ws, p.dep - n⟩
  | 0, _, _, p => by
    show p = ⟨p.rows, p.ws, p.dep - ((0 : Nat) : Int)⟩
    rw [show p.dep - ((0 : Nat) : Int) = p.dep by omega]
  | n + 1, ln, col, p => by
    show (List.replicate n (dedent ln col)).foldl _ (⟨p.rows, p.ws, p.dep - 1⟩ : PL2) = _
    rw [pded n]
    show (⟨p.rows, p.ws, p.dep - 1 - (n : Nat)⟩ : PL2) = _
    rw [show p.dep - 1 - (n : Int) = p.dep - ((n + 1 : Nat) : Int) by omega]
theorem joinL_snoc (x : List Nat) : ∀ ws : List (List Nat), ws ≠ [] → TL.joinL [32] (ws ++ [x]) = TL.joinL [32] ws ++ [32] ++ x
  | [], h => absurd rfl h
  | [a], _ => by
    show a ++ ([32] ++ x) = a ++ [32] ++ x
    rw [List.append_assoc]
  | a :: b :: r, _ => by
    have ih := joinL_snoc x (b :: r) (fun z => by cases z)
    show a ++ ([32] ++ TL.joinL [32] (b :: r ++ [x])) = (a ++ ([32] ++ TL.joinL [32] (b :: r))) ++ [32] ++ x
    rw [ih]; simp
/-- a mark that the scanner makes -/
def MOk (m : Mk) : Prop := ((m.k = .newline ∨ m.k = .indent ∨ m.k = .dedent ∨ m.k = .fin) ∧ m.w = .s []) ∨ (TokG m.k m.w (spell m.k m.w) ∧ (spell m.k m.w).length ≤ 238)
theorem mok_app {a b : List Mk} (h1 : ∀ m ∈ a, MOk m) (h2 : ∀ m ∈ b, MOk m) : ∀ m ∈ a ++ b, MOk m := fun m hm => (List.mem_append.mp hm).elim (h1 m) (h2 m)
theorem mok_one {m : Mk} (h : MOk m) : ∀ x ∈ [m], MOk x := fun x hx => by rw [List.mem_singleton.mp hx]; exact h
theorem mok_ded (n ln col : Nat) : ∀ m ∈ List.replicate n (dedent ln col), MOk m := fun m hm => by rw [(List.mem_replicate.mp hm).2]; exact .inl ⟨.inr (.inr (.inl rfl)), rfl⟩
/-! the scanner over the laid rows does as over the given ones -/
def LSt (s : Sc) : LS := (layF L0 s.marks).1
def Lpl (s : Sc) : List Pl := (layF L0 s.marks).2
structure Sim0 (s s' : Sc) : Prop where
  I : SI s
  dep : (LSt s).dep = (s.ind.length : Int) - 1
  ind : s'.ind = (wq s.ind.length).reverse
  many : s'.many = s.many
  br : s'.br.map Mk.w = s.br.map Mk.w
  marks : ∀ d, fillP s.marks (Lpl s) d = s'.marks
  m0 : s.marks = [] → s.ind.length = 1
  rok : ∀ r ∈ (LSt s).rows, r.all rowc = true
  wok : (LSt s).row.all rowc = true
  wk : ∀ m ∈ s.marks, MOk m
  pw : ∃ ws, pF s.marks = ⟨(LSt s).rows, ws, (LSt s).dep⟩ ∧ ((ws = [] ∧ (LSt s).row = []) ∨ (ws ≠ [] ∧ (LSt s).row ≠ [] ∧ (LSt s).row = (pF s.marks).row))
structure SimB (s s' : Sc) : Prop where
  S : Sim0 s s'
  many : s.many = 0
  br : s.br = []
  row : (LSt s).row = []
  scan : scanRows (LSt s).rows 1 sc0 = .ok s'
  last : lastLn s' = (LSt s).rows.length + 1
  tot : blen (LSt s).rows ≤ 240 * s.marks.length
structure SimL (s s' : Sc) : Prop where
  S : Sim0 s s'
  many : s.many ≠ 0
  row : (LSt s).row ≠ []
  L : ∃ p bf, bf ≠ [] ∧ LineSt p s' bf ∧ p.rows = (LSt s).rows ∧ p.cur = (LSt s).row ∧ p.sc = (LSt s).row.length + 1
  tot : blen (LSt s).rows + (LSt s).row.length ≤ 240 * s.marks.length + 44
def Sim (s : Sc) : Prop := ∃ s', SimB s s' ∨ SimL s s'
theorem rep_none : ∀ (n : Nat) (m : Mk) (z : Nat × Nat) (k : Kd) (w : Wd) (ln col : Nat) (d : Nat × Nat), fillP (List.replicate n (⟨k, w, ln, col⟩ : Mk) ++ [m]) (List.replicate n none ++ [some z]) d = List.replicate n (⟨k, w, z.1, z.2⟩ : Mk) ++ [⟨m.k, m.w, z.1, z.2⟩]
  | 0, m, z, k, w, ln, col, d => rfl
  | n + 1, m, z, k, w, ln, col, d => by
    have e : ∀ n, nextp (List.replicate n none ++ [some z]) d = z := by
      intro n
      induction n with
      | zero => rfl
      | succ n ih => exact ih
    show ⟨k, w, (nextp (List.replicate n none ++ [some z]) d).1, (nextp (List.replicate n none ++ [some z]) d).2⟩ :: fillP (List.replicate n (⟨k, w, ln, col⟩ : Mk) ++ [m]) (List.replicate n none ++ [some z]) d = _
    rw [rep_none n, e n]; rfl
theorem lay_ded : ∀ (n : Nat) (st : LS) (ln col : Nat), layF st (List.replicate n (dedent ln col)) = (⟨st.rows, st.row, st.dep - n⟩, List.replicate n none)
  | 0, st, ln, col => by
    show (st, []) = _
    rw [show st.dep - ((0 : Nat) : Int) = st.dep by omega]; rfl
  | n + 1, st, ln, col => by
    show ((layF ⟨st.rows, st.row, st.dep - 1⟩ (List.replicate n (dedent ln col))).1, none :: (layF ⟨st.rows, st.row, st.dep - 1⟩ (List.replicate n (dedent ln col))).2) = _
    rw [lay_ded n]
    show ((⟨st.rows, st.row, st.dep - 1 - (n : Nat)⟩ : LS), none :: List.replicate n none) = _
    rw [show st.dep - 1 - (n : Int) = st.dep - ((n + 1 : Nat) : Int) by omega]; rfl
end D0
namespace D0
open PySem PySem.Spec PyProof.Rows L2 SX NumText
theorem LSt_app {s s2 : Sc} {ms : List Mk} (h : s2.marks = s.marks ++ ms) : LSt s2 = (layF (LSt s) ms).1 ∧ Lpl s2 = Lpl s ++ (layF (LSt s) ms).2 := by
  unfold LSt Lpl
  rw [h, layF_app]; exact ⟨rfl, rfl⟩
theorem Lpl_len (s : Sc) : s.marks.length = (Lpl s).length := (layF_len s.marks L0).symm
theorem all_cat {a b : List Nat} (h1 : a.all rowc = true) (h2 : b.all rowc = true) : (a ++ b).all rowc = true := by rw [List.all_append, h1, h2]; rfl
/-- a word within a line -/
theorem sim_word {s s2 s' : Sc} {k : Kd} {w : Wd} {ln at_ bh : Nat} (x : SimL s s') (ht : TokG k w (spell k w)) (hl : (spell k w).length ≤ 238) (hg : gatherP ⟨k, w, ln, at_⟩ s = .ok s2) (hI : SI { s2 with behind := bh }) : Sim { s2 with behind := bh } := by
  obtain ⟨p, bf, hb, L, e1, e2, e3⟩ := x.L
  obtain ⟨g1, g2, g3, s3, g4, g5, g6, g7, g8⟩ := gather_sim (a' := p.rows.length + 1) (b' := p.cur.length + 1 + 1) hg x.S.many x.S.br
  have L2 := lay_sem (g := 1) L ht (fun z => by cases z) (fun z => absurd z hb) g4 g5 (by rw [g6, g2]; omega)
  obtain ⟨a1, a2⟩ := LSt_app (s := s) (s2 := { s2 with behind := bh }) (ms := [⟨k, w, ln, at_⟩]) g1
  have ho : (LSt s).open_ = (LSt s).row ++ [32] := if_neg x.row
  have en : layF (LSt s) [⟨k, w, ln, at_⟩] = (⟨(LSt s).rows, (LSt s).row ++ [32] ++ spell k w, (LSt s).dep⟩, [some ((LSt s).rows.length + 1, ((LSt s).row ++ [32]).length + 1)]) := by
    show (((LSt s).next k w).1, [((LSt s).next k w).2]) = _
    rw [ht.next, ho]
  rw [en] at a1 a2
  have lcur : p.cur.length = (LSt s).row.length := by rw [e2]
  refine ⟨{ s3 with behind := p.cur.length + 1 + (spell k w).length + 1 }, .inr ⟨⟨hI, by rw [a1]; show _ = ((s2.ind.length : Int) - 1); rw [g3]; exact x.S.dep, by show s3.ind = (wq s2.ind.length).reverse; rw [g7, g3]; exact x.S.ind, g6, g8, fun d => ?_, fun z => ?_, by rw [a1]; exact x.S.rok, by rw [a1]; exact all_cat (all_cat x.S.wok rfl) ht.row1, by show ∀ m ∈ s2.marks, MOk m; rw [g1]; exact mok_app x.S.wk (mok_one (.inr ⟨ht, hl⟩)), ?pw⟩, by show s2.many ≠ 0; omega, ?_, ⟨p.laid 1 k w (spell k w), _, ?_, L2, by rw [a1]; exact e1, ?_, ?_⟩, ?_⟩⟩
  case pw =>
    obtain ⟨ws, p1, ⟨_, z⟩ | ⟨p2, p3, p4⟩⟩ := x.S.pw
    · exact absurd z x.row
    · have p5 : pF s2.marks = ⟨(LSt s).rows, ws ++ [spell k w], (LSt s).dep⟩ := by
        rw [g1, pF_app, p1]; exact ht.pnext _
      refine ⟨ws ++ [spell k w], by rw [a1]; exact p5, .inr ⟨by simp, by rw [a1]; simp, ?_⟩⟩
      rw [a1]
      show (LSt s).row ++ [32] ++ spell k w = (pF s2.marks).row
      rw [p5, p4, p1]
      show (spn (4 * (LSt s).dep.toNat) ++ TL.joinL [32] ws) ++ [32] ++ spell k w = spn (4 * (LSt s).dep.toNat) ++ TL.joinL [32] (ws ++ [spell k w])
      rw [joinL_snoc _ _ p2]; simp
  · show fillP s2.marks _ d = s3.marks
    rw [a2, g1, fillP_app _ _ _ _ _ (Lpl_len s), x.S.marks, g5, e1, e2, List.length_append]; rfl
  · have z : s2.marks = [] := z
    rw [g1] at z; simp at z
  · rw [a1]; simp
  · obtain ⟨c, t, e, _⟩ := ht.head
    rw [e]; simp
  · rw [a1]; show p.cur ++ spn 1 ++ spell k w = _; rw [e2]; rfl
  · rw [a1]
    show (p.cur ++ spn 1).length + (spell k w).length + 1 = ((LSt s).row ++ [32] ++ spell k w).length + 1
    rw [e2, List.length_append, List.length_append, List.length_append, List.length_replicate]; rfl
  · have ht2 := x.tot
    rw [a1]
    show blen (LSt s).rows + ((LSt s).row ++ [32] ++ spell k w).length ≤ 240 * s2.marks.length + 44
    rw [g1, List.length_append, List.length_append, List.length_append]
    simp only [List.length_cons, List.length_nil]
    omega
theorem begin_lay {s s1 s' : Sc} {ln c0 : Nat} (x : SimB s s') (hb : beginLine ln c0 s = .ok s1) : ∃ (kms ms : List Mk) (zs : List Pl) (way : Int),
    0 < s1.ind.length ∧ s1.ind.length ≤ 11 ∧ s1.marks = s.marks ++ kms ∧ MgR ((LSt s).rows.length + 1) (wq s.ind.length) way (wq s1.ind.length) ms ∧
    layF (LSt s) kms = (⟨(LSt s).rows, (LSt s).row, (s1.ind.length : Int) - 1⟩, zs) ∧ zs.length = kms.length ∧
    (∀ (m : Mk) (z d : Nat × Nat), z = ((LSt s).rows.length + 1, 4 * (s1.ind.length - 1) + 1) → fillP (kms ++ [m]) (zs ++ [some z]) d = ms ++ [⟨m.k, m.w, z.1, z.2⟩]) ∧
    (s'.marks ≠ [] ∨ (wq s.ind.length = [0] ∧ way ≠ 2)) ∧ (∀ m ∈ kms, MOk m) ∧ kms.foldl (fun p m => p.next m.k m.w) (pF s.marks) = ⟨(pF s.marks).rows, (pF s.marks).ws, (s1.ind.length : Int) - 1⟩ := by
  obtain ⟨pws, pw1, _⟩ := x.S.pw
  have pdep : (pF s.marks).dep = (s.ind.length : Int) - 1 := by rw [pw1]; exact x.S.dep
  have hII := x.S.I.ind
  have hil := x.S.I.il
  obtain ⟨b1, b2, b3, hbm⟩ := begin_form hb hII
  have hpos : 0 < s.ind.length := List.length_pos_iff.mpr hII.ne
  have hm0 : s'.marks = [] ↔ s.marks = [] := by
    have := congrArg List.length (x.S.marks (0, 0))
    rw [fillP_len _ _ _ (Lpl_len s)] at this
    rw [← List.length_eq_zero_iff, ← List.length_eq_zero_iff, this]
  rcases hbm with ⟨c1, c2, c3, c4⟩ | ⟨c1, c2, c3⟩
  · refine ⟨[indentM ln c0], [indentM ((LSt s).rows.length + 1) (4 * s.ind.length + 1)], [none], 2, by omega, by omega, c4, .inl ⟨4 * s.ind.length, rfl, by rw [wq_len]; omega, by rw [wq_last hpos]; omega, by rw [wq_last hpos]; omega, by rw [c2]; exact wq_succ _, rfl⟩, ?_, rfl, fun m z d hz => ?_, .inl fun h => c1 (hm0.mp h), mok_one (.inl ⟨.inr (.inl rfl), rfl⟩), by
      show (⟨(pF s.marks).rows, (pF s.marks).ws, (pF s.marks).dep + 1⟩ : PL2) = _
      rw [pdep, c2, show (s.ind.length : Int) - 1 + 1 = ((s.ind.length + 1 : Nat) : Int) - 1 by omega]⟩
    · show ((⟨(LSt s).rows, (LSt s).row, (LSt s).dep + 1⟩ : LS), [(none : Pl)]) = _
      rw [x.S.dep, c2, show (s.ind.length : Int) - 1 + 1 = ((s.ind.length + 1 : Nat) : Int) - 1 by omega]
    · have := rep_none 1 m z .indent (.s []) ln c0 d
      rw [hz] at this ⊢
      rw [c2, Nat.add_sub_cancel] at this ⊢
      exact this
  · refine ⟨List.replicate (s.ind.length - s1.ind.length) (dedent ln c0), List.replicate (s.ind.length - s1.ind.length) (dedent ((LSt s).rows.length + 1) (4 * (s1.ind.length - 1) + 1)), List.replicate (s.ind.length - s1.ind.length) none, 3, c1, by omega, c3, .inr ?_, ?_, by rw [List.length_replicate, List.length_replicate], fun m z d hz => ?_, ?_, mok_ded _ _ _, by rw [pded, pdep, show (s.ind.length : Int) - 1 - ((s.ind.length - s1.ind.length : Nat) : Int) = (s1.ind.length : Int) - 1 by omega]⟩
    · obtain ⟨rest, r1, r2⟩ := wq_split c2
      exact ⟨rest, fun z => absurd rfl z, r1, (fun z => by have := congrArg List.length z; rw [wq_len] at this; exact absurd this (by show ¬ s1.ind.length = 0; omega)), by rw [r2, wq_last c1]⟩
    · rw [lay_ded]
      have e : (LSt s).dep - ((s.ind.length - s1.ind.length : Nat) : Int) = (s1.ind.length : Int) - 1 := by rw [x.S.dep]; omega
      rw [e]
    · have := rep_none (s.ind.length - s1.ind.length) m z .dedent (.s []) ln c0 d
      rw [hz] at this ⊢
      exact this
    · by_cases c : s.marks = []
      · right
        have := x.S.m0 c
        rw [this]
        exact ⟨rfl, by decide⟩
      · exact .inl fun h => c (hm0.mp h)
/-- the first word of a line -/
theorem sim_first {s s1 s2 s' : Sc} {k : Kd} {w : Wd} {ln c0 at_ bh : Nat} (x : SimB s s') (hb : beginLine ln c0 s = .ok s1) (ht : TokG k w (spell k w)) (hl : (spell k w).length ≤ 238) (hg : gatherP ⟨k, w, ln, at_⟩ s1 = .ok s2) (hI : SI { s2 with behind := bh }) : Sim { s2 with behind := bh } := by
  obtain ⟨b1, b2, b3, _⟩ := begin_form hb x.S.I.ind
  obtain ⟨kms, ms, zs, way, hn0, hn11, hms, hR, hlay, hzl, hfill, hmk, hwk, hpf⟩ := begin_lay x hb
  have E : EndSt ⟨(LSt s).rows, [], s'.marks, 0, (LSt s).rows.length, 0⟩ s' := ⟨x.scan, by have := x.S.br; rw [x.br] at this; simpa using this, by rw [x.S.many]; exact x.many, rfl, x.last⟩
  obtain ⟨s1', L, q1, q2, q3, _⟩ := margin_sem E x.S.ind (wq_pair _) (by rw [wq_len]; exact x.S.I.il) (fun i y hy => by rw [wq_at hy]; exact Nat.le_refl _) (fun z => by have := congrArg List.length z; rw [wq_len] at this; have h0 := List.length_pos_iff.mpr x.S.I.ind.ne; rw [this] at h0; exact absurd h0 (by decide)) hmk hR
  have elast : (wq s1.ind.length).getLastD 0 = 4 * (s1.ind.length - 1) := wq_last hn0
  rw [elast] at L
  have hbr1 : s1.br = [] := b1.trans x.br
  have hmn1 : s1.many = 0 := b2.trans x.many
  obtain ⟨g1, g2, g3, s3, g4, g5, g6, g7, g8⟩ := gather_sim (s' := s1') (a' := (LSt s).rows.length + 1) (b' := 4 * (s1.ind.length - 1) + 0 + 1) hg (by rw [q1, hmn1]) (by rw [q2, hbr1])
  have hlen : (spn (4 * (s1.ind.length - 1))).length = 4 * (s1.ind.length - 1) := List.length_replicate ..
  have L2 := lay_sem (g := 0) L ht (fun _ => rfl) (fun _ => rfl) (by show gatherP ⟨k, w, (LSt s).rows.length + 1, (spn (4 * (s1.ind.length - 1))).length + 0 + 1⟩ s1' = _; rw [hlen]; exact g4) (by show s3.marks = s1'.marks ++ [⟨k, w, (LSt s).rows.length + 1, (spn (4 * (s1.ind.length - 1))).length + 0 + 1⟩]; rw [hlen]; exact g5) (by rw [g6, g2]; omega)
  have g1' : s2.marks = s.marks ++ (kms ++ [⟨k, w, ln, at_⟩]) := by rw [g1, hms, List.append_assoc]
  obtain ⟨a1, a2⟩ := LSt_app (s := s) (s2 := { s2 with behind := bh }) (ms := kms ++ [⟨k, w, ln, at_⟩]) g1'
  have ho : (⟨(LSt s).rows, (LSt s).row, (s1.ind.length : Int) - 1⟩ : LS).open_ = spn (4 * (s1.ind.length - 1)) := by
    unfold LS.open_
    rw [if_pos x.row, show ((s1.ind.length : Int) - 1).toNat = s1.ind.length - 1 by omega]
  have en : layF (LSt s) (kms ++ [⟨k, w, ln, at_⟩]) = (⟨(LSt s).rows, spn (4 * (s1.ind.length - 1)) ++ spell k w, (s1.ind.length : Int) - 1⟩, zs ++ [some ((LSt s).rows.length + 1, 4 * (s1.ind.length - 1) + 1)]) := by
    rw [layF_app, hlay]
    show (((⟨(LSt s).rows, (LSt s).row, (s1.ind.length : Int) - 1⟩ : LS).next k w).1, zs ++ [((⟨(LSt s).rows, (LSt s).row, (s1.ind.length : Int) - 1⟩ : LS).next k w).2]) = _
    rw [ht.next, ho, hlen]
  rw [en] at a1 a2
  have hs1m : s1'.marks = s'.marks ++ ms := L.marks
  refine ⟨{ s3 with behind := (spn (4 * (s1.ind.length - 1))).length + 0 + (spell k w).length + 1 }, .inr ⟨⟨hI, by rw [a1]; show (s1.ind.length : Int) - 1 = ((s2.ind.length : Int) - 1); rw [g3], by show s3.ind = (wq s2.ind.length).reverse; rw [g7, g3, q3], g6, g8, fun d => ?_, fun z => ?_, by rw [a1]; exact x.S.rok, by rw [a1]; exact all_cat (spn_row _) ht.row1, by show ∀ m ∈ s2.marks, MOk m; rw [g1']; exact mok_app x.S.wk (mok_app hwk (mok_one (.inr ⟨ht, hl⟩))), ?pw⟩, by show s2.many ≠ 0; omega, ?_, ⟨_, _, ?_, L2, by rw [a1]; rfl, ?_, ?_⟩, ?_⟩⟩
  case pw =>
    obtain ⟨ws, p1, pz⟩ := x.S.pw
    have p2 : ws = [] := by
      rcases pz with ⟨a, _⟩ | ⟨_, z, _⟩
      · exact a
      · exact absurd x.row z
    subst p2
    have p5 : pF s2.marks = ⟨(LSt s).rows, [spell k w], (s1.ind.length : Int) - 1⟩ := by
      rw [g1', pF_app, List.foldl_append, hpf, p1]; exact ht.pnext _
    obtain ⟨c, t, e, _⟩ := ht.head
    refine ⟨[spell k w], by rw [a1]; exact p5, .inr ⟨(fun z => by cases z), by rw [a1]; show spn _ ++ spell k w ≠ []; rw [e]; simp, ?_⟩⟩
    rw [a1]
    show spn (4 * (s1.ind.length - 1)) ++ spell k w = (pF s2.marks).row
    rw [p5]
    show _ = spn (4 * ((s1.ind.length : Int) - 1).toNat) ++ spell k w
    rw [show ((s1.ind.length : Int) - 1).toNat = s1.ind.length - 1 by omega]
  · show fillP s2.marks _ d = s3.marks
    rw [a2, g1', fillP_app _ _ _ _ _ (Lpl_len s), x.S.marks, hfill _ _ _ rfl, g5, hs1m, List.append_assoc]
  · have z : s2.marks = [] := z
    rw [g1] at z; simp at z
  · rw [a1]
    obtain ⟨c, t, e, _⟩ := ht.head
    show _ ++ spell k w ≠ []
    rw [e]; simp
  · obtain ⟨c, t, e, _⟩ := ht.head
    rw [e]; simp
  · rw [a1]
    show spn (4 * (s1.ind.length - 1)) ++ spn 0 ++ spell k w = _
    rw [show spn 0 = [] from rfl, List.append_nil]
  · rw [a1]
    show (spn (4 * (s1.ind.length - 1)) ++ spn 0).length + (spell k w).length + 1 = (spn (4 * (s1.ind.length - 1)) ++ spell k w).length + 1
    rw [show spn 0 = [] from rfl, List.append_nil, List.length_append]
  · have ht2 := x.tot
    rw [a1]
    show blen (LSt s).rows + (spn (4 * (s1.ind.length - 1)) ++ spell k w).length ≤ 240 * s2.marks.length + 44
    rw [g1', List.length_append, List.length_append, List.length_append, hlen]
    simp only [List.length_cons, List.length_nil]
    omega
/-- the end of a row -/
theorem sim_fin {s : Sc} {ln : Nat} (x : Sim s) (hI : SI (fin ln s)) : Sim (fin ln s) ∧ ((fin ln s).many = 0 ∨ (fin ln s).br ≠ []) := by
  obtain ⟨s', x | x⟩ := x
  · have e : fin ln s = s := if_neg fun z => by rw [x.many] at z; exact absurd z.1 (Nat.lt_irrefl 0)
    rw [e]
    exact ⟨⟨s', .inl x⟩, .inl x.many⟩
  · by_cases c : s.br = []
    · have e : fin ln s = endLine ln s := if_pos ⟨Nat.pos_of_ne_zero x.many, c⟩
      rw [e] at hI ⊢
      obtain ⟨p, bf, hb, L, e1, e2, e3⟩ := x.L
      have hbr' : s'.br = [] := by have := x.S.br; rw [c] at this; simpa using this
      have E := end_sem (tl := []) (bl := []) L hb hbr' ⟨0, [], rfl, .inl rfl⟩ (fun r hr => by cases hr)
      obtain ⟨a1, a2⟩ := LSt_app (s := s) (s2 := endLine ln s) (ms := [⟨.newline, .s [], ln, s.behind⟩]) rfl
      have en : layF (LSt s) [⟨.newline, .s [], ln, s.behind⟩] = (⟨(LSt s).rows ++ [(LSt s).row], [], (LSt s).dep⟩, [some ((LSt s).rows.length + 1, (LSt s).row.length + 1)]) := rfl
      rw [en] at a1 a2
      obtain ⟨sp1, sp2, sp3⟩ := L.spot hb
      refine ⟨⟨endLine (p.rows.length + 1) s', .inl ⟨⟨hI, by rw [a1]; exact x.S.dep, x.S.ind, rfl, x.S.br, fun d => ?_, fun z => ?_, ?_, by rw [a1]; rfl, mok_app x.S.wk (mok_one (.inl ⟨.inl rfl, rfl⟩)), ?pw⟩, rfl, c, by rw [a1], ?_, ?_, ?_⟩⟩, .inl rfl⟩
      case pw =>
        obtain ⟨ws, p1, ⟨_, z⟩ | ⟨p2, p3, p4⟩⟩ := x.S.pw
        · exact absurd z x.row
        · refine ⟨[], ?_, .inl ⟨rfl, by rw [a1]⟩⟩
          rw [a1]
          show pF (s.marks ++ [⟨.newline, .s [], ln, s.behind⟩]) = _
          rw [pF_app]
          show (⟨(pF s.marks).rows ++ [(pF s.marks).row], [], (pF s.marks).dep⟩ : PL2) = _
          rw [← p4, p1]
      · show fillP (s.marks ++ [⟨.newline, .s [], ln, s.behind⟩]) _ d = s'.marks ++ [⟨.newline, .s [], p.rows.length + 1, s'.behind⟩]
        rw [a2, fillP_app _ _ _ _ _ (Lpl_len s), x.S.marks, ← sp2, e3, e1]; rfl
      · have z : s.marks ++ [(⟨.newline, .s [], ln, s.behind⟩ : Mk)] = [] := z
        simp at z
      · rw [a1]
        intro r hr
        rcases List.mem_append.mp hr with h | h
        · exact x.S.rok r h
        · rw [List.mem_singleton.mp h]; exact x.S.wok
      · have h := E.scan
        rw [a1]
        have er : ((Pg.mk p.rows p.cur (p.marks ++ [⟨.newline, .s [], p.sl, p.sc⟩]) p.tot p.sl p.sc).ended [] []).rows = (LSt s).rows ++ [(LSt s).row] := by
          show (p.rows ++ [p.cur ++ []]) ++ [] = _
          rw [List.append_nil, List.append_nil, e1, e2]
        rw [er] at h
        exact h
      · have h := E.last
        rw [a1]
        show lastLn (endLine (p.rows.length + 1) s') = ((LSt s).rows ++ [(LSt s).row]).length + 1
        rw [h]
        show p.sl + 1 = _
        rw [sp1, e1, List.length_append]; rfl
      · have ht2 := x.tot
        rw [a1]
        show blen ((LSt s).rows ++ [(LSt s).row]) ≤ 240 * (s.marks ++ [_]).length
        unfold blen at ht2 ⊢
        rw [List.map_append, List.sum_append, List.length_append]
        simp only [List.map_cons, List.map_nil, List.sum_cons, List.sum_nil, List.length_cons, List.length_nil]
        omega
    · have e : fin ln s = s := if_neg fun z => c z.2
      rw [e]
      exact ⟨⟨s', .inr x⟩, .inr c⟩
theorem sim_step {l : List Nat} {ln at_ : Nat} {s : Sc} {r : Nat × Sc} (x : Sim s) (hr : l.all rowc = true) (h120 : l.length ≤ 120) (h : stepR l ln at_ s = .ok r) (hI : SI r.2) : Sim r.2 := by
  unfold stepR at h
  have htok : ∀ s1, tokS l ln at_ s1 = .ok r → ∃ k w c s2, TokG k w (spell k w) ∧ (spell k w).length ≤ 238 ∧ gatherP ⟨k, w, ln, at_ + 1⟩ s1 = .ok s2 ∧ r.2 = { s2 with behind := c } := by
    intro s1 h
    unfold tokS at h
    cases ht : scanTok l at_ with
    | error c => rw [ht] at h; cases h
    | ok t =>
      rw [ht] at h
      obtain ⟨h1, h2⟩ := scanned ht hr h120
      have h : (gatherP ⟨t.1, t.2.1, ln, at_ + 1⟩ s1).map (fun s2 => (twl spc l t.2.2, { s2 with behind := t.2.2 + 1 })) = .ok r := h
      cases hg : gatherP ⟨t.1, t.2.1, ln, at_ + 1⟩ s1 with
      | error e => rw [hg] at h; cases h
      | ok s2 =>
        rw [hg] at h
        cases h
        exact ⟨_, _, _, s2, h1, h2, hg, rfl⟩
  unfold beg at h
  obtain ⟨s', x | x⟩ := x
  · rw [if_pos x.many] at h
    cases hb : beginLine ln (at_ + 1) s with
    | error e => rw [hb] at h; cases h
    | ok s1 =>
      rw [hb] at h
      obtain ⟨k, w, c, s2, t1, t2, t3, t4⟩ := htok s1 h
      rw [t4] at hI ⊢
      exact sim_first x hb t1 t2 t3 hI
  · rw [if_neg x.many] at h
    obtain ⟨k, w, c, s2, t1, t2, t3, t4⟩ := htok s h
    rw [t4] at hI ⊢
    exact sim_word x t1 t2 t3 hI
end D0
namespace D0
open PySem PySem.Spec PyProof.Rows L2 SX NumText
theorem sim_run {l : List Nat} {ln : Nat} (hr : l.all rowc = true) (h120 : l.length ≤ 120) : ∀ {f at_ : Nat} {s s2 : Sc}, runRow l ln f at_ s = .ok s2 → SI s → Sim s → at_ ≤ l.length → Sim s2 ∧ SI s2
  | 0, at_, s, s2, h, hs, x, ha => by
    have : s = s2 := by unfold runRow at h; exact Except.ok.inj h
    subst this; exact ⟨x, hs⟩
  | f + 1, at_, s, s2, h, hs, x, ha => by
    unfold runRow at h
    by_cases hh : here l at_ = true
    · rw [if_pos hh] at h
      have hat : at_ < l.length := by
        unfold here at hh
        rw [Bool.and_eq_true] at hh
        exact of_decide_eq_true hh.1
      cases hst : stepR l ln at_ s with
      | error e => rw [hst] at h; cases h
      | ok r =>
        rw [hst] at h
        have h : runRow l ln f r.1 r.2 = .ok s2 := h
        have hst0 := hst
        unfold stepR at hst
        cases hb : beg ln at_ s with
        | error e => rw [hb] at hst; cases hst
        | ok s1 =>
          rw [hb] at hst
          have hst : tokS l ln at_ s1 = .ok r := hst
          have h1 : SI s1 := by
            unfold beg at hb
            split at hb
            · exact (begin_ok hb hs).1
            · cases hb; exact hs
          obtain ⟨g1, g2, g3, g4⟩ := tokS_ok hat h1 hst
          exact sim_run hr h120 h g3 (sim_step x hr h120 hst0 g3) g2
    · rw [if_neg hh] at h
      cases h
      exact ⟨x, hs⟩
theorem sim_row {l : List Nat} {ln : Nat} {s s2 : Sc} (h : scanRow l ln s = .ok s2) (hs : SI s) (x : Sim s) (hr : l.all rowc = true) (h120 : l.length ≤ 120) : Sim s2 ∧ SI s2 ∧ (s2.many = 0 ∨ s2.br ≠ []) := by
  have hI := (scanRow_ok h hs h120).1
  unfold scanRow at h
  cases hrun : runRow l ln (l.length + 1) (twl spc l 0) s with
  | error e => rw [hrun] at h; cases h
  | ok s1 =>
    rw [hrun] at h
    cases h
    obtain ⟨x1, h1⟩ := sim_run hr h120 hrun hs x (twl_le (Nat.zero_le _))
    obtain ⟨x2, h2⟩ := sim_fin x1 hI
    exact ⟨x2, hI, h2⟩
theorem sim_rows : ∀ {rs : List (List Nat)} {ln : Nat} {s s2 : Sc}, scanRows rs ln s = .ok s2 → SI s → Sim s → (s.many = 0 ∨ s.br ≠ []) → (∀ r ∈ rs, r.all rowc = true ∧ r.length ≤ 120) → Sim s2 ∧ SI s2 ∧ (s2.many = 0 ∨ s2.br ≠ [])
  | [], ln, s, s2, h, hs, x, hm, _ => by cases h; exact ⟨x, hs, hm⟩
  | r :: rs, ln, s, s2, h, hs, x, hm, ha => by
    have h : (scanRow r ln s).bind (scanRows rs (ln + 1)) = .ok s2 := h
    cases hx : scanRow r ln s with
    | error e => rw [hx] at h; cases h
    | ok s1 =>
      rw [hx] at h
      obtain ⟨a1, a2⟩ := ha r List.mem_cons_self
      obtain ⟨x1, h1, h2⟩ := sim_row hx hs x a1 a2
      exact sim_rows h h1 x1 h2 fun q hq => ha q (List.mem_cons_of_mem _ hq)
theorem sim0 : Sim sc0 := ⟨sc0, .inl ⟨⟨SI0, rfl, rfl, rfl, rfl, fun _ => rfl, fun _ => rfl, (fun r hr => by cases hr), rfl, (fun m hm => by cases hm), ⟨[], rfl, .inl ⟨rfl, rfl⟩⟩⟩, rfl, rfl, rfl, rfl, rfl, Nat.le_refl _⟩⟩
/-- the text of rows, each with its end -/
def txtL (rows : List (List Nat)) : List Nat := rows.flatMap fun r => r ++ [10]
theorem txtL_len : ∀ rows : List (List Nat), (txtL rows).length = blen rows
  | [] => rfl
  | r :: rs => by
    have ih := txtL_len rs
    show ((r ++ [10]) ++ txtL rs).length = r.length + 1 + blen rs
    rw [List.length_append, List.length_append, ih]; rfl
theorem rowsOf_txtL : ∀ rows : List (List Nat), (∀ r ∈ rows, 10 ∉ r) → rowsOf (txtL rows) = rows ++ [[]]
  | [], _ => rfl
  | r :: rs, h => by
    have ih := rowsOf_txtL rs fun x hx => h x (List.mem_cons_of_mem _ hx)
    have e : txtL (r :: rs) = r ++ 10 :: txtL rs := by
      show (r ++ [10]) ++ txtL rs = _
      rw [List.append_assoc]; rfl
    rw [e]
    show TL.spl [10] 0 [] (r ++ 10 :: txtL rs) = _
    rw [spl_row r [] _ (h r List.mem_cons_self)]
    show r :: rowsOf (txtL rs) = _
    rw [ih]; rfl
theorem checkRows_all {l : List Nat} {rs : List (List Nat)} (h : checkRows l = .ok rs) : ∀ r ∈ rs, r.all rowc = true ∧ r.length ≤ 120 := by
  obtain ⟨_, h2, h3⟩ := checkRows_ok h
  intro r hr
  refine ⟨?_, h2 r hr⟩
  unfold checkRows at h
  split at h
  · cases h
  · cases hb : badAt (rowsOf l) 1 with
    | some e => rw [hb] at h; cases h
    | none =>
      have hn : ∀ {rs : List (List Nat)} {n : Nat}, badAt rs n = none → ∀ r ∈ rs, rowBad r = none := by
        intro rs
        induction rs with
        | nil => intro n _ r hr; cases hr
        | cons x y ih =>
          intro n h r hr
          unfold badAt at h
          cases hx : rowBad x with
          | some j => rw [hx] at h; cases h
          | none =>
            rw [hx] at h
            rcases List.mem_cons.mp hr with rfl | hr
            · exact hx
            · exact ih h r hr
      have := hn hb r (h3 ▸ hr)
      unfold rowBad at this
      rw [List.findIdx?_eq_none_iff] at this
      rw [List.all_eq_true]
      intro c hc
      have := this c hc
      simpa using this
/-- laid again, the marks are read again -/
theorem relay {l : List Nat} {ms : List Mk} (h : tokensP l = .ok ms) : ∃ rows : List (List Nat), (layF L0 ms).1 = ⟨rows, [], 0⟩ ∧ (∀ r ∈ rows, r.all rowc = true) ∧ blen rows ≤ 240 * ms.length ∧ (∀ m ∈ ms, MOk m) ∧ pF ms = ⟨rows, [], 0⟩ ∧ (∃ z0 p0, (layF L0 ms).2 = z0 ++ [some p0]) ∧
    (6000 < (txtL rows).length → tokensP (txtL rows) = .error (.long, 1, 1)) ∧
    ((txtL rows).length ≤ 6000 → ∀ n, longAt rows 1 = some n → tokensP (txtL rows) = .error (.long, n, 121)) ∧
    ((txtL rows).length ≤ 6000 → longAt rows 1 = none → tokensP (txtL rows) = .ok (fillP ms (layF L0 ms).2 (0, 0))) := by
  unfold tokensP at h
  cases hc : checkRows l with
  | error e => rw [hc] at h; cases h
  | ok rs =>
  rw [hc] at h
  have h : ((scanRows rs 1 sc0).bind fun s => (endText s).map Sc.marks) = .ok ms := h
  cases hs : scanRows rs 1 sc0 with
  | error e => rw [hs] at h; cases h
  | ok s =>
  rw [hs] at h
  have h : (endText s).map Sc.marks = .ok ms := h
  obtain ⟨x, hI, hm⟩ := sim_rows hs SI0 sim0 (.inl rfl) (checkRows_all hc)
  cases hbr : s.br with
  | cons b r => unfold endText at h; rw [hbr] at h; cases h
  | nil =>
  have hms : ms = s.marks ++ (List.replicate (s.ind.length - 1) (dedent (lastLn s) 1) ++ [⟨.fin, .s [], lastLn s, 1⟩]) := by
    unfold endText at h
    rw [hbr] at h
    cases h
    rw [List.append_assoc]
  obtain ⟨s', x⟩ := x
  have x : SimB s s' := x.resolve_right fun x => by
    rcases hm with hm | hm
    · exact absurd hm x.many
    · exact absurd hbr hm
  have hpos : 0 < s.ind.length := List.length_pos_iff.mpr hI.ind.ne
  have en : layF (LSt s) (List.replicate (s.ind.length - 1) (dedent (lastLn s) 1) ++ [⟨.fin, .s [], lastLn s, 1⟩]) = (⟨(LSt s).rows, [], 0⟩, List.replicate (s.ind.length - 1) none ++ [some ((LSt s).rows.length + 1, 1)]) := by
    rw [layF_app, lay_ded]
    have e0 : (LSt s).dep - ((s.ind.length - 1 : Nat) : Int) = 0 := by rw [x.S.dep]; omega
    rw [e0]
    show ((⟨(LSt s).rows, (LSt s).row, 0⟩ : LS), List.replicate (s.ind.length - 1) none ++ [some ((LSt s).rows.length + 1, (LSt s).row.length + 1)]) = _
    rw [x.row]; rfl
  have e1 : layF L0 ms = (⟨(LSt s).rows, [], 0⟩, Lpl s ++ (List.replicate (s.ind.length - 1) none ++ [some ((LSt s).rows.length + 1, 1)])) := by
    rw [hms, layF_app]
    show ((layF (LSt s) _).1, Lpl s ++ (layF (LSt s) _).2) = _
    rw [en]
  have n10 : ∀ r ∈ (LSt s).rows, 10 ∉ r := fun r hr z => by
    have := List.all_eq_true.mp (x.S.rok r hr) 10 z
    cases this
  have hro := rowsOf_txtL _ n10
  have hbad : badAt ((LSt s).rows ++ [[]]) 1 = none := badAt_none fun r hr => by
    have hr2 : r.all rowc = true := by
      rcases List.mem_append.mp hr with h | h
      · exact x.S.rok r h
      · rw [List.mem_singleton.mp h]; rfl
    unfold rowBad
    rw [List.findIdx?_eq_none_iff]
    intro c hc
    rw [List.all_eq_true.mp hr2 c hc]; rfl
  have hlong : ∀ (rows : List (List Nat)) (n : Nat), longAt (rows ++ [[]]) n = longAt rows n := by
    intro rows
    induction rows with
    | nil => intro n; rfl
    | cons r rs ih =>
      intro n
      show (if 120 < r.length then some n else longAt (rs ++ [[]]) (n + 1)) = if 120 < r.length then some n else longAt rs (n + 1)
      rw [ih]
  have hcr : (txtL (LSt s).rows).length ≤ 6000 → checkRows (txtL (LSt s).rows) = match longAt (LSt s).rows 1 with
      | some n => .error (.long, n, 121)
      | none => .ok ((LSt s).rows ++ [[]]) := fun hl => by
    unfold checkRows
    rw [if_neg (by omega), hro, hbad]
    dsimp only
    rw [hlong]
    all_goals (cases longAt (LSt s).rows 1 <;> rfl)
  refine ⟨(LSt s).rows, by rw [e1], x.S.rok, ?_, by rw [hms]; exact mok_app x.S.wk (mok_app (mok_ded _ _ _) (mok_one (.inl ⟨.inr (.inr (.inr rfl)), rfl⟩))), ?pw, ⟨Lpl s ++ List.replicate (s.ind.length - 1) none, ((LSt s).rows.length + 1, 1), by rw [e1, List.append_assoc]⟩, fun hl => ?_, fun hl n hn => ?_, fun hl hn => ?_⟩
  case pw =>
    obtain ⟨ws, p1, pz⟩ := x.S.pw
    have p2 : ws = [] := by
      rcases pz with ⟨a, _⟩ | ⟨_, z, _⟩
      · exact a
      · exact absurd x.row z
    subst p2
    rw [hms, pF_app, List.foldl_append, pded, p1]
    show (⟨(LSt s).rows, [], (LSt s).dep - ((s.ind.length - 1 : Nat) : Int)⟩ : PL2) = _
    rw [x.S.dep, show (s.ind.length : Int) - 1 - ((s.ind.length - 1 : Nat) : Int) = 0 by omega]
  · have := x.tot
    rw [hms, List.length_append]; omega
  · unfold tokensP checkRows
    rw [if_pos hl]; rfl
  · unfold tokensP
    rw [hcr hl, hn]; rfl
  · unfold tokensP
    rw [hcr hl, hn]
    have hf : ∀ ln, fin ln s' = s' := fun ln => if_neg fun z => by rw [x.S.many, x.many] at z; exact absurd z.1 (Nat.lt_irrefl 0)
    have hsc := scan_blanks [[]] _ s' (fun r hr => by rw [List.mem_singleton.mp hr]; exact ⟨0, [], rfl, .inl rfl⟩) hf x.scan
    show ((scanRows ((LSt s).rows ++ [[]]) 1 sc0).bind fun s => (endText s).map Sc.marks) = _
    rw [hsc]
    show (endText s').map Sc.marks = _
    have hbr' : s'.br = [] := by have := x.S.br; rw [hbr] at this; simpa using this
    unfold endText
    rw [hbr', x.last, x.S.ind, List.length_reverse, wq_len, e1, hms, fillP_app _ _ _ _ _ (Lpl_len s), x.S.marks]
    have := rep_none (s.ind.length - 1) ⟨.fin, .s [], lastLn s, 1⟩ ((LSt s).rows.length + 1, 1) .dedent (.s []) (lastLn s) 1 (0, 0)
    show _ = Except.ok (s'.marks ++ fillP (List.replicate (s.ind.length - 1) (⟨.dedent, .s [], lastLn s, 1⟩ : Mk) ++ [⟨.fin, .s [], lastLn s, 1⟩]) (List.replicate (s.ind.length - 1) none ++ [some ((LSt s).rows.length + 1, 1)]) (0, 0))
    rw [this]
    show Except.ok (_ ++ _ ++ _) = _
    rw [List.append_assoc]; rfl
/-- laying looks at kinds and words alone -/
theorem lay_kw : ∀ (a b : List Mk) (st : LS), a.map (fun m => (m.k, m.w)) = b.map (fun m => (m.k, m.w)) → layF st a = layF st b
  | [], [], _, _ => rfl
  | [], m :: b, _, h => by cases h
  | m :: a, [], _, h => by cases h
  | m :: a, n :: b, st, h => by
    injection h with h1 h2
    injection h1 with h3 h4
    show ((layF (st.next m.k m.w).1 a).1, (st.next m.k m.w).2 :: (layF (st.next m.k m.w).1 a).2) = ((layF (st.next n.k n.w).1 b).1, (st.next n.k n.w).2 :: (layF (st.next n.k n.w).1 b).2)
    have h3 : m.k = n.k := h3
    have h4 : m.w = n.w := h4
    rw [h3, h4, lay_kw a b _ h2]
theorem fill_kw : ∀ (a : List Mk) (za : List Pl) (d : Nat × Nat), a.length = za.length → (fillP a za d).map (fun m => (m.k, m.w)) = a.map (fun m => (m.k, m.w))
  | [], _, _, _ => rfl
  | m :: a, [], d, h => by cases h
  | m :: a, z :: za, d, h => by
    show (m.k, m.w) :: (fillP a za d).map (fun m => (m.k, m.w)) = _
    rw [fill_kw a za d (Nat.succ.inj h)]; rfl
end D0
namespace D0
open PySem PySem.Spec PyProof.Rows L2 SX NumText
def escc (c : Nat) : List Nat := if c = 92 then [92, 92] else if c = 34 then [92, 34] else if c = 10 then [92, 110] else [c]
theorem escc_eq : escc = esc1 := by
  funext c
  unfold escc esc1 escd
  by_cases h1 : c = 92
  · subst h1; rfl
  · by_cases h2 : c = 34
    · subst h2; rfl
    · by_cases h3 : c = 10
      · subst h3; rfl
      · rw [if_neg h1, if_neg h2, if_neg h3, decide_eq_false (by omega)]; rfl
theorem repl1 (y : Nat) (z : List Nat) : ∀ l : List Nat, PySem.StrLaws.replL [y] z l = l.flatMap fun c => if c = y then z else [c]
  | [] => PySem.StrLaws.replL_nil
  | c :: r => by
    by_cases h : c = y
    · rw [PySem.StrLaws.replL_hit (by simp) (by simp [h]), List.flatMap_cons, if_pos h]
      show z ++ PySem.StrLaws.replL [y] z r = _
      rw [repl1 y z r]
    · rw [PySem.StrLaws.replL_miss (by simp [h]), List.flatMap_cons, if_neg h, repl1 y z r]
      rfl
theorem replace_S (y : Nat) (z l : List Nat) : Txt.replace (S l) (S [y]) (S z) = S (l.flatMap fun c => if c = y then z else [c]) := by
  refine TL.ext_tl ?_
  show (Txt.replace (S l) (S [y]) (S z)).cps.toList = _
  rw [PySem.StrLaws.replace_list (by rw [S_len]; exact Nat.le_refl 1)]
  exact repl1 y z l
theorem esc3 (l : List Nat) : ((l.flatMap fun c => if c = 92 then [92, 92] else [c]).flatMap fun c => if c = 34 then [92, 34] else [c]).flatMap (fun c => if c = 10 then [92, 110] else [c]) = l.flatMap esc1 := by
  rw [List.flatMap_assoc, List.flatMap_assoc, ← escc_eq]
  congr 1
  funext c
  unfold escc
  by_cases h1 : c = 92
  · subst h1; rfl
  · by_cases h2 : c = 34
    · subst h2; rfl
    · by_cases h3 : c = 10
      · subst h3; rfl
      · simp [h1, h2, h3]
theorem fm_len {f : Nat → List Nat} {k : Nat} (h : ∀ c, (f c).length ≤ k) : ∀ l : List Nat, (l.flatMap f).length ≤ k * l.length
  | [] => by simp
  | c :: r => by
    rw [List.flatMap_cons, List.length_append, List.length_cons, Nat.mul_succ]
    have := h c
    have := fm_len h r
    omega
theorem len2 (y : Nat) (z l : List Nat) (hz : z.length = 2) : (l.flatMap fun c => if c = y then z else [c]).length ≤ 2 * l.length :=
  fm_len (fun c => by split <;> simp [hz]) l
theorem esc_len (l : List Nat) : (l.flatMap esc1).length ≤ 2 * l.length := fm_len (fun c => unitSp_len _) l
def spQuo : Sp := fun vs H Q _ => ∃ l : List Nat, vs = [.str (S l)] ∧ l.length ≤ 100000 ∧ Q (.str (S (quo l))) H
section
variable {X : Cx} {e : Expr} {te : TE} {pos : Pos}
theorem pst_set {i : Nat} {x : Str} {pos' : Pos} (hN : X.N.Nodup) (hi : X.N[i]? = some x) (hx : Loc X.env.scope x) (he : PET X e te) (hs : swapsWith e (some (.Name x pos')) pos.line X.env = pure false := by rfl) (hf : X.fn x = true ∨ X.env.scope.names.lookup x = some .local := by first | exact .inl rfl | exact .inr rfl | assumption) :
    PST X (.Assign [.Name x pos'] e pos) (tAsg te (gName i)) := by
  intro pins s σ H D h0 I h
  refine wpAny_Assign_Name (thn (he pins s σ H _ h0 I h) fun v s1 ⟨y, H1, I1, r1, q1⟩ => ?_) hs
  exact store_ok I1 hN hi hx r1 (fun s2 I2 => ⟨_, H1, I2, q1⟩) hf
end
def isT : Kd → Bool
  | .text => true
  | _ => false
theorem kd_dec (k j : Kd) : decide (V.str (S k.cp) = V.str (S j.cp)) = decide (k.cp = j.cp) := str_dec ..
/-- a word and its kind -/
def WOK (k : Kd) (w : Wd) : Prop := TokG k w (spell k w) ∧ (spell k w).length ≤ 238
def spWrit : Sp := fun vs H Q _ => ∃ (k : Kd) (w : Wd), vs = [.str (S k.cp), w.v] ∧ WOK k w ∧ Q (.str (S (spell k w))) H
theorem text_s {l : List Nat} {k : Kd} (h : WOK k (.s l)) : l.length ≤ 238 := by
  have h2 := h.2
  have q : ∀ w : List Nat, w.length ≤ (quo w).length := by
    intro w
    unfold quo
    rw [List.length_cons, List.length_append]
    have : ∀ w : List Nat, w.length ≤ (w.flatMap esc1).length := by
      intro w
      induction w with
      | nil => exact Nat.le_refl _
      | cons c r ih =>
        rw [List.flatMap_cons, List.length_append, List.length_cons]
        have : 1 ≤ (esc1 c).length := by
          unfold esc1
          cases escd c
          · exact Nat.le_refl 1
          · show 1 ≤ 2; decide
        omega
    have := this w
    omega
  cases k <;> first | exact h2 | exact Nat.le_trans (q l) h2
theorem dv_lt : ∀ l : List Nat, AllDigits l → digitsVal l < 10 ^ l.length := by
  refine snoc_ind (fun _ => by decide) ?_
  intro l a ih hd
  have ha := hd a (by simp)
  have := ih (fun c hc => hd c (List.mem_append_left _ hc))
  rw [dv_snoc, List.length_append, List.length_singleton, Nat.pow_succ]
  omega
theorem num_n {n : Nat} {k : Kd} (h : WOK k (.n n)) : k = .number ∧ n < 10 ^ 40 := by
  rcases h.1 with ⟨_, _, z⟩ | ⟨⟨f1, f2, _⟩, rfl, z⟩ | ⟨_, _, _, _, z⟩ | ⟨_, _, z⟩
  · cases z
  · refine ⟨rfl, ?_⟩
    have hz : n = digitsVal (spell .number (.n n)) := Wd.n.inj z
    have := dv_lt (spell .number (.n n)) (fun c hc => of_decide_eq_true (List.all_eq_true.mp f2 c hc))
    rw [← hz] at this
    exact Nat.lt_of_lt_of_le this (Nat.pow_le_pow_right (by decide) f1)
  · cases z
  · cases z
theorem log_small {n : Nat} (h : n < 10 ^ 40) : ((n : Int)).natAbs.log2 < 1920 := by
  rw [Int.natAbs_natCast]
  by_cases z : n = 0
  · subst z; decide
  · exact (Nat.log2_lt z).mpr (Nat.lt_of_lt_of_le h (by decide +kernel))
section
variable {P : Program} {w : World} {K : PySem.W.Frag} {mg : Str → Option Value} {base : Heap}
theorem ok_quoted (G : Gv K mg "quoted" s_quoted p_quoted) : OkD P w K mg base CX0 1 "quoted" p_quoted spQuo := by
  refine G.okT sc_quoted (by decide +kernel) (by decide) (fun vs H Q E h => ?_) (fun f cdv A outer s H vs Q E hr h => ?_)
  · obtain ⟨l, rfl, _⟩ := h; rfl
  obtain ⟨l, rfl, hl, q⟩ := h
  refine ⟨_, psst_cons (pst_set (i := 1) sc_quoted.nd rfl (.inl rfl) (CwR.pet_replT (CwR.pet_replT (CwR.pet_replT (CwR.PET.of (pv 0))))))
    (CwR.psst_one (PST.of (ps_ret (pe_op op_add_str (pe_op op_add_str pe_str (pv 1)) pe_str)))), ?_⟩
  have e1 : (Str.ofString "\\") = S [92] := by decide +kernel
  have e2 : (Str.ofString "\\\\") = S [92, 92] := by decide +kernel
  have e3 : (Str.ofString "\"") = S [34] := by decide +kernel
  have e4 : (Str.ofString "\\\"") = S [92, 34] := by decide +kernel
  have e5 : (Str.ofString "\n") = S [10] := by decide +kernel
  have e6 : (Str.ofString "\\n") = S [92, 110] := by decide +kernel
  refine ⟨_, rfl, S l, rfl, ?_, ?_⟩
  · rw [e2, S_len, S_len]
    show l.length + (l.length + 1) * 2 ≤ _
    omega
  rw [e1, e2, replace_S]
  have h1 := len2 92 [92, 92] l rfl
  refine ⟨_, rfl, ?_, ?_⟩
  · rw [e4, S_len, S_len]
    show _ + (_ + 1) * 2 ≤ _
    omega
  rw [e3, e4, replace_S]
  have h2 := len2 34 [92, 34] (l.flatMap fun c => if c = 92 then [92, 92] else [c]) rfl
  refine ⟨_, rfl, ?_, ?_⟩
  · rw [e6, S_len, S_len]
    show _ + (_ + 1) * 2 ≤ _
    omega
  rw [e5, e6, replace_S, esc3]
  have h3 := esc_len l
  have hb : (3000000 : Nat) ≤ sizeLine := by decide
  refine ⟨_, rfl, _, _, rfl, rfl, ?_, _, _, rfl, rfl, ?_, ?_⟩
  · rw [S_len, S_len]
    show 1 + _ ≤ _
    omega
  · rw [S_cat, S_len, S_len]
    show ([34] ++ l.flatMap esc1).length + 1 ≤ _
    rw [List.length_append]
    show (1 + _) + 1 ≤ _
    omega
  · rw [S_cat, S_cat]
    exact q
theorem ok_written (T : Txt K w mg) (Oq : OkD P w K mg base CX0 1 "quoted" p_quoted spQuo) : OkD P w K mg base CX0 2 "written" p_written spWrit := by
  refine T.g_written.ok sc_written (fun vs H Q E h => ?_) (fun f cdv A outer s H vs Q E hr h => ?_)
  · obtain ⟨k, w, rfl, _⟩ := h; rfl
  obtain ⟨k, wd, rfl, hw, q⟩ := h
  have zt : Str.ofString "text" = S (Kd.cp .text) := by decide +kernel
  cases wd with
  | n n =>
    obtain ⟨rfl, hn⟩ := num_n hw
    refine ⟨_, (pss_cons (ps_if (pt_cmpR op_eq (pv 0) pe_str (nomark _)) (pss_one (ps_ret (pcall Oq hr (pa_cons (pv 1) pa_nil)))) pss_nil)
      (pss_one (ps_ret (pe_callTy call_str_int (by rfl) T.z_str PyProof.Rows.boot_str (pa_cons (pv 1) pa_nil))))), ?_⟩
    refine ⟨_, rfl, rfl, _, rfl, iteF' (by rw [zt, kd_dec]; rfl) ⟨_, rfl, _, rfl, log_small hn, ?_⟩⟩
    rw [num_S]
    exact q
  | s l =>
    have hl := text_s hw
    refine ⟨_, (pss_cons (ps_if (pt_cmpR op_eq (pv 0) pe_str (nomark _)) (pss_one (ps_ret (pcall Oq hr (pa_cons (pv 1) pa_nil)))) pss_nil)
      (pss_one (ps_ret (pe_callTy SkE.call_str_str (by rfl) T.z_str PyProof.Rows.boot_str (pa_cons (pv 1) pa_nil))))), ?_⟩
    refine ⟨_, rfl, rfl, _, rfl, ?_⟩
    rw [zt, kd_dec]
    by_cases c : k = .text
    · subst c
      exact iteT' (by rfl) ⟨_, rfl, l, rfl, by omega, q⟩
    · refine iteF' (by cases k <;> first | rfl | exact absurd rfl c) ⟨_, rfl, _, rfl, ?_⟩
      have e : spell k (.s l) = l := by cases k <;> first | rfl | exact absurd rfl c
      rw [e] at q
      exact q
end
end D0
namespace D0
open PySem PySem.Spec PyProof.Rows L2 SX NumText
theorem mul_ok4 {n : Int} (h0 : -5000 ≤ n) (h1 : n ≤ 5000) : MulOk (S [32, 32, 32, 32]) n := by
  have hz : (S [32, 32, 32, 32]).length = 4 := rfl
  refine ⟨?_, fun a _ => ?_, fun _ _ => ?_⟩
  · rw [Bool.or_eq_false_iff]
    exact ⟨decide_eq_false (by omega), decide_eq_false (by omega)⟩
  · rw [hz]
    have : (4 : Int) ≤ (2 ^ 63 - 1) / n := (Int.le_ediv_iff_mul_le (by omega)).mpr (by omega)
    omega
  · rw [hz]
    show decide (4 * n.toNat > sizeLine) = false
    refine decide_eq_false ?_
    have : sizeLine = 16777216 := sizeLine_eq
    omega
theorem rep_eq4 : ∀ (m : Nat) (acc : Array Nat), (List.replicate m #[32, 32, 32, 32]).foldl (· ++ ·) acc = acc ++ (List.replicate (4 * m) 32).toArray
  | 0, acc => by simp
  | m + 1, acc => by
    rw [List.replicate_succ, List.foldl_cons, rep_eq4 m, show 4 * (m + 1) = 4 * m + 1 + 1 + 1 + 1 by omega]
    apply Array.ext'
    simp [List.replicate_succ]
theorem spaces4 {n : Int} : Txt.mul (S [32, 32, 32, 32]) n = S (spn (4 * n.toNat)) := by
  unfold Txt.mul
  split
  · have : n.toNat = 0 := by omega
    rw [this]; rfl
  · split
    · rename_i h
      have : n = 1 := by
        rcases (Bool.or_eq_true _ _).mp h with h | h
        · exact eq_of_beq h
        · exact absurd h (by decide)
      subst this; rfl
    · show (⟨(List.replicate n.toNat #[32, 32, 32, 32]).foldl (· ++ ·) #[]⟩ : Str) = _
      rw [rep_eq4]
      simp [S]
theorem joinL_len : ∀ ws : List (List Nat), (TL.joinL [32] ws).length ≤ (ws.map (·.length)).sum + ws.length
  | [] => Nat.le_refl _
  | [a] => by show a.length ≤ a.length + 0 + 1; omega
  | a :: b :: r => by
    have ih := joinL_len (b :: r)
    show (a ++ ([32] ++ TL.joinL [32] (b :: r))).length ≤ (a.length + ((b :: r).map (·.length)).sum) + ((b :: r).length + 1)
    rw [List.length_append, List.length_append]
    show a.length + (1 + _) ≤ _
    omega
theorem join_nil : ∀ rows : List (List Nat), TL.joinL [] (rows.map fun r => r ++ [10]) = txtL rows
  | [] => rfl
  | [a] => by show a ++ [10] = (a ++ [10]) ++ []; rw [List.append_nil]
  | a :: b :: r => by
    have ih := join_nil (b :: r)
    show (a ++ [10]) ++ ([] ++ TL.joinL [] ((b :: r).map fun r => r ++ [10])) = (a ++ [10]) ++ txtL (b :: r)
    rw [ih]; rfl
theorem pF_mono : ∀ (b : List Mk) (p : PL2), ∃ r, (b.foldl (fun p m => p.next m.k m.w) p).rows = p.rows ++ r
  | [], p => ⟨[], (List.append_nil _).symm⟩
  | m :: b, p => by
    obtain ⟨r, h⟩ := pF_mono b (p.next m.k m.w)
    have : ∃ r', (p.next m.k m.w).rows = p.rows ++ r' := by
      cases m.k <;> first | exact ⟨[], (List.append_nil _).symm⟩ | exact ⟨_, rfl⟩
    obtain ⟨r', h'⟩ := this
    exact ⟨r' ++ r, by rw [List.foldl_cons, h, h', List.append_assoc]⟩
theorem blen_app (a b : List (List Nat)) : blen (a ++ b) = blen a + blen b := by unfold blen; rw [List.map_append, List.sum_append]
theorem pF_take {ms : List Mk} {j : Nat} {m : Mk} (h : ms[j]? = some m) : pF (ms.take (j + 1)) = (pF (ms.take j)).next m.k m.w := by
  rw [List.take_add_one, h, pF_app]; rfl
def spLayout : Sp := fun vs H Q _ => ∃ (g : Addr) (us : List V) (ms : List Mk) (rows : List (List Nat)), vs = [.ref g] ∧ H g = some (.lst us) ∧ Mks H us ms ∧ ms.length ≤ 4100 ∧ (∀ m ∈ ms, MOk m) ∧ pF ms = ⟨rows, [], 0⟩ ∧ blen rows ≤ 990000 ∧ ∀ H', Same H H' → Q (.str (S (txtL rows))) H'
theorem S_inj2 {k j : Kd} (h : k.cp = j.cp) : k = j := by cases k <;> cases j <;> first | rfl | exact absurd h (by decide)
theorem kd_dec2 (k j : Kd) : decide (V.str (S k.cp) = V.str (S j.cp)) = decide (k.cp = j.cp) := kd_dec k j
theorem sum_le {ws : List (List Nat)} {c : Nat} (h : ∀ w ∈ ws, w.length ≤ c) : (ws.map (·.length)).sum ≤ c * ws.length := by
  induction ws with
  | nil => exact Nat.zero_le _
  | cons a r ih =>
    have h1 := h a List.mem_cons_self
    have h2 := ih fun w hw => h w (List.mem_cons_of_mem _ hw)
    rw [List.map_cons, List.sum_cons, List.length_cons, Nat.mul_succ]; omega
section
variable {P : Program} {w : World} {K : PySem.W.Frag} {mg : Str → Option Value} {base : Heap}
theorem ok_layout (T : Txt K w mg) (Ow : OkD P w K mg base CX0 2 "written" p_written spWrit) : OkD P w K mg base CX0 3 "layout" p_layout spLayout := by
  refine T.g_layout.ok sc_layout (fun vs H Q E h => ?_) (fun f cdv A outer s H vs Q E hr h => ?_)
  · obtain ⟨g, us, ms, rows, rfl, _⟩ := h; rfl
  obtain ⟨g, us, ms, rows, rfl, hg, hm, hml, hok, hpf, hbl, q⟩ := h
  have z : Str.ofString "indent" = S (Kd.cp .indent) ∧ Str.ofString "dedent" = S (Kd.cp .dedent) ∧ Str.ofString "newline" = S (Kd.cp .newline) ∧ Str.ofString "end" = S (Kd.cp .fin) ∧ Str.ofString "    " = S [32, 32, 32, 32] ∧ Str.ofString " " = S [32] ∧ Str.ofString "\n" = S [10] ∧ Str.ofString "" = S [] := by decide +kernel
  obtain ⟨zi, zd, zn, ze, z4, z1, z10, z0⟩ := z
  have lim : (2000000 : Nat) ≤ sizeLine := by decide
  have lim2 : sizeLine = 16777216 := sizeLine_eq
  refine ⟨_, (pss_cons (ps_set (i := 1) sc_layout.nd rfl (.inl rfl) (pe_lst pa_nil))
      (pss_cons (ps_set (i := 2) sc_layout.nd rfl (.inl rfl) (pe_lst pa_nil))
      (pss_cons (ps_set (i := 3) sc_layout.nd rfl (.inl rfl) pe_int)
      (pss_cons (ps_for PassesOwn.never rfl (pi_list (pv 0)) (pg_name (i := 4) sc_layout.nd rfl (Or.inl rfl)) (pss_cons (ps_set (i := 5) sc_layout.nd rfl (.inl rfl) (pe_ix ix_tup (pv 4) pe_int (fun _ _ => rfl)))
      (pss_one (ps_if (pt_cmpR op_eq (pv 5) pe_str (nomark _)) (pss_one (ps_aug (i := 3) sc_layout.nd rfl (.inl rfl) pe_int ip_add)) (pss_one (ps_if (pt_cmpR op_eq (pv 5) pe_str (nomark _)) (pss_one (ps_aug (i := 3) sc_layout.nd rfl (.inl rfl) pe_int ip_sub)) (pss_one (ps_if (pt_cmpR op_eq (pv 5) pe_str (nomark _)) (pss_cons (ps_expr (pe_bm PySem.F.plainAttrs_list PySem.F.slot_list_append PySem.F.type_list_append mt_append (pv 1) (pa_cons (pe_op op_add_str (pe_op op_add_str (pe_op op_mulS pe_str (pv 3)) (pe_bm PySem.F.plainAttrs_str PySem.F.slot_str_join PySem.F.type_str_join mt_join pe_str (pa_cons (pv 2) pa_nil))) pe_str) pa_nil)))
      (pss_one (ps_set (i := 2) sc_layout.nd rfl (.inl rfl) (pe_lst pa_nil)))) (pss_one (ps_if (pt_cmpR op_ne (pv 5) pe_str (nomark _)) (pss_one (ps_expr (pe_bm PySem.F.plainAttrs_list PySem.F.slot_list_append PySem.F.type_list_append mt_append (pv 2) (pa_cons (pcall Ow hr (pa_cons (pv 5) (pa_cons (pe_ix ix_tup (pv 4) pe_int (fun _ _ => rfl)) pa_nil))) pa_nil)))) pss_nil))))))))))
      (pss_one (ps_ret (pe_bm PySem.F.plainAttrs_str PySem.F.slot_str_join PySem.F.type_str_join mt_join pe_str (pa_cons (pv 1) pa_nil)))))))), ?_⟩
  refine ⟨by show 0 ≤ sizeLine; omega, fun ra hra => ⟨by show 0 ≤ sizeLine; omega, fun wa hwa => ?_⟩⟩
  have hra0 : H ra = none := hra
  have hwa0 : H wa = none := (same_new hra0 (.lst [])).free hwa
  have nrw : ra ≠ wa := ne_of_none upd_same hwa
  have sm0 : Same H (upd (upd H ra (.lst [])) wa (.lst [])) := same_upd (same_new hra0 _) hwa0
  have r0 : upd (upd H ra (.lst [])) wa (.lst []) ra = some (.lst []) := by rw [upd_ne nrw]; exact upd_same
  have w0 : upd (upd H ra (.lst [])) wa (.lst []) wa = some (.lst []) := upd_same
  generalize upd (upd H ra (.lst [])) wa (.lst []) = H1 at sm0 r0 w0 ⊢
  refine ⟨_, rfl, g, rfl, ⟨_, SqL.of (sm0 _ _ hg)⟩, for_it (walk_list (xs := us)) (fun j σ H' => ∃ (wa : Addr) (y4 y5 : Option V), σ = [some (.ref g), some (.ref ra), some (.ref wa), some (.int (pF (ms.take j)).dep), y4, y5] ∧ Same H H' ∧ H wa = none ∧ ra ≠ wa ∧
      H' ra = some (.lst ((pF (ms.take j)).rows.map fun r => V.str (S (r ++ [10])))) ∧ H' wa = some (.lst ((pF (ms.take j)).ws.map fun l => V.str (S l))) ∧ (pF (ms.take j)).ws.length ≤ j ∧ (∀ l ∈ (pF (ms.take j)).ws, l.length ≤ 238) ∧ -(j : Int) ≤ (pF (ms.take j)).dep ∧ (pF (ms.take j)).dep ≤ j ∧ (pF (ms.take j)).rows.length ≤ j)
    ⟨wa, none, none, rfl, sm0, hwa0, nrw, r0, w0, Nat.le_refl _, (fun l hl => by cases hl), Int.le_refl 0, Int.le_refl 0, Nat.le_refl _⟩ (fun j σ H' _ h => by obtain ⟨_, _, _, _, h, _⟩ := h; exact SqL.of (h _ _ hg)) ?_ ?_⟩
  · rintro j x σ H2 H3 hj ⟨wa, y4, y5, rfl, sm, hwa, nrw, hr2, hw2, l1, l2, l3, l4, l5⟩ ⟨rfl, hx⟩
    rw [hm.1] at hj
    have hmj : ms[j]? = some ms[j] := List.getElem?_eq_getElem hj
    obtain ⟨a, ha, hta⟩ := hm.2 j _ hmj
    have : x = .ref a := Option.some.inj (hx.symm.trans ha)
    subst this
    have k0 := hok _ (List.getElem_mem hj)
    have et := pF_take hmj
    generalize ms[j] = m at *
    have hT : SqT K H3 a m.vs := SqT.of (sm _ _ hta)
    have a0 : atI m.vs (0 : Int) = some (.str (S m.k.cp)) := atI_nat (j := 0) rfl
    have a1 : atI m.vs (1 : Int) = some m.w.v := atI_nat (j := 1) rfl
    have hbl2 : blen (pF (ms.take (j + 1))).rows ≤ 990000 := by
      obtain ⟨r, hr2⟩ := pF_mono (ms.drop (j + 1)) (pF (ms.take (j + 1)))
      rw [← pF_app, List.take_append_drop, hpf] at hr2
      have : rows = (pF (ms.take (j + 1))).rows ++ r := hr2
      rw [this, blen_app] at hbl
      omega
    rw [et] at hbl2 ⊢
    generalize pF (ms.take j) = p at *
    refine ⟨_, rfl, a, _, 0, _, rfl, rfl, hT, a0, ?_⟩
    refine ⟨_, rfl, rfl, _, rfl, ?_⟩
    rw [zi, kd_dec2]
    have fin : ∀ (H' : Hp) (p' : PL2) (wa' : Addr) (y4 y5 : Option V), p.next m.k m.w = p' → Same H H' → H wa' = none → ra ≠ wa' → H' ra = some (.lst (p'.rows.map fun r => V.str (S (r ++ [10])))) → H' wa' = some (.lst (p'.ws.map fun l => V.str (S l))) → p'.ws.length ≤ j + 1 → (∀ l ∈ p'.ws, l.length ≤ 238) → -((j + 1 : Nat) : Int) ≤ p'.dep → p'.dep ≤ (j + 1 : Nat) → p'.rows.length ≤ j + 1 →
        ∃ (wa : Addr) (z4 z5 : Option V), [some (V.ref g), some (.ref ra), some (.ref wa'), some (.int p'.dep), y4, y5] = [some (V.ref g), some (.ref ra), some (.ref wa), some (.int (p.next m.k m.w).dep), z4, z5] ∧ Same H H' ∧ H wa = none ∧ ra ≠ wa ∧
      H' ra = some (.lst ((p.next m.k m.w).rows.map fun r => V.str (S (r ++ [10])))) ∧ H' wa = some (.lst ((p.next m.k m.w).ws.map fun l => V.str (S l))) ∧ (p.next m.k m.w).ws.length ≤ j + 1 ∧ (∀ l ∈ (p.next m.k m.w).ws, l.length ≤ 238) ∧ -((j + 1 : Nat) : Int) ≤ (p.next m.k m.w).dep ∧ (p.next m.k m.w).dep ≤ (j + 1 : Nat) ∧ (p.next m.k m.w).rows.length ≤ j + 1 := by
      intro H' p' wa' y4 y5 e b1 b2 b3 b4 b5 b6 b7 b8 b9 b10
      rw [e]
      exact ⟨wa', y4, y5, rfl, b1, b2, b3, b4, b5, b6, b7, b8, b9, b10⟩
    have hsum : (p.ws.map (·.length)).sum ≤ 238 * p.ws.length := sum_le l2
    by_cases ci : m.k = .indent
    · refine iteT' (by rw [ci]; rfl) ⟨_, rfl, _, _, rfl, rfl, ?_⟩
      exact fin _ ⟨p.rows, p.ws, p.dep + 1⟩ _ _ _ (by rw [ci]; rfl) sm hwa nrw hr2 hw2 (by show p.ws.length ≤ _; omega) l2 (by show _ ≤ p.dep + 1; omega) (by show p.dep + 1 ≤ _; omega) (by show p.rows.length ≤ _; omega)
    refine iteF' (decide_eq_false fun z => ci (S_inj2 z)) ⟨_, rfl, rfl, _, rfl, ?_⟩
    rw [zd, kd_dec2]
    by_cases cd : m.k = .dedent
    · refine iteT' (by rw [cd]; rfl) ⟨_, rfl, _, _, rfl, rfl, ?_⟩
      exact fin _ ⟨p.rows, p.ws, p.dep - 1⟩ _ _ _ (by rw [cd]; rfl) sm hwa nrw hr2 hw2 (by show p.ws.length ≤ _; omega) l2 (by show _ ≤ p.dep - 1; omega) (by show p.dep - 1 ≤ _; omega) (by show p.rows.length ≤ _; omega)
    refine iteF' (decide_eq_false fun z => cd (S_inj2 z)) ⟨_, rfl, rfl, _, rfl, ?_⟩
    rw [zn, kd_dec2]
    by_cases cn : m.k = .newline
    · refine iteT' (by rw [cn]; rfl) ?_
      have enx : p.next m.k m.w = ⟨p.rows ++ [p.row], [], p.dep⟩ := by rw [cn]; rfl
      rw [enx] at hbl2
      have hbl3 : blen p.rows + (p.row.length + 1) ≤ 990000 := by
        have := blen_app p.rows [p.row]
        have e1 : blen [p.row] = p.row.length + 1 := rfl
        have hbl2 : blen (p.rows ++ [p.row]) ≤ 990000 := hbl2
        omega
      have hrl : p.row.length = 4 * p.dep.toNat + (TL.joinL [32] p.ws).length := by unfold PL2.row; rw [List.length_append, List.length_replicate]
      have emm : ((p.ws.map S).map V.str) = p.ws.map fun r => V.str (S r) := by rw [List.map_map]; rfl
      refine ⟨_, rfl, .inl ⟨rfl, _, SqL.of hr2⟩, ?_⟩
      rw [z4, z1, z10]
      refine ⟨_, rfl, _, _, rfl, rfl, mul_ok4 (by omega) (by omega), rfl, _, rfl, S [32], wa, p.ws.map S, rfl, rfl, .inl (by rw [emm]; exact SqL.of hw2), ?_, ?_⟩
      · rw [List.map_map, List.length_map]
        show (p.ws.map (·.length)).sum + p.ws.length * 1 ≤ 16777216
        omega
      rw [spaces4, join_S]
      refine ⟨_, _, rfl, rfl, by rw [S_len, S_len, List.length_replicate]; omega, ?_⟩
      rw [S_cat]
      refine ⟨_, _, rfl, rfl, by rw [S_len, S_len]; show p.row.length + 1 ≤ _; omega, ?_⟩
      rw [S_cat]
      refine ⟨ra, _, _, rfl, rfl, hr2, by rw [List.length_map]; omega, ?_⟩
      refine ⟨by show 0 ≤ sizeLine; omega, fun wb hwb => ?_⟩
      have s2 : Same H (upd H3 ra (.lst ((p.rows.map fun r => V.str (S (r ++ [10]))) ++ [.str (S (p.row ++ [10]))]))) := same_upd sm hra0
      have hwb0 : H wb = none := s2.free hwb
      have nrb : ra ≠ wb := ne_of_none upd_same hwb
      have := fin (upd (upd H3 ra (.lst ((p.rows.map fun r => V.str (S (r ++ [10]))) ++ [.str (S (p.row ++ [10]))]))) wb (.lst [])) ⟨p.rows ++ [p.row], [], p.dep⟩ wb (some (.ref a)) (some (.str (S m.k.cp))) enx (same_upd s2 hwb0) hwb0 nrb (by rw [upd_ne nrb, upd_same, List.map_append]; rfl) upd_same (Nat.zero_le _) (fun l hl => by cases hl) (by show _ ≤ p.dep; omega) (by show p.dep ≤ _; omega) (by show (p.rows ++ [p.row]).length ≤ _; rw [List.length_append]; show _ + 1 ≤ _; omega)
      exact this
    refine iteF' (decide_eq_false fun z => cn (S_inj2 z)) ⟨_, rfl, rfl, _, rfl, ?_⟩
    rw [ze]
    by_cases ce : m.k = .fin
    · refine iteF' (by rw [ce]; rfl) ?_
      exact fin _ p _ _ _ (by rw [ce]; rfl) sm hwa nrw hr2 hw2 (by omega) l2 (by omega) (by omega) (by omega)
    · have hwk : WOK m.k m.w := by
        rcases k0 with ⟨z | z | z | z, _⟩ | z
        · exact absurd z cn
        · exact absurd z ci
        · exact absurd z cd
        · exact absurd z ce
        · exact z
      refine iteT' (by show (!decide (V.str (S m.k.cp) = V.str (S Kd.fin.cp))) = true; rw [kd_dec2, decide_eq_false fun z => ce (S_inj2 z)]; rfl) ?_
      refine ⟨_, rfl, .inl ⟨rfl, _, SqL.of hw2⟩, ?_⟩
      refine ⟨_, rfl, _, rfl, a, _, 1, _, rfl, rfl, hT, a1, m.k, m.w, rfl, hwk, ?_⟩
      refine ⟨wa, _, _, rfl, rfl, hw2, by rw [List.length_map]; omega, ?_⟩
      have := fin (upd H3 wa (.lst ((p.ws.map fun l => V.str (S l)) ++ [.str (S (spell m.k m.w))]))) ⟨p.rows, p.ws ++ [spell m.k m.w], p.dep⟩ wa (some (.ref a)) (some (.str (S m.k.cp))) (hwk.1.pnext p) (same_upd sm hwa) hwa nrw (by rw [upd_ne nrw]; exact hr2) (by rw [upd_same, List.map_append]; rfl) (by show (p.ws ++ [_]).length ≤ _; rw [List.length_append]; show _ + 1 ≤ _; omega) (fun l hl => by
        rcases List.mem_append.mp hl with h | h
        · exact l2 l h
        · rw [List.mem_singleton.mp h]; exact hwk.2) (by show _ ≤ p.dep; omega) (by show p.dep ≤ _; omega) (by show p.rows.length ≤ _; omega)
      exact this
  · rintro σ H2 ⟨wa, y4, y5, rfl, sm, hwa, nrw, hr2, hw2, l1, l2, l3, l4, l5⟩
    rw [hm.1, List.take_length, hpf] at hr2 l5
    have emm : (((rows.map fun r => r ++ [10]).map S).map V.str) = rows.map fun r => V.str (S (r ++ [10])) := by rw [List.map_map, List.map_map]; rfl
    rw [z0]
    refine ⟨rfl, _, rfl, S [], ra, (rows.map fun r => r ++ [10]).map S, rfl, rfl, .inl (by rw [emm]; exact SqL.of hr2), ?_, ?_⟩
    · have e : (((rows.map fun r => r ++ [10]).map S).map (·.length)).sum = blen rows := by
        unfold blen
        rw [List.map_map, List.map_map]
        congr 1
        refine List.map_congr_left fun r _ => ?_
        show (S (r ++ [10])).length = _
        rw [S_len, List.length_append]; rfl
      rw [e]
      show _ + _ * 0 ≤ _
      omega
    · rw [join_S, join_nil]
      exact q _ sm
end
end D0
namespace D0
open PySem PySem.Spec PyProof.Rows L2 SX NumText
section
variable {P : Program} {w : World} {K : PySem.W.Frag} {mg : Str → Option Value} {base : Heap}
theorem ok__law_written (T : Txt K w mg) : OkD P w K mg base CX0 1 "_law_written" p__law_written spWrit := by
  refine T.g__law_written.ok sc__law_written (fun vs H Q E h => ?_) (fun f cdv A outer s H vs Q E hr h => ?_)
  · obtain ⟨k, w, rfl, _⟩ := h; rfl
  obtain ⟨k, wd, rfl, hw, q⟩ := h
  have zt : Str.ofString "text" = S (Kd.cp .text) ∧ Str.ofString "number" = S (Kd.cp .number) ∧ Str.ofString "\"" = S [34] ∧ Str.ofString "\n" = S [10] ∧ Str.ofString "\\n" = S [92, 110] ∧ Str.ofString "\\\"" = S [92, 34] ∧ Str.ofString "\\" = S [92] := by decide +kernel
  obtain ⟨zt, zn, z34, z10, ze, zs, z92⟩ := zt
  have lim : (2000000 : Nat) ≤ sizeLine := by decide
  cases wd with
  | n n =>
    obtain ⟨rfl, hn⟩ := num_n hw
    refine ⟨_, (pss_cons (ps_if (pt_cmpR op_eq (pv 0) pe_str (nomark _)) (pss_one (ps_ret (pe_callTy call_str_int (by rfl) T.z_str PyProof.Rows.boot_str (pa_cons (pv 1) pa_nil)))) pss_nil)
      (pss_cons (ps_if (pt_cmpR op_ne (pv 0) pe_str (nomark _)) (pss_one (ps_ret (pv 1))) pss_nil)
      (pss_cons (ps_set (i := 2) sc__law_written.nd rfl (.inl rfl) pe_str)
      (pss_cons (ps_for PassesOwn.never rfl (pi_str (pv 1)) (pg_name (i := 3) sc__law_written.nd rfl (Or.inl rfl)) (pss_one (ps_if (pt_cmpR op_eq (pv 3) pe_str (nomark _)) (pss_one (ps_set (i := 2) sc__law_written.nd rfl (.inl rfl) (pe_op op_add_str (pv 2) pe_str))) (pss_one (ps_if (pt_cmpR op_in_sign (pv 3) pe_str (by rfl)) (pss_one (ps_set (i := 2) sc__law_written.nd rfl (.inl rfl) (pe_op op_add_str (pe_op op_add_str (pv 2) pe_str) (pv 3)))) (pss_one (ps_set (i := 2) sc__law_written.nd rfl (.inl rfl) (pe_op op_add_str (pv 2) (pv 3)))))))))
      (pss_one (ps_ret (pe_op op_add_str (pv 2) pe_str))))))), ?_⟩
    refine ⟨_, rfl, rfl, _, rfl, iteT' (by rw [zn, kd_dec]; rfl) ⟨_, rfl, _, rfl, log_small hn, ?_⟩⟩
    rw [num_S]
    exact q
  | s l =>
    have hl := text_s hw
    refine ⟨_, (pss_cons (ps_if (pt_cmpR op_eq (pv 0) pe_str (nomark _)) (pss_one (ps_ret (pe_callTy SkE.call_str_str (by rfl) T.z_str PyProof.Rows.boot_str (pa_cons (pv 1) pa_nil)))) pss_nil)
      (pss_cons (ps_if (pt_cmpR op_ne (pv 0) pe_str (nomark _)) (pss_one (ps_ret (pv 1))) pss_nil)
      (pss_cons (ps_set (i := 2) sc__law_written.nd rfl (.inl rfl) pe_str)
      (pss_cons (ps_for PassesOwn.never rfl (pi_str (pv 1)) (pg_name (i := 3) sc__law_written.nd rfl (Or.inl rfl)) (pss_one (ps_if (pt_cmpR op_eq (pv 3) pe_str (nomark _)) (pss_one (ps_set (i := 2) sc__law_written.nd rfl (.inl rfl) (pe_op op_add_str (pv 2) pe_str))) (pss_one (ps_if (pt_cmpR op_in_sign (pv 3) pe_str (by rfl)) (pss_one (ps_set (i := 2) sc__law_written.nd rfl (.inl rfl) (pe_op op_add_str (pe_op op_add_str (pv 2) pe_str) (pv 3)))) (pss_one (ps_set (i := 2) sc__law_written.nd rfl (.inl rfl) (pe_op op_add_str (pv 2) (pv 3)))))))))
      (pss_one (ps_ret (pe_op op_add_str (pv 2) pe_str))))))), ?_⟩
    refine ⟨_, rfl, rfl, _, rfl, ?_⟩
    rw [zn, kd_dec]
    have nn : k ≠ .number := fun z => by
      subst z
      rcases hw.1 with ⟨_, z, _⟩ | ⟨_, _, z⟩ | ⟨_, _, _, z, _⟩ | ⟨_, z, _⟩
      · split at z <;> cases z
      · cases z
      · cases z
      · cases z
    refine iteF' (decide_eq_false fun z => nn (S_inj2 z)) ⟨_, rfl, rfl, _, rfl, ?_⟩
    by_cases c : k = .text
    · subst c
      refine iteF' (by show (!decide (V.str (S Kd.text.cp) = V.str (Str.ofString "text"))) = false; rw [zt, kd_dec]; rfl) ?_
      refine ⟨_, rfl, S l, rfl, for_it walk_str (fun i σ H' => ∃ y, σ = [some (.str (S Kd.text.cp)), some (.str (S l)), some (.str (S (34 :: (l.take i).flatMap esc1))), y] ∧ H' = H) ⟨none, by rw [z34]; rfl, rfl⟩ (fun _ _ _ _ _ => trivial) ?_ ?_⟩
      · rintro i x σ H1 H2 hi ⟨y, rfl, rfl⟩ ⟨rfl, c, hc, rfl⟩
        have hc' : l[i]? = some c := by simpa using hc
        have et : (l.take (i + 1)).flatMap esc1 = (l.take i).flatMap esc1 ++ esc1 c := by
          rw [List.take_add_one, hc', List.flatMap_append]; simp
        have h1 := esc_len (l.take i)
        have h2 : (l.take i).length ≤ l.length := by rw [List.length_take]; omega
        refine ⟨_, rfl, rfl, _, rfl, ?_⟩
        rw [z10]
        show if decide (V.str (S [c]) = V.str (S [10])) = true then _ else _
        rw [str_dec]
        refine ite2 (fun a => ?_) (fun a => ?_)
        · have a : c = 10 := (List.cons.inj (of_decide_eq_true a)).1
          refine ⟨_, rfl, _, _, rfl, rfl, ?_, some (.str (S [c])), ?_, rfl⟩
          · rw [ze, S_len, S_len, List.length_cons]; show _ + 2 ≤ _; omega
          · rw [ze, S_cat, et, a]; rfl
        · have a : ¬ c = 10 := fun x => a (decide_eq_true (by rw [x]))
          refine ⟨_, rfl, _, _, rfl, rfl, _, rfl, ite2 (fun d => ?_) (fun d => ?_)⟩
          · have hin : c = 92 ∨ c = 34 := by
              have d := of_decide_eq_true d
              rw [zs] at d
              have d : c ∈ ([92, 34] : List Nat) := by simpa [S] using d
              rcases List.mem_cons.mp d with h | h
              · exact .inl h
              · exact .inr (List.mem_singleton.mp h)
            have e1 : esc1 c = [92, c] := by rcases hin with h | h <;> subst h <;> rfl
            rw [z92]
            refine ⟨_, rfl, _, _, rfl, rfl, ?_, _, rfl, _, _, rfl, rfl, ?_, some (.str (S [c])), ?_, rfl⟩
            · rw [S_len, S_len, List.length_cons]; show _ + 1 ≤ _; omega
            · rw [S_cat, S_len, List.length_append, List.length_cons]; show _ + 1 + 1 ≤ _; omega
            · show [_, _, some (V.str (S (34 :: (l.take i).flatMap esc1) ++ S [92] ++ S [c])), _] = _
              rw [S_cat, S_cat, et, e1]; simp
          · have hin : ¬ (c = 92 ∨ c = 34) := fun h => d (decide_eq_true (by
              rw [zs]
              rcases h with h | h <;> subst h <;> simp [S]))
            have e1 : esc1 c = [c] := by
              unfold esc1 escd
              rw [decide_eq_false (by omega)]; rfl
            refine ⟨_, rfl, _, rfl, _, _, rfl, rfl, ?_, some (.str (S [c])), ?_, rfl⟩
            · rw [S_len]; show _ + 1 ≤ _; rw [List.length_cons]; omega
            · show [_, _, some (V.str (S (34 :: (l.take i).flatMap esc1) ++ S [c])), _] = _
              rw [S_cat, et, e1]; simp
      · rintro σ H1 ⟨y, rfl, rfl⟩
        have h1 := esc_len l
        have hsz : (S l).cps.size = l.length := rfl
        rw [hsz, List.take_length, z34]
        refine ⟨_, rfl, _, _, rfl, rfl, by rw [S_len, S_len, List.length_cons]; show _ + 1 ≤ _; omega, ?_⟩
        rw [S_cat]; exact q
    · refine iteT' (by show (!decide (V.str (S k.cp) = V.str (Str.ofString "text"))) = true; rw [zt, kd_dec, decide_eq_false fun z => c (S_inj2 z)]; rfl) ⟨_, rfl, ?_⟩
      have e : spell k (.s l) = l := by cases k <;> first | rfl | exact absurd rfl c
      rw [e] at q
      exact q
end
end D0
namespace D0
open PySem PySem.Spec PyProof.Rows L2 SX NumText
structure PL (H1 : Hp) (b pa ra ma wa : Addr) (ws : List Nat) (p : Pg) (s : Sc) (n : Nat) : Prop where
  x : PB H1 b pa ra ma p
  hwa : H1 wa = some (.lst (wv ws))
  dwa : wa ≠ b ∧ wa ≠ pa ∧ wa ≠ ra ∧ wa ≠ ma
  E : EndSt p s
  ind : s.ind = ws.reverse
  srt : ws.Pairwise (· < ·)
  wl : ws.length ≤ 11
  wn : ∀ i x, ws[i]? = some x → x ≤ 4 * i
  wne : ws ≠ []
  w0 : ws.head? = some 0
  ok : PgOk p
  tot : p.tot ≤ 5950
  rl : p.rows.length ≤ p.tot
  mkl : p.marks.length ≤ 140 * n
  sl : p.sl ≠ 0 ∨ ws = [0]
  m1 : n ≠ 0 → p.marks ≠ []
  m0 : n = 0 → ws = [0]
def spTall : Sp := fun vs H Q _ => ∃ (b pa ra ma wa : Addr) (ws : List Nat) (p : Pg) (s : Sc), vs = [.ref b, .ref pa, .ref wa] ∧ PL H b pa ra ma wa ws p s 0 ∧ p.tot ≤ 200 ∧ ∀ H' ws' p' s', PL H' b pa ra ma wa ws' p' s' 24 → Q .non H'
theorem brm_nil {s : Sc} (h : BrM s []) : s.br = [] := by
  cases e : s.br with
  | nil => rfl
  | cons a r =>
    have h : ([] : List (Option (List Nat))) = s.br.map fun m => some (wl m.w) := h
    rw [e] at h; cases h
section
variable {P : Program} {w : World} {K : PySem.W.Frag} {mg : Str → Option Value} {base : Heap}
theorem ok__law_tall (T : Txt K w mg) (Ot : OkD P w K mg base CX0 1 "_law_take" p__law_take spTake) (Om : OkD P w K mg base CX0 2 "_law_margin" p__law_margin spMargin) (Ow : OkD P w K mg base CX0 3 "_law_word" p__law_word spWord)
    (Op : ∀ b, OkD P w K mg base CX0 1 "_law_put" p__law_put (spPut b)) (Ocl : ∀ b, OkD P w K mg base CX0 1 "_law_close_row" p__law_close_row (spClose b)) : OkD P w K mg base CX0 4 "_law_tall" p__law_tall spTall := by
  refine T.g__law_tall.ok sc__law_tall (fun vs H Q E h => ?_) (fun f cdv A outer s H vs Q E hr h => ?_)
  · obtain ⟨b, pa, ra, ma, wa, ws, p, s, rfl, _⟩ := h; rfl
  obtain ⟨b, pa, ra, ma, wa, ws, p, sc, rfl, I0, htot0, q⟩ := h
  have lim : (1100000 : Nat) ≤ sizeLine := by decide
  have z : Str.ofString "" = S [] ∧ Str.ofString "newline" = S Kd.newline.cp := by decide +kernel
  refine ⟨_, (pss_one (ps_for PassesOwn.never rfl (pi_range1 rfl T.z_range (pa_cons (pe_op op_add pe_int (pcall Ot hr (pa_cons (pv 0) (pa_cons pe_int pa_nil)))) pa_nil)) (pg_name (i := 3) sc__law_tall.nd rfl (Or.inl rfl)) (pss_cons (ps_if (pt_cmpR op_gt (pe_ix ix_list (pv 1) pe_int (fun _ _ => rfl)) pe_int (nomark _)) (pss_one ps_break) pss_nil)
      (pss_cons (ps_set (i := 4) sc__law_tall.nd rfl (.inl rfl) (pcall Ot hr (pa_cons (pv 0) (pa_cons pe_int pa_nil))))
      (pss_cons (PS.of (t' := fun D σ H => ∃ (wa : Addr) (ws : List Nat) (t way : Int), σ[2]? = some (some (V.ref wa)) ∧ H wa = some (.lst (wv ws)) ∧ ws.length ≤ 100 ∧ σ[3]? = some (some (V.int t)) ∧ σ[4]? = some (some (V.int way)) ∧ σ.set 4 (some (V.int way)) = σ ∧ ∀ m : Int, (t = 0 → m ≠ 2) → D.nx (σ.set 4 (some (V.int m))) H)
        (ps_if (PW.pt (pw_and (pt_cmpR op_gt (pv 3) pe_int (nomark _)) (pw_and (pt_cmpR op_lt (pe_callB call_len_seq (by rfl) T.z_len PySem.boot_len (pa_cons (pv 2) pa_nil)) pe_int (nomark _)) (pw_and1 (pt_cmpR op_gt (pv 4) pe_int (nomark _)))))) (pss_one (ps_set (i := 4) sc__law_tall.nd rfl (.inl rfl) pe_int)) (pss_one (ps_if (PW.pt (pw_or (pt_cmpR op_eq (pv 4) pe_int (nomark _)) (pw_or1 (PW.pt (pw_and (pt_cmpR op_eq (pv 4) pe_int (nomark _)) (pw_and1 (pt_cmpR op_eq (pv 3) pe_int (nomark _)))))))) (pss_one (ps_set (i := 4) sc__law_tall.nd rfl (.inl rfl) pe_int)) pss_nil))) ?ifw)
      (pss_cons (ps_expr (pcall Om hr (pa_cons (pv 0) (pa_cons (pv 1) (pa_cons (pv 2) (pa_cons (pv 4) pa_nil))))))
      (pss_cons (ps_set (i := 5) sc__law_tall.nd rfl (.inl rfl) (pcall Ow hr (pa_cons (pv 0) (pa_cons pe_bl pa_nil))))
      (pss_cons (ps_expr (pcall (Op b) hr (pa_cons (pv 1) (pa_cons (pe_ix ix_tup (pv 5) pe_int (fun _ _ => rfl)) (pa_cons (pe_ix ix_tup (pv 5) pe_int (fun _ _ => rfl)) (pa_cons (pe_ix ix_tup (pv 5) pe_int (fun _ _ => rfl)) pa_nil))))))
      (pss_cons (ps_expr (pe_bm PySem.F.plainAttrs_list PySem.F.slot_list_append PySem.F.type_list_append mt_append (pe_ix ix_list (pv 1) pe_int (fun _ _ => rfl)) (pa_cons (pe_tup (pa_cons pe_str (pa_cons pe_str (pa_cons (pe_ix ix_list (pe_ix ix_list (pv 1) pe_int (fun _ _ => rfl)) pe_int (fun _ _ => rfl)) (pa_cons (pe_ix ix_list (pe_ix ix_list (pv 1) pe_int (fun _ _ => rfl)) pe_int (fun _ _ => rfl)) pa_nil))))) pa_nil)))
      (pss_one (ps_expr (pcall (Ocl b) hr (pa_cons (pv 1) pa_nil))))))))))))), ?_⟩
  case ifw =>
    rintro D σ H ⟨wa, ws, t, way, h2, hwa, hl, h3, h4, hs, q⟩
    have hlw : (wv ws).length = ws.length := by unfold wv; rw [List.length_map]
    have stay : (t = 0 → way ≠ 2) → D.nx σ H := fun h => by
      have := q way h
      rw [hs] at this; exact this
    refine ⟨_, h3, _, _, rfl, rfl, _, rfl, ?_⟩
    refine (fun hC => ite2 (fun c => ⟨_, h2, wa, _, rfl, .inl (SqL.of hwa), _, _, rfl, rfl, _, rfl, ite2 (fun _ => ⟨_, h4, _, _, rfl, rfl, _, rfl, ite2 (fun _ => ?g1) (fun _ => hC)⟩) (fun _ => hC)⟩) (fun _ => hC)) ?hc
    case g1 =>
      have c := of_decide_eq_true c
      exact q 2 (fun e => by omega)
    refine ⟨_, h4, rfl, _, rfl, ite2 (fun c => iteT (q 0 (fun _ => by decide))) (fun c => ?_)⟩
    have nw : way ≠ 2 := fun e => c (decide_eq_true (by rw [e]))
    refine ⟨_, h4, rfl, _, rfl, ite2 (fun _ => ⟨_, h3, rfl, _, rfl, ite2 (fun _ => q 0 (fun _ => by decide)) (fun _ => stay (fun _ => nw))⟩) (fun _ => iteF (stay (fun _ => nw)))⟩
  refine ⟨_, rfl, b, 121, rfl, I0.x.bag, by decide, by decide, fun r H0 r0 r1 st0 => ⟨_, _, rfl, rfl, 60 + r, rfl, by omega, by omega, ?_⟩⟩
  have I0 : PL H0 b pa ra ma wa ws p sc 0 := ⟨I0.x.stp st0, st0.keep wa _ I0.dwa.1 I0.hwa, I0.dwa, I0.E, I0.ind, I0.srt, I0.wl, I0.wn, I0.wne, I0.w0, I0.ok, I0.tot, I0.rl, I0.mkl, I0.sl, I0.m1, I0.m0⟩
  refine for_range (lo := 0) (n := (60 + r).toNat) (fun i σ H' => ∃ (y4 y5 y3 : Option V) (ws : List Nat) (p : Pg) (sc : Sc), σ = [some (.ref b), some (.ref pa), some (.ref wa), y3, y4, y5] ∧ PL H' b pa ra ma wa ws p sc (if i = 0 then 0 else 24) ∧ p.marks.length ≤ 13 * i ∧ (i = 0 → p.tot ≤ 200))
    ⟨none, none, none, ws, p, sc, rfl, I0, by have := I0.mkl; omega, fun _ => htot0⟩ ?_ ?_
  · rintro i σ H1 hi ⟨y4, y5, y3, ws, p, sc, rfl, I, hmk, h0⟩
    have hi : i < 181 := by omega
    obtain ⟨sa, h1, h2, d1, d2, d3, d4⟩ := I.x.at_
    have hrl := I.rl
    have htot := I.tot
    have hwl := I.wl
    refine ⟨_, rfl, pa, _, 3, .int (p.tot : Nat), rfl, rfl, SqL.of h1, rfl, _, _, rfl, rfl, _, rfl, ite2 (fun c => ?_) (fun c => ?_)⟩
    · have c := of_decide_eq_true c
      have hi0 : i ≠ 0 := fun e => by have := h0 e; omega
      rw [if_neg hi0] at I
      exact q _ _ _ _ I
    have ht45 : p.tot ≤ 4500 := Nat.le_of_not_lt fun z => c (decide_eq_true (by omega))
    refine ⟨_, rfl, b, 16, rfl, I.x.bag, by decide, by decide, fun way0 H2 _ _ st2 => ?_⟩
    have xa := I.x.stp st2
    have wa2 := st2.keep wa _ I.dwa.1 I.hwa
    refine ⟨wa, ws, 0 + (i : Int), way0, rfl, wa2, by omega, rfl, rfl, rfl, fun way hway => ?_⟩
    refine ⟨_, rfl, _, rfl, _, rfl, _, rfl, b, pa, ra, ma, wa, p, ws, way, rfl, xa, by omega, by omega, wa2, I.w0, I.wl, fun n hn => ?_, I.sl, I.dwa, fun H4 ws' ms hR x4 w4 f4 => ?_⟩
    · obtain ⟨j, hj⟩ := List.getElem?_of_mem hn
      have h1 := I.wn j n hj
      have h2 := (List.getElem?_eq_some_iff.mp hj).1
      omega
    obtain ⟨s1, L, q1, q2, q3, q4, q5, q6, q7, q8, q9, q10, q11⟩ := margin_sem I.E I.ind I.srt I.wl I.wn I.wne (by
      by_cases e : i = 0
      · rw [if_pos e] at I
        exact .inr ⟨I.m0 rfl, hway (by omega)⟩
      · rw [if_neg e] at I
        exact .inl (I.m1 (by decide))) hR
    refine ⟨_, rfl, b, true, rfl, x4.bag, fun k wd sp H5 ta hp st5 nab hnone hA => ?_⟩
    have hA : H5 ta = some (.tup [.str (S k.cp), wd.v, .str (S sp)]) := hA
    have hpc : PC [] k wd sp := piece_pc hp
    obtain ⟨hsr, hsl⟩ := hpc.1.row
    obtain ⟨c1, t1, esp, _, _⟩ := hpc.1.g.head
    have hpc2 : isSg k = true → wl wd ∉ OPN ∧ cloV (wl wd) = none := by
      rcases hpc.2 with ⟨a, _⟩ | ⟨_, _, _, z⟩ | ⟨_, _, _, c0, z⟩
      · exact a
      · rcases hp with ⟨_, rfl, _⟩ | ⟨_, rfl, _⟩ | ⟨_, _, rfl, _⟩ | ⟨h1, h2, rfl, rfl⟩
        · intro e; split at e <;> cases e
        · intro e; cases e
        · intro e; cases e
        · intro _; exact ⟨(SG_plain sp h1 h2).1, (SG_plain sp h1 h2).2.2⟩
      · simp at z
    have x5 := x4.stp st5
    have hw5 := st5.keep wa _ I.dwa.1 w4
    have lms : ms.length ≤ 11 := q8
    let p1 : Pg := (p.mk1 ms).setCur (spn (ws'.getLastD 0))
    have lcur : p1.cur.length = ws'.getLastD 0 := List.length_replicate ..
    have lmk : p1.marks.length = p.marks.length + ms.length := List.length_append ..
    refine ⟨_, rfl, _, rfl, ta, _, 0, _, rfl, rfl, SqT.of hA, rfl, _, rfl, ta, _, 1, _, rfl, rfl, SqT.of hA, rfl, _, rfl, ta, _, 2, _, rfl, rfl, SqT.of hA, rfl, pa, ra, ma, p1, k, wd, sp, rfl, x5, ⟨by show p.rows.length ≤ _; omega, by omega, by omega⟩, by omega, fun H6 x6 f6 => ?_⟩
    have hg1 := gather_plain (m := ⟨k, wd, p1.rows.length + 1, p1.cur.length + 0 + 1⟩) (s := s1) (cl := []) (by rw [q1]; decide) (by show [] = s1.br.map _; rw [q2]; rfl) hpc2
    obtain ⟨s2, g1, g2, g3, g4, g5⟩ := hg1
    have L2 := lay_sem (g := 0) L hpc.1.g (fun _ => rfl) (fun _ => rfl) g1 g2 (by rw [g3]; omega)
    have elaid : p1.laid 0 k wd sp = p1.put k wd sp := by
      unfold Pg.laid
      rw [show p1.cur ++ spn 0 = p1.cur from List.append_nil _]; rfl
    have L2 : LineSt (p1.put k wd sp) { s2 with behind := p1.cur.length + 0 + sp.length + 1 } sp := by rw [← elaid]; exact L2
    generalize hp2 : p1.put k wd sp = p2 at x6 L2
    have r2 : p2.rows = p.rows := by rw [← hp2]; rfl
    have c2 : p2.cur = spn (ws'.getLastD 0) ++ sp := by rw [← hp2]; rfl
    have c2l : p2.cur.length ≤ 88 := by rw [c2, List.length_append, List.length_replicate]; omega
    have m2 : p2.marks.length = p.marks.length + ms.length + 1 := by rw [← hp2]; show (p1.marks ++ [_]).length = _; rw [List.length_append, lmk]; rfl
    have t2 : p2.tot = p.tot := by rw [← hp2]; rfl
    have sl2 : p2.sl = p.rows.length + 1 := by rw [← hp2]; rfl
    obtain ⟨sa6, h16, h26, d16, d26, d36, d46⟩ := x6.at_
    obtain ⟨us, h3, h4⟩ := x6.mks
    obtain ⟨e1, e2, e3, e4, e5, e6⟩ := x6.d
    obtain ⟨bc, bs, bn, hb6⟩ := x6.bag
    refine ⟨_, rfl, pa, _, 2, .ref ma, rfl, rfl, SqL.of h16, rfl, ?_⟩
    refine ⟨.inl ⟨rfl, _, SqL.of h3⟩, ?_⟩
    refine ⟨_, rfl, pa, _, 4, .ref sa6, rfl, rfl, SqL.of h16, rfl, sa6, _, 0, _, rfl, rfl, SqL.of h26, rfl, _, rfl, pa, _, 4, .ref sa6, rfl, rfl, SqL.of h16, rfl, sa6, _, 1, _, rfl, rfl, SqL.of h26, rfl, by show 4 ≤ sizeLine; omega, fun t ht => ?_⟩
    have s1' := same_new ht (.tup [.str (Str.ofString "newline"), .str (Str.ofString ""), .int (p2.sl : Nat), .int (p2.sc : Nat)])
    have n1 : ma ≠ t := ne_of_none h3 ht
    refine ⟨ma, us, _, rfl, rfl, s1' _ _ h3, by rw [h4.1]; omega, ?_⟩
    generalize hH3 : upd (upd H6 t _) ma _ = H7
    have k1 : ∀ a o, a ≠ ma → H6 a = some o → H7 a = some o := fun a o n e => by rw [← hH3, upd_ne n]; exact s1' a o e
    have tt : H7 t = some (.tup (Mk.vs ⟨.newline, .s [], p2.sl, p2.sc⟩)) := by
      rw [← hH3, upd_ne n1.symm, upd_same, z.1, z.2]; rfl
    have x7 : PB H7 b pa ra ma ⟨p2.rows, p2.cur, p2.marks ++ [⟨.newline, .s [], p2.sl, p2.sc⟩], p2.tot, p2.sl, p2.sc⟩ := by
      refine ⟨⟨bc, bs, bn, k1 _ _ e3 hb6⟩, ⟨sa6, k1 _ _ e5 h16, k1 _ _ d36 h26, d16, d26, d36, d46⟩, k1 _ _ e6 x6.rows, ⟨us ++ [.ref t], by rw [← hH3]; exact upd_same, ?_⟩, x6.d⟩
      exact Mks.snoc (h4.mono fun a t' e => k1 a _ (fun z => by rw [z, h3] at e; cases e) e) tt
    refine ⟨_, rfl, pa, ra, ma, _, rfl, x7, ⟨by show p2.rows.length ≤ _; rw [r2]; omega, by show p2.cur.length ≤ _; omega, by show (p2.marks ++ [_]).length ≤ _; rw [List.length_append]; show _ + 1 ≤ _; omega⟩, fun H8 x8 f8 => ?_⟩
    have hbr2 : s2.br = [] := brm_nil g5
    have E8 := end_sem (tl := []) (bl := []) L2 (by rw [esp]; exact fun z => by cases z) hbr2 ⟨0, [], rfl, .inl rfl⟩ (fun r hr => by cases hr)
    have ecl : ∀ p : Pg, p.ended [] [] = p.close := fun p => by
      have := ended_nil p []
      rw [List.append_nil] at this
      exact this.symm
    rw [ecl] at E8
    have w7 : H7 wa = some (.lst (wv ws')) := k1 _ _ I.dwa.2.2.2 (f6 wa _ I.dwa.1 I.dwa.2.1 I.dwa.2.2.1 I.dwa.2.2.2 hw5)
    have w8 := f8 wa _ I.dwa.1 I.dwa.2.1 I.dwa.2.2.1 I.dwa.2.2.2 w7
    have hbt := I.ok.bt
    refine ⟨_, _, _, ws', _, _, rfl, ⟨x8, w8, I.dwa, E8, ?_, q4, q5, q6, q7, by rw [q9]; exact I.w0, ⟨fun r hr => ?_, rfl, ?_⟩, ?_, ?_, ?_, .inl ?_, fun _ e => ?_, fun e => by rw [if_neg (by omega)] at e; cases e⟩, ?_, fun e => by omega⟩
    · show s2.ind = _
      rw [g4, q3]
    · have hr : r ∈ p2.rows ++ [p2.cur] := hr
      rw [r2] at hr
      rcases List.mem_append.mp hr with h | h
      · exact I.ok.rows r h
      · rw [List.mem_singleton.mp h]
        refine ⟨by omega, ?_⟩
        rw [c2, List.all_append, spn_row, hsr]; rfl
    · show blen (p2.rows ++ [p2.cur]) ≤ p2.tot + p2.cur.length + 1
      have := blen_app p2.rows [p2.cur]
      have e1 : blen [p2.cur] = p2.cur.length + 1 := rfl
      rw [r2] at this ⊢
      rw [t2]
      omega
    · show p2.tot + p2.cur.length + 1 ≤ 5950
      omega
    · show (p2.rows ++ [p2.cur]).length ≤ p2.tot + p2.cur.length + 1
      rw [List.length_append, r2, t2]; show _ + 1 ≤ _; omega
    · show (p2.marks ++ [_]).length ≤ _
      rw [List.length_append, m2, if_neg (by omega)]; show _ + 1 ≤ _; omega
    · show p2.sl ≠ 0
      omega
    · have := congrArg List.length (show p2.marks ++ [_] = [] from e)
      rw [List.length_append] at this; simp at this
    · show (p2.marks ++ [_]).length ≤ _
      rw [List.length_append, m2]; show _ + 1 ≤ _; omega
  · rintro σ H1 ⟨y4, y5, y3, ws, p, sc, rfl, I, hmk, h0⟩
    rw [if_neg (by omega)] at I
    exact q _ _ _ _ I
end
end D0
namespace D0
open PySem PySem.Spec PyProof.Rows L2 SX NumText
def plv : Pl → List V
  | none => []
  | some p => [.int (p.1 : Nat), .int (p.2 : Nat)]
def Spots (H : Hp) (ra sa : Addr) (ss : List V) (zs : List Pl) : Prop := ss.length = zs.length ∧ ∀ (i : Nat) (z : Pl), zs[i]? = some z → ∃ a : Addr, ss[i]? = some (V.ref a) ∧ H a = some (.lst (plv z)) ∧ a ≠ ra ∧ a ≠ sa
theorem Spots.mono {H H' : Hp} {ra sa : Addr} {ss : List V} {zs : List Pl} (h : Spots H ra sa ss zs) (k : ∀ a o, a ≠ ra → a ≠ sa → H a = some o → H' a = some o) : Spots H' ra sa ss zs :=
  ⟨h.1, fun i z e => let ⟨a, h1, h2, h3, h4⟩ := h.2 i z e; ⟨a, h1, k a _ h3 h4 h2, h3, h4⟩⟩
theorem Spots.snoc {H : Hp} {ra sa a : Addr} {ss : List V} {zs : List Pl} {z : Pl} (h : Spots H ra sa ss zs) (h2 : H a = some (.lst (plv z))) (h3 : a ≠ ra) (h4 : a ≠ sa) : Spots H ra sa (ss ++ [.ref a]) (zs ++ [z]) := by
  refine ⟨by simp [h.1], fun i x hx => ?_⟩
  by_cases c : i < zs.length
  · rw [List.getElem?_append_left c] at hx
    obtain ⟨b, h1, h2⟩ := h.2 i x hx
    exact ⟨b, by rw [List.getElem?_append_left (by rw [h.1]; exact c)]; exact h1, h2⟩
  · rw [List.getElem?_append_right (by omega)] at hx
    have e : i - zs.length = 0 := by
      have := (List.getElem?_eq_some_iff.mp hx).1
      simp at this; omega
    rw [e] at hx
    have : z = x := by simpa using hx
    subst this
    exact ⟨a, by rw [List.getElem?_append_right (by rw [h.1]; omega), h.1, e]; rfl, h2, h3, h4⟩
structure LD (H H' : Hp) (ra sa : Addr) (rows : List (List Nat)) (zs : List Pl) (ss : List V) : Prop where
  sm : Same H H'
  r0 : H ra = none
  s0 : H sa = none
  ne : ra ≠ sa
  hr : H' ra = some (.lst (rows.map fun r => V.str (S r)))
  hs : H' sa = some (.lst ss)
  sp : Spots H' ra sa ss zs
theorem LD.same {H H' H2 : Hp} {ra sa : Addr} {rows : List (List Nat)} {zs : List Pl} {ss : List V} (x : LD H H' ra sa rows zs ss) (k : Same H' H2) : LD H H2 ra sa rows zs ss :=
  ⟨x.sm.trans k, x.r0, x.s0, x.ne, k _ _ x.hr, k _ _ x.hs, x.sp.mono fun a o _ _ e => k a o e⟩
theorem LD.row {H H' : Hp} {ra sa : Addr} {rows : List (List Nat)} {zs : List Pl} {ss : List V} (x : LD H H' ra sa rows zs ss) (r : List Nat) : LD H (upd H' ra (.lst ((rows.map fun r => V.str (S r)) ++ [.str (S r)]))) ra sa (rows ++ [r]) zs ss :=
  ⟨same_upd x.sm x.r0, x.r0, x.s0, x.ne, by rw [upd_same, List.map_append]; rfl, by rw [upd_ne x.ne.symm]; exact x.hs, x.sp.mono fun a o h _ e => by rw [upd_ne h]; exact e⟩
theorem LD.spot {H H' : Hp} {ra sa a : Addr} {rows : List (List Nat)} {zs : List Pl} {ss : List V} {z : Pl} (x : LD H H' ra sa rows zs ss) (ha : H' a = some (.lst (plv z))) (h1 : a ≠ ra) (h2 : a ≠ sa) : LD H (upd H' sa (.lst (ss ++ [.ref a]))) ra sa rows (zs ++ [z]) (ss ++ [.ref a]) :=
  ⟨same_upd x.sm x.s0, x.r0, x.s0, x.ne, by rw [upd_ne x.ne]; exact x.hr, upd_same, (x.sp.mono fun a o _ h e => by rw [upd_ne h]; exact e).snoc (by rw [upd_ne h2]; exact ha) h1 h2⟩
theorem layF_take {ms : List Mk} {j : Nat} {m : Mk} (h : ms[j]? = some m) : layF L0 (ms.take (j + 1)) = (((layF L0 (ms.take j)).1.next m.k m.w).1, (layF L0 (ms.take j)).2 ++ [((layF L0 (ms.take j)).1.next m.k m.w).2]) := by
  rw [List.take_add_one, h, layF_app]; rfl
def spLaid : Sp := fun vs H Q _ => ∃ (g : Addr) (us : List V) (ms : List Mk), vs = [.ref g] ∧ H g = some (.lst us) ∧ Mks H us ms ∧ ms.length ≤ 4100 ∧ (∀ m ∈ ms, MOk m) ∧
  ∀ H' d ra sa ss, LD H H' ra sa (layF L0 ms).1.rows (layF L0 ms).2 ss → H' d = some (.lst [.ref ra, .ref sa]) → Q (.ref d) H'
section
variable {P : Program} {w : World} {K : PySem.W.Frag} {mg : Str → Option Value} {base : Heap}
theorem ok__law_laid (T : Txt K w mg) (Ow : OkD P w K mg base CX0 1 "_law_written" p__law_written spWrit) : OkD P w K mg base CX0 2 "_law_laid" p__law_laid spLaid := by
  refine T.g__law_laid.ok sc__law_laid (fun vs H Q E h => ?_) (fun f cdv A outer s H vs Q E hr h => ?_)
  · obtain ⟨g, us, ms, rfl, _⟩ := h; rfl
  obtain ⟨g, us, ms, rfl, hg, hm, hml, hok, q⟩ := h
  have z : Str.ofString "indent" = S (Kd.cp .indent) ∧ Str.ofString "dedent" = S (Kd.cp .dedent) ∧ Str.ofString "newline" = S (Kd.cp .newline) ∧ Str.ofString "end" = S (Kd.cp .fin) ∧ Str.ofString "    " = S [32, 32, 32, 32] ∧ Str.ofString " " = S [32] ∧ Str.ofString "" = S [] := by decide +kernel
  obtain ⟨zi, zd, zn, ze, z4, z1, z0⟩ := z
  have lim : (2000000 : Nat) ≤ sizeLine := by decide
  have lim2 : sizeLine = 16777216 := sizeLine_eq
  refine ⟨_, (pss_cons (ps_set (i := 1) sc__law_laid.nd rfl (.inl rfl) (pe_lst pa_nil))
      (pss_cons (ps_set (i := 2) sc__law_laid.nd rfl (.inl rfl) (pe_lst pa_nil))
      (pss_cons (ps_set (i := 3) sc__law_laid.nd rfl (.inl rfl) pe_int)
      (pss_cons (ps_set (i := 4) sc__law_laid.nd rfl (.inl rfl) pe_str)
      (pss_cons (ps_for PassesOwn.never rfl (pi_list (pv 0)) (pg_name (i := 5) sc__law_laid.nd rfl (Or.inl rfl)) (pss_cons (ps_set (i := 6) sc__law_laid.nd rfl (.inl rfl) (pe_lst (pa_cons (pe_op op_add (pe_callB call_len_seq (by rfl) T.z_len PySem.boot_len (pa_cons (pv 1) pa_nil)) pe_int) (pa_cons (pe_op op_add (pe_callB call_len_str (by rfl) T.z_len PySem.boot_len (pa_cons (pv 4) pa_nil)) pe_int) pa_nil))))
      (pss_cons (ps_if (pt_cmpR op_in_seq (pe_ix ix_tup (pv 5) pe_int (fun _ _ => rfl)) (pe_lst (pa_cons pe_str (pa_cons pe_str pa_nil))) (by rfl)) (pss_cons (ps_set (i := 3) sc__law_laid.nd rfl (.inl rfl) (pe_op op_sub (pe_op op_add (pv 3) (pe_callTy call_int1 (by rfl) T.z_int PyProof.Rows.boot_int (pa_cons (pe_cmpR op_eq (pe_ix ix_tup (pv 5) pe_int (fun _ _ => rfl)) pe_str (nomark _)) pa_nil))) (pe_callTy call_int1 (by rfl) T.z_int PyProof.Rows.boot_int (pa_cons (pe_cmpR op_eq (pe_ix ix_tup (pv 5) pe_int (fun _ _ => rfl)) pe_str (nomark _)) pa_nil))))
      (pss_one (ps_set (i := 6) sc__law_laid.nd rfl (.inl rfl) (pe_lst pa_nil)))) (pss_one (ps_if (pt_cmpR op_eq (pe_ix ix_tup (pv 5) pe_int (fun _ _ => rfl)) pe_str (nomark _)) (pss_cons (ps_expr (pe_bm PySem.F.plainAttrs_list PySem.F.slot_list_append PySem.F.type_list_append mt_append (pv 1) (pa_cons (pv 4) pa_nil)))
      (pss_one (ps_set (i := 4) sc__law_laid.nd rfl (.inl rfl) pe_str))) (pss_one (ps_if (pt_cmpR op_ne (pe_ix ix_tup (pv 5) pe_int (fun _ _ => rfl)) pe_str (nomark _)) (pss_cons (ps_if (pt_cmpR op_eq (pv 4) pe_str (nomark _)) (pss_one (ps_set (i := 4) sc__law_laid.nd rfl (.inl rfl) (pe_op op_mulS pe_str (pv 3)))) (pss_one (ps_set (i := 4) sc__law_laid.nd rfl (.inl rfl) (pe_op op_add_str (pv 4) pe_str))))
      (pss_cons (ps_set (i := 6) sc__law_laid.nd rfl (.inl rfl) (pe_lst (pa_cons (pe_op op_add (pe_callB call_len_seq (by rfl) T.z_len PySem.boot_len (pa_cons (pv 1) pa_nil)) pe_int) (pa_cons (pe_op op_add (pe_callB call_len_str (by rfl) T.z_len PySem.boot_len (pa_cons (pv 4) pa_nil)) pe_int) pa_nil))))
      (pss_one (ps_set (i := 4) sc__law_laid.nd rfl (.inl rfl) (pe_op op_add_str (pv 4) (pcall Ow hr (pa_cons (pe_ix ix_tup (pv 5) pe_int (fun _ _ => rfl)) (pa_cons (pe_ix ix_tup (pv 5) pe_int (fun _ _ => rfl)) pa_nil)))))))) pss_nil)))))
      (pss_one (ps_expr (pe_bm PySem.F.plainAttrs_list PySem.F.slot_list_append PySem.F.type_list_append mt_append (pv 2) (pa_cons (pv 6) pa_nil)))))))
      (pss_one (ps_ret (pe_lst (pa_cons (pv 1) (pa_cons (pv 2) pa_nil)))))))))), ?_⟩
  refine ⟨by show 0 ≤ sizeLine; omega, fun ra hra => ⟨by show 0 ≤ sizeLine; omega, fun sa hsa => ?_⟩⟩
  have hra0 : H ra = none := hra
  have hsa0 : H sa = none := (same_new hra0 (.lst [])).free hsa
  have nrw : ra ≠ sa := ne_of_none upd_same hsa
  have x0 : LD H (upd (upd H ra (.lst [])) sa (.lst [])) ra sa [] [] [] := ⟨same_upd (same_new hra0 _) hsa0, hra0, hsa0, nrw, by rw [upd_ne nrw]; exact upd_same, upd_same, rfl, fun i z h => by cases h⟩
  generalize upd (upd H ra (.lst [])) sa (.lst []) = H1 at x0 ⊢
  rw [z0]
  refine ⟨_, rfl, g, rfl, ⟨_, SqL.of (x0.sm _ _ hg)⟩, for_it (walk_list (xs := us)) (fun j σ H' => ∃ (ss : List V) (y5 y6 : Option V), σ = [some (.ref g), some (.ref ra), some (.ref sa), some (.int (layF L0 (ms.take j)).1.dep), some (.str (S (layF L0 (ms.take j)).1.row)), y5, y6] ∧
      LD H H' ra sa (layF L0 (ms.take j)).1.rows (layF L0 (ms.take j)).2 ss ∧ -(j : Int) ≤ (layF L0 (ms.take j)).1.dep ∧ (layF L0 (ms.take j)).1.dep ≤ j ∧ (layF L0 (ms.take j)).1.rows.length ≤ j ∧ (layF L0 (ms.take j)).1.row.length ≤ 16400 + 240 * j)
    ⟨[], none, none, rfl, x0, Int.le_refl 0, Int.le_refl 0, Nat.le_refl _, Nat.zero_le _⟩ (fun j σ H' _ h => by obtain ⟨_, _, _, _, h, _⟩ := h; exact SqL.of (h.sm _ _ hg)) ?_ ?_⟩
  · rintro j x σ H2 H3 hj ⟨ss, y5, y6, rfl, x2, l1, l2, l3, l4⟩ ⟨rfl, hx⟩
    rw [hm.1] at hj
    have hmj : ms[j]? = some ms[j] := List.getElem?_eq_getElem hj
    obtain ⟨a, ha, hta⟩ := hm.2 j _ hmj
    have : x = .ref a := Option.some.inj (hx.symm.trans ha)
    subst this
    have k0 := hok _ (List.getElem_mem hj)
    have et := layF_take hmj
    generalize ms[j] = m at *
    have a0 : atI m.vs (0 : Int) = some (.str (S m.k.cp)) := atI_nat (j := 0) rfl
    have a1 : atI m.vs (1 : Int) = some m.w.v := atI_nat (j := 1) rfl
    rw [et]
    have hzl : (layF L0 (ms.take j)).2.length ≤ 4100 := by rw [layF_len, List.length_take]; omega
    have hssl : ss.length = (layF L0 (ms.take j)).2.length := x2.sp.1
    generalize (layF L0 (ms.take j)).2 = zs at *
    generalize (layF L0 (ms.take j)).1 = st at *
    have fin : ∀ (H' : Hp) (st' : LS) (zl : Pl) (pa : Addr) (y5 y6 : Option V), st.next m.k m.w = (st', zl) → LD H H' ra sa st'.rows zs ss → H' pa = some (.lst (plv zl)) → pa ≠ ra → pa ≠ sa → -((j + 1 : Nat) : Int) ≤ st'.dep → st'.dep ≤ (j + 1 : Nat) → st'.rows.length ≤ j + 1 → st'.row.length ≤ 16400 + 240 * (j + 1) →
        ∃ (ss' : List V) (z5 z6 : Option V), [some (V.ref g), some (.ref ra), some (.ref sa), some (.int st'.dep), some (.str (S st'.row)), y5, y6] = [some (V.ref g), some (.ref ra), some (.ref sa), some (.int (st.next m.k m.w).1.dep), some (.str (S (st.next m.k m.w).1.row)), z5, z6] ∧
        LD H (upd H' sa (.lst (ss ++ [.ref pa]))) ra sa (st.next m.k m.w).1.rows (zs ++ [(st.next m.k m.w).2]) ss' ∧ -((j + 1 : Nat) : Int) ≤ (st.next m.k m.w).1.dep ∧ (st.next m.k m.w).1.dep ≤ (j + 1 : Nat) ∧ (st.next m.k m.w).1.rows.length ≤ j + 1 ∧ (st.next m.k m.w).1.row.length ≤ 16400 + 240 * (j + 1) := by
      intro H' st' zl pa y5 y6 e b1 b2 b3 b4 b6 b7 b8 b9
      rw [e]
      exact ⟨_, _, _, rfl, b1.spot b2 b3 b4, b6, b7, b8, b9⟩
    have hrl : (st.rows.map fun r => V.str (S r)).length = st.rows.length := List.length_map ..
    refine ⟨_, rfl, ra, _, rfl, .inl (SqL.of x2.hr), _, _, rfl, rfl, _, rfl, _, rfl, by rw [S_len]; omega, _, _, rfl, rfl, by show 2 ≤ sizeLine; omega, fun pa hpa => ?_⟩
    have s3 := same_new hpa (.lst [.int ((st.rows.map fun r => V.str (S r)).length + 1), .int ((S st.row).length + 1)])
    have x3 := x2.same s3
    have hp3 : upd H3 pa (.lst [.int ((st.rows.map fun r => V.str (S r)).length + 1), .int ((S st.row).length + 1)]) pa = some (.lst (plv (some (st.rows.length + 1, st.row.length + 1)))) := by
      rw [upd_same, hrl, S_len]; rfl
    have npr : pa ≠ ra := (ne_of_none x2.hr hpa).symm
    have nps : pa ≠ sa := (ne_of_none x2.hs hpa).symm
    generalize upd H3 pa _ = H4 at s3 x3 hp3 ⊢
    have ta4 := SqT.of (K := K) (x3.sm _ _ hta)
    refine ⟨_, rfl, a, _, 0, _, rfl, rfl, ta4, a0, by show 2 ≤ sizeLine; omega, fun wl hwl => ?_⟩
    have s5 := same_new hwl (.lst [.str (Str.ofString "indent"), .str (Str.ofString "dedent")])
    have x5 := x3.same s5
    have hp5 := s5 _ _ hp3
    refine ⟨wl, _, rfl, .inl (SqL.of upd_same), rfl, rfl, _, rfl, ?_⟩
    generalize upd H4 wl _ = H5 at s5 x5 hp5 ⊢
    have hT : SqT K H5 a m.vs := SqT.of (x5.sm _ _ hta)
    have ein : inV (V.str (S m.k.cp)) [V.str (Str.ofString "indent"), V.str (Str.ofString "dedent")] = decide (m.k.cp ∈ [Kd.indent.cp, Kd.dedent.cp]) := by
      rw [zi, zd]; exact in_strs m.k.cp [Kd.indent.cp, Kd.dedent.cp]
    rw [ein]
    by_cases ci : m.k = .indent ∨ m.k = .dedent
    · refine iteT' (by rcases ci with h | h <;> rw [h] <;> rfl) ?_
      refine ⟨_, rfl, _, rfl, a, _, 0, _, rfl, rfl, hT, a0, rfl, .inr ⟨_, rfl, _, _, rfl, rfl, _, rfl, a, _, 0, _, rfl, rfl, hT, a0, rfl, .inr ⟨_, rfl, _, _, rfl, rfl, ?_⟩⟩⟩
      rw [zi, zd, kd_dec2, kd_dec2]
      refine ⟨by show 0 ≤ sizeLine; omega, fun pb hpb => ?_⟩
      have s6 := same_new hpb (.lst [])
      have x6 := x5.same s6
      have hp6 : upd H5 pb (.lst []) pb = some (.lst (plv none)) := upd_same
      have npr : pb ≠ ra := (ne_of_none x5.hr hpb).symm
      have nps : pb ≠ sa := (ne_of_none x5.hs hpb).symm
      generalize upd H5 pb _ = H6 at s6 x6 hp6 ⊢
      refine ⟨_, rfl, .inl ⟨rfl, _, SqL.of x6.hs⟩, _, rfl, sa, _, _, rfl, rfl, x6.hs, by omega, ?_⟩
      rcases ci with ci | ci
      · have e1 : (if decide (m.k.cp = Kd.indent.cp) = true then (1 : Int) else 0) = 1 := by rw [ci]; rfl
        have e2 : (if decide (m.k.cp = Kd.dedent.cp) = true then (1 : Int) else 0) = 0 := by rw [ci]; rfl
        rw [e1, e2]
        exact fin _ ⟨st.rows, st.row, st.dep + 1 - 0⟩ _ pb (some (.ref a)) (some (.ref pb)) (by rw [ci, Int.sub_zero]; rfl) x6 hp6 npr nps (by show _ ≤ st.dep + 1 - 0; omega) (by show st.dep + 1 - 0 ≤ _; omega) (by show st.rows.length ≤ _; omega) (by show st.row.length ≤ _; omega)
      · have e1 : (if decide (m.k.cp = Kd.indent.cp) = true then (1 : Int) else 0) = 0 := by rw [ci]; rfl
        have e2 : (if decide (m.k.cp = Kd.dedent.cp) = true then (1 : Int) else 0) = 1 := by rw [ci]; rfl
        rw [e1, e2]
        exact fin _ ⟨st.rows, st.row, st.dep + 0 - 1⟩ _ pb (some (.ref a)) (some (.ref pb)) (by rw [ci, Int.add_zero]; rfl) x6 hp6 npr nps (by show _ ≤ st.dep + 0 - 1; omega) (by show st.dep + 0 - 1 ≤ _; omega) (by show st.rows.length ≤ _; omega) (by show st.row.length ≤ _; omega)
    refine iteF' (decide_eq_false fun z => ?_) ?_
    · rcases List.mem_cons.mp z with z | z
      · exact ci (.inl (S_inj2 z))
      · exact ci (.inr (S_inj2 (List.mem_singleton.mp z)))
    refine ⟨_, rfl, a, _, 0, _, rfl, rfl, hT, a0, rfl, _, rfl, ?_⟩
    rw [zn, kd_dec2]
    by_cases cn : m.k = .newline
    · refine iteT' (by rw [cn]; rfl) ?_
      refine ⟨_, rfl, .inl ⟨rfl, _, SqL.of x5.hr⟩, ?_⟩
      refine ⟨_, rfl, ra, _, _, rfl, rfl, x5.hr, by rw [hrl]; omega, ?_⟩
      have x6 := x5.row st.row
      have hp6 : upd H5 ra (.lst ((st.rows.map fun r => V.str (S r)) ++ [.str (S st.row)])) pa = some (.lst (plv (some (st.rows.length + 1, st.row.length + 1)))) := by rw [upd_ne npr]; exact hp5
      generalize upd H5 ra _ = H6 at x6 hp6 ⊢
      refine ⟨_, rfl, .inl ⟨rfl, _, SqL.of x6.hs⟩, _, rfl, sa, _, _, rfl, rfl, x6.hs, by omega, ?_⟩
      exact fin _ ⟨st.rows ++ [st.row], [], st.dep⟩ _ pa (some (.ref a)) (some (.ref pa)) (by rw [cn]; rfl) x6 hp6 npr nps (by show _ ≤ st.dep; omega) (by show st.dep ≤ _; omega) (by show (st.rows ++ [_]).length ≤ _; rw [List.length_append]; show _ + 1 ≤ _; omega) (by show 0 ≤ _; omega)
    refine iteF' (decide_eq_false fun z => cn (S_inj2 z)) ⟨_, rfl, a, _, 0, _, rfl, rfl, hT, a0, rfl, _, rfl, ?_⟩
    rw [ze]
    by_cases ce : m.k = .fin
    · refine iteF' (by rw [ce]; rfl) ?_
      refine ⟨_, rfl, .inl ⟨rfl, _, SqL.of x5.hs⟩, _, rfl, sa, _, _, rfl, rfl, x5.hs, by omega, ?_⟩
      exact fin _ st _ pa (some (.ref a)) (some (.ref pa)) (by rw [ce]; rfl) x5 hp5 npr nps (by omega) (by omega) (by omega) (by omega)
    · have hwk : WOK m.k m.w := by
        rcases k0 with ⟨z | z | z | z, _⟩ | z
        · exact absurd z cn
        · exact absurd (.inl z) ci
        · exact absurd (.inr z) ci
        · exact absurd z ce
        · exact z
      refine iteT' (by show (!decide (V.str (S m.k.cp) = V.str (S Kd.fin.cp))) = true; rw [kd_dec2, decide_eq_false fun z => ce (S_inj2 z)]; rfl) ?_
      have hdn : st.dep.toNat ≤ 4100 := by omega
      have tl : ∀ (H6 : Hp) (pa : Addr), LD H H6 ra sa st.rows zs ss → H6 pa = some (.lst (plv (some (st.rows.length + 1, st.open_.length + 1)))) → pa ≠ ra → pa ≠ sa → st.open_.length ≤ 16400 + 240 * j + 1 → ∃ (ss' : List V) (z5 z6 : Option V), [some (V.ref g), some (.ref ra), some (.ref sa), some (.int st.dep), some (.str (S (st.open_ ++ spell m.k m.w))), some (.ref a), some (.ref pa)] = [some (V.ref g), some (.ref ra), some (.ref sa), some (.int (st.next m.k m.w).1.dep), some (.str (S (st.next m.k m.w).1.row)), z5, z6] ∧
        LD H (upd H6 sa (.lst (ss ++ [.ref pa]))) ra sa (st.next m.k m.w).1.rows (zs ++ [(st.next m.k m.w).2]) ss' ∧ -((j + 1 : Nat) : Int) ≤ (st.next m.k m.w).1.dep ∧ (st.next m.k m.w).1.dep ≤ (j + 1 : Nat) ∧ (st.next m.k m.w).1.rows.length ≤ j + 1 ∧ (st.next m.k m.w).1.row.length ≤ 16400 + 240 * (j + 1) := fun H6 pa x6 hp6 npr nps ho =>
        fin _ ⟨st.rows, st.open_ ++ spell m.k m.w, st.dep⟩ _ pa (some (.ref a)) (some (.ref pa)) (hwk.1.next st) x6 hp6 npr nps (by show _ ≤ st.dep; omega) (by show st.dep ≤ _; omega) (by show st.rows.length ≤ _; omega) (by show (st.open_ ++ _).length ≤ _; have := hwk.2; rw [List.length_append]; omega)
      have ol : st.open_.length ≤ 16400 + 240 * j + 1 := by
        unfold LS.open_
        split
        · rw [List.length_replicate]; omega
        · rw [List.length_append]; show _ + 1 ≤ _; omega
      refine ⟨_, rfl, rfl, _, rfl, ?_⟩
      rw [str_dec]
      by_cases cr : st.row = []
      · refine iteT' (decide_eq_true cr) ?_
        have eo : st.open_ = spn (4 * st.dep.toNat) := if_pos cr
        rw [eo] at ol
        rw [z4]
        refine ⟨_, rfl, _, _, rfl, rfl, mul_ok4 (by omega) (by omega), ?_⟩
        rw [spaces4]
        refine ⟨_, rfl, ra, _, rfl, .inl (SqL.of x5.hr), _, _, rfl, rfl, _, rfl, _, rfl, by rw [S_len]; omega, _, _, rfl, rfl, by show 2 ≤ sizeLine; omega, fun pb hpb => ?_⟩
        have s6 := same_new hpb (.lst [.int ((st.rows.map fun r => V.str (S r)).length + 1), .int ((S (spn (4 * st.dep.toNat))).length + 1)])
        have x6 := x5.same s6
        have hp6 : upd H5 pb (.lst [.int ((st.rows.map fun r => V.str (S r)).length + 1), .int ((S (spn (4 * st.dep.toNat))).length + 1)]) pb = some (.lst (plv (some (st.rows.length + 1, st.open_.length + 1)))) := by
          rw [upd_same, hrl, S_len, eo]; rfl
        have npr : pb ≠ ra := (ne_of_none x5.hr hpb).symm
        have nps : pb ≠ sa := (ne_of_none x5.hs hpb).symm
        generalize upd H5 pb _ = H6 at s6 x6 hp6 ⊢
        have hT6 : SqT K H6 a m.vs := SqT.of (x6.sm _ _ hta)
        refine ⟨_, rfl, _, rfl, a, _, 0, _, rfl, rfl, hT6, a0, _, rfl, a, _, 1, _, rfl, rfl, hT6, a1, m.k, m.w, rfl, hwk, _, _, rfl, rfl, by have := hwk.2; rw [S_len, S_len]; omega, ?_⟩
        rw [S_cat]
        refine ⟨_, rfl, .inl ⟨rfl, _, SqL.of x6.hs⟩, _, rfl, sa, _, _, rfl, rfl, x6.hs, by omega, ?_⟩
        have := tl H6 pb x6 hp6 npr nps (by rw [eo]; exact ol)
        rw [eo] at this
        exact this
      · refine iteF' (decide_eq_false cr) ?_
        have eo : st.open_ = st.row ++ [32] := if_neg cr
        rw [eo] at ol
        rw [z1]
        refine ⟨_, rfl, _, _, rfl, rfl, by rw [S_len, S_len]; show _ + 1 ≤ _; omega, ?_⟩
        rw [S_cat]
        refine ⟨_, rfl, ra, _, rfl, .inl (SqL.of x5.hr), _, _, rfl, rfl, _, rfl, _, rfl, by rw [S_len]; omega, _, _, rfl, rfl, by show 2 ≤ sizeLine; omega, fun pb hpb => ?_⟩
        have s6 := same_new hpb (.lst [.int ((st.rows.map fun r => V.str (S r)).length + 1), .int ((S (st.row ++ [32])).length + 1)])
        have x6 := x5.same s6
        have hp6 : upd H5 pb (.lst [.int ((st.rows.map fun r => V.str (S r)).length + 1), .int ((S (st.row ++ [32])).length + 1)]) pb = some (.lst (plv (some (st.rows.length + 1, st.open_.length + 1)))) := by
          rw [upd_same, hrl, S_len, eo]; rfl
        have npr : pb ≠ ra := (ne_of_none x5.hr hpb).symm
        have nps : pb ≠ sa := (ne_of_none x5.hs hpb).symm
        generalize upd H5 pb _ = H6 at s6 x6 hp6 ⊢
        have hT6 : SqT K H6 a m.vs := SqT.of (x6.sm _ _ hta)
        refine ⟨_, rfl, _, rfl, a, _, 0, _, rfl, rfl, hT6, a0, _, rfl, a, _, 1, _, rfl, rfl, hT6, a1, m.k, m.w, rfl, hwk, _, _, rfl, rfl, by have := hwk.2; rw [S_len, S_len]; omega, ?_⟩
        rw [S_cat]
        refine ⟨_, rfl, .inl ⟨rfl, _, SqL.of x6.hs⟩, _, rfl, sa, _, _, rfl, rfl, x6.hs, by omega, ?_⟩
        have := tl H6 pb x6 hp6 npr nps (by rw [eo]; exact ol)
        rw [eo] at this
        exact this
  · rintro σ H2 ⟨ss, y5, y6, rfl, x2, l1, l2, l3, l4⟩
    rw [hm.1, List.take_length] at x2
    refine ⟨_, rfl, _, rfl, by show 2 ≤ sizeLine; omega, fun d hd => ?_⟩
    exact q _ d ra sa ss (x2.same (same_new hd _)) upd_same
end
end D0
/-! list(reversed(a list)) -/
namespace RT
open PySem PySem.Spec PyProof.Rows L2
section
variable {prog : Program} {w : World} {A : Around} {E : Value → Shared → Prop} {s : Shared}
theorem ext_rev {R : Result → Shared → Prop} {it l : Addr} {items : Array Value} (hh : A.handled = none) (hit : s.heap.IsRevIter it l ((items.size : Int) - 1)) (hl : s.heap.IsList l items) (hne : l ≠ it) (hn : items.size ≤ sizeLine) (S : Addr) (hSi : S ≠ it) (hSl : S ≠ l) (res : Value) (c₀ : Nat)
    (hS : s.heap.get? S = some { cls := .type "list", data := .seq #[] c₀ })
    (hR : ∀ h' tk acc' c', (∀ b o, b ≠ S → b ≠ it → s.heap.get? b = some o → h'.get? b = some o) → h'.get? S = some { cls := .type "list", dict := none, data := .seq acc' c', slots := #[] } →
      ItemsOf (fun i v => items[items.size - 1 - i]? = some v) acc' items.size → R (.ok (.ret res)) { s with heap := h', toks := tk }) :
    wpAny (model prog w) A.in1 (Builtin.List.listExtendWith (.ref S) (.ref it) res)
      (fun fin s' => match fin with | .done f => R (.ok f) s' | .again c' => c'.quiet = true ∧ codeAny (model prog w) A c' R s') (fun e s' => R (.error e) s') s := by
  have W := (Walks.listRev (prog := prog) (w := w) (A := A.in1) hh it l hne items).toS
  have hSf : S ∉ [it, l] := by simp only [List.mem_cons, List.not_mem_nil, or_false, not_or]; exact ⟨hSi, hSl⟩
  have hT : s.TypeIs (.ref it) "list_reverseiterator" := hit.typeIs
  have h1 : Builtin.List.listSameRef (.ref S) (.ref it) = false := by simp [Builtin.List.listSameRef, hSi]
  unfold Builtin.List.listExtendWith
  refine wpAny_bind (wpAny_typeOf hT ?_)
  rw [if_neg (by rw [h1]; decide)]
  refine wpAny_bind (wpAny_pyIter_revIter hit ?_)
  refine wpAny_bind (wpAny_holding ?_)
  unfold Builtin.List.listLengthHint
  refine wpAny_bind (wpAny_specialOf hT nolen_lri ?_)
  show wpAny _ A.in1 (specialOf (Value.ref it) (Str.ofString "__length_hint__") >>= _) _ _ _
  refine wpAny_bind (wpAny_specialOf hT hint_lri ?_)
  generalize hid : ("list_reverseiterator.__length_hint__" : String) = id0
  wp_delta
  rw [show splitId id0 = some ("list_reverseiterator", "__length_hint__") from by subst hid; decide +kernel]
  subst hid
  refine wpAny_bind (wpAny_isInstance (b := true) hT (by rw [isSubtype_type]; kernel_rfl) ?_)
  refine wpAny_pure ?_
  rw [if_neg (by decide)]
  have e0 : ((items.size : Nat) : Int) - 1 - ((0 : Nat) : Int) = (items.size : Int) - 1 := by omega
  refine wpAny_pure ⟨plainId_quiet F.plain_extend_loop _, codeAny_extend_loopS W hn _ hSf _ items.size 0 _ _ _ rfl (Nat.zero_le _) ⟨Nat.zero_le _, by rw [e0]; exact hit, hl⟩ hS (ItemsOf.nil _) fun s' acc' c' hm hS' hacc => ?_⟩
  rw [Moved.eq_with hm]
  refine hR s'.heap s'.toks acc' c' (fun b o hb hb2 e => hm.heap b o (fun hmem => ?_) e) hS' hacc
  rcases List.mem_cons.mp hmem with e' | hmem
  · exact hb e'
  · exact hb2 (List.mem_singleton.mp hmem)
theorem init_rev {R : Result → Shared → Prop} {it l : Addr} {items : Array Value} (hh : A.handled = none) (hit : s.heap.IsRevIter it l ((items.size : Int) - 1)) (hl : s.heap.IsList l items) (hne : l ≠ it) (hn : items.size ≤ sizeLine) (S : Addr) (hSi : S ≠ it) (hSl : S ≠ l)
    (hS : s.heap.get? S = some { cls := .type "list", data := .seq #[] })
    (hR : ∀ h' tk acc' c', (∀ b o, b ≠ S → b ≠ it → s.heap.get? b = some o → h'.get? b = some o) → h'.get? S = some { cls := .type "list", dict := none, data := .seq acc' c', slots := #[] } →
      ItemsOf (fun i v => items[items.size - 1 - i]? = some v) acc' items.size → R (.ok (.ret .none)) { s with heap := h', toks := tk }) :
    wpAny (model prog w) A.in1 (Builtin.«list.__init__» ⟨[.ref S, .ref it], []⟩)
      (fun fin s' => match fin with | .done f => R (.ok f) s' | .again c' => c'.quiet = true ∧ codeAny (model prog w) A c' R s') (fun e s' => R (.error e) s') s := by
  show wpAny _ _ (do let old ← Builtin.List.listItems (.ref S); Builtin.List.listUpdate (.ref S) (fun _ => #[]); letGo old.toList.reverse; Builtin.List.listExtendWith (.ref S) (.ref it) .none) _ _ s
  refine wpAny_bind ?_
  unfold Builtin.List.listItems
  refine wpAny_bind (wpAny_seqItems hS rfl (wpAny_pure ?_))
  show wpAny _ _ (updateSeq S (fun _ => #[]) >>= fun _ => letGo (#[] : Array Value).toList.reverse >>= fun _ => Builtin.List.listExtendWith (.ref S) (.ref it) .none) _ _ s
  refine wpAny_bind (wpAny_updateSeq hS rfl ?_)
  have hS₂ := Heap.get?_update_self (Obj.mapSeq (fun _ => (#[] : Array Value))) hS rfl
  have oth : ∀ b o, b ≠ S → s.heap.get? b = some o → (s.heap.update S (Obj.mapSeq (fun _ => (#[] : Array Value)))).get? b = some o :=
    fun b o hb e => (Heap.get?_update_other _ _ (Ne.symm hb)).trans e
  refine wpAny_bind (wpAny_letGo ?_)
  refine ext_rev (s := { s with heap := s.heap.update S (Obj.mapSeq (fun _ => (#[] : Array Value))) }) hh (hit.at fun o e => oth it o hSi.symm e) (hl.at fun o e => oth l o hSl.symm e) hne hn S hSi hSl .none _ hS₂ fun h' tk acc' c' hk hS' hacc => ?_
  exact hR h' tk acc' c' (fun b o hb hb2 e => hk b o hb hb2 (oth b o hb e)) hS' hacc
theorem call_list_rev {it l : Addr} {items : Array Value} {Q : Value → Shared → Prop} (hh : A.handled = none) (hit : s.heap.IsRevIter it l ((items.size : Int) - 1)) (hl : s.heap.IsList l items) (hne : l ≠ it) (hn : items.size ≤ sizeLine)
    (hQ : ∀ h' tk acc' c', (∀ b o, b ≠ it → s.heap.get? b = some o → h'.get? b = some o) →
      h'.get? s.heap.objs.size = some { cls := .type "list", dict := none, data := .seq acc' c', slots := #[] } → ItemsOf (fun i v => items[items.size - 1 - i]? = some v) acc' items.size → Q (.ref s.heap.objs.size) { s with heap := h', toks := tk }) :
    wpAny (model prog w) A (call (.type "list") [.ref it]) Q E s := by
  obtain ⟨oi, hoi, _⟩ := id hit
  obtain ⟨ol, hol, _⟩ := id hl
  have hSi : s.heap.objs.size ≠ it := Nat.ne_of_gt (Heap.lt_size hoi)
  have hSl : s.heap.objs.size ≠ l := Nat.ne_of_gt (Heap.lt_size hol)
  refine callType_codes (Q₁ := fun obj s₁ => obj = .ref s.heap.objs.size ∧ s₁ = { s with heap := s.heap.push { cls := .type "list", data := .seq #[] } }) F.called_list (F.typeCall_list_1 _) F.entry_list_init
    (code_list_new _ ⟨rfl, rfl⟩) fun obj s₁ h₁ => ?_
  obtain ⟨rfl, rfl⟩ := h₁
  have hS : (s.heap.push { cls := .type "list", data := .seq #[] }).get? s.heap.objs.size = some { cls := .type "list", data := .seq #[] } := Heap.get?_push_size _ rfl
  refine ⟨⟨_, hS, rfl⟩, F.args_list_init_2 _ _, init_rev (A := A.in1) (s := { s with heap := s.heap.push { cls := .type "list", data := .seq #[] } }) hh (hit.at fun o e => Heap.get?_push_of_some _ e) (hl.push _) hne hn _ hSi hSl hS fun h' tk acc' c' hk hS' hacc => ?_⟩
  exact ⟨rfl, hQ h' tk acc' c' (fun b o hb e => hk b o (Nat.ne_of_lt (Heap.lt_size e)) hb (Heap.get?_push_of_some _ e)) hS' hacc⟩
end
section
variable {X : Cx}
/-- list(reversed(x)), x a list: a new list -/
def tLstRev (K : PySem.W.Frag) (te : TE) : TE := fun σ H Q => te σ H fun v H1 => ∃ (a : Addr) (xs : List V), v = .ref a ∧ SqL K H1 a xs ∧ ∀ q, H1 q = none → Q (.ref q) (upd H1 q (.lst xs.reverse))
theorem pe_lstRev {e : Expr} {te : TE} {p p2 pos pos2 : Pos} (hc : X.calm = true) (hg : Gl X "list") (hm : X.mg "list" = none) (hg2 : Gl X "reversed") (hm2 : X.mg "reversed" = none) (he : PE X e te)
    (hs : starEach [e] X.env = (false, eval e X.env) :: starEach [] X.env := by rfl)
    (hs2 : starEach [.Call (.Name "reversed" p2) [e] [] pos2] X.env = (false, eval (.Call (.Name "reversed" p2) [e] [] pos2) X.env) :: starEach [] X.env := by rfl) :
    PE X (.Call (.Name "list" p) [.Call (.Name "reversed" p2) [e] [] pos2] [] pos) (tLstRev X.K te) := by
  refine ⟨fun pins s σ H Q I h => ?_⟩
  refine Call_ (ld_blt I hg hm boot_list (PyProof.Rows.callWith_type1 (args_cons (Call_ (ld_blt I hg2 hm2 PyProof.Rows.boot_reversed (PyProof.Rows.callWith_type1 (args_cons (thn (he.run pins s σ H _ I h) fun u s1 ⟨v, H1, I1, r1, q1⟩ => args_nil ?_) hs) hs rfl))) hs2) hs2 rfl))
  obtain ⟨a, xs, ev, hq, q⟩ := q1
  subst ev
  obtain rfl : u = Value.ref a := r1
  obtain ⟨its, rv, p', hz⟩ := I1.list hq
  refine call_reversed_list p'.isList (args_nil ?_)
  have k0 : ∀ b o, s1.heap.get? b = some o → (s1.heap.push (revObj a ((its.toArray.size : Int) - 1))).get? b = some o := fun b o e => Heap.get?_push_of_some _ e
  have I2 : Inv X pins σ H1 { s1 with heap := s1.heap.push (revObj a ((its.toArray.size : Int) - 1)) } := I1.kept (t' := s1.toks) k0
  obtain ⟨f0, f1, f2, f3, f4, f5⟩ := I1.fpOk (H' := H1) (b := s1.heap.objs.size) (Nat.le_refl _) (I1.hok.fresh (Nat.le_refl _))
  have hl := p'.isList
  obtain ⟨ol, hol, _⟩ := id hl
  have hne : a ≠ s1.heap.objs.size := Nat.ne_of_lt (Heap.lt_size hol)
  have hn : its.toArray.size ≤ sizeLine := by rw [List.size_toArray, ← rv.length]; exact hz
  refine call_list_rev (s := { s1 with heap := s1.heap.push (revObj a ((its.toArray.size : Int) - 1)) }) (I1.ok.hd hc) ⟨_, Heap.get?_push_size _ rfl, rfl, rfl⟩ (hl.push _) hne hn fun h' tk acc c' hk e' hi => ?_
  have hsz : (s1.heap.push (revObj a ((its.toArray.size : Int) - 1))).objs.size = s1.heap.objs.size + 1 := Array.size_push ..
  have hfr : s1.heap.objs.size ≤ (s1.heap.push (revObj a ((its.toArray.size : Int) - 1))).objs.size := by rw [hsz]; exact Nat.le_succ _
  refine ⟨.ref (s1.heap.push (revObj a ((its.toArray.size : Int) - 1))).objs.size, upd H1 (s1.heap.push (revObj a ((its.toArray.size : Int) - 1))).objs.size (.lst xs.reverse), I1.laid (fun b u e => hk b u (Nat.ne_of_lt (Heap.lt_size e)) (k0 b u e)) hfr (show ObjOk X.prog X.w _ _ _ (.lst xs.reverse) from ⟨by rw [List.length_reverse]; exact hz, acc.toList, c', vals_rev rv hi, ?_⟩), rfl, q _ (I1.hok.fresh hfr)⟩
  rw [Array.toArray_toList]; exact e'
end
end RT
namespace D0
open PySem PySem.Spec PyProof.Rows L2 SX NumText
def dPl : Pl → List PyData
  | none => []
  | some p => [.int (p.1 : Nat), .int (p.2 : Nat)]
theorem dPl_shaped (z : Pl) : SeqAt.shaped (.list (dPl z)) = true := by
  unfold SeqAt.shaped
  cases z with
  | none =>
    have e : PyData.canLay0 (.list (dPl none)) = true ∧ PyData.depth (.list (dPl none)) ≤ 3 := ⟨by simp only [dPl, PyData.canLay0, PyData.canLayAll0], by simp only [dPl, PyData.depth, PyData.depthAll]; omega⟩
    rw [e.1]; exact decide_eq_true (by omega)
  | some p =>
    have e : PyData.canLay0 (.list (dPl (some p))) = true ∧ PyData.depth (.list (dPl (some p))) ≤ 5 := ⟨by simp only [dPl, PyData.canLay0, PyData.canLayAll0, Bool.and_true], by simp only [dPl, PyData.depth, PyData.depthAll]; omega⟩
    rw [e.1]; exact decide_eq_true (by omega)
theorem dPl_dp {K : PySem.W.Frag} {H : Hp} : ∀ z : Pl, DpAll K H (plv z) (dPl z)
  | none => .nil
  | some p => .cons (.int _) (.cons (.int _) .nil)
theorem dPl_nil (z : Pl) : PyData.eqv (.list (dPl z)) (.list []) = decide (z = none) := by cases z <;> rfl
def spRepl : Sp := fun vs H Q _ => ∃ (g ra sa : Addr) (us ss : List V) (ms : List Mk) (zs z0 : List Pl) (p0 : Nat × Nat), vs = [.ref g, .ref sa] ∧ H g = some (.lst us) ∧ Mks H us ms ∧ H sa = some (.lst ss) ∧ Spots H ra sa ss zs ∧ ms.length = zs.length ∧ ms.length ≤ 4100 ∧ zs = z0 ++ [some p0] ∧
  ∀ H' d us', Same H H' → H' d = some (.lst us') → Mks H' us' (fillP ms zs (0, 0)) → Q (.ref d) H'
theorem fill_drop {ms : List Mk} {zs : List Pl} {k : Nat} {m : Mk} {z : Pl} (h1 : ms[k]? = some m) (h2 : zs[k]? = some z) : fillP (ms.drop k) (zs.drop k) (0, 0) = ⟨m.k, m.w, (nextp (zs.drop k) (0, 0)).1, (nextp (zs.drop k) (0, 0)).2⟩ :: fillP (ms.drop (k + 1)) (zs.drop (k + 1)) (0, 0) ∧ zs.drop k = z :: zs.drop (k + 1) := by
  obtain ⟨a1, a2⟩ := List.getElem?_eq_some_iff.mp h1
  obtain ⟨b1, b2⟩ := List.getElem?_eq_some_iff.mp h2
  have e1 := List.drop_eq_getElem_cons a1
  have e2 := List.drop_eq_getElem_cons b1
  rw [a2] at e1
  rw [b2] at e2
  refine ⟨?_, e2⟩
  rw [e1, e2]; rfl
theorem Mks.rev {H : Hp} : ∀ {us : List V} {ms : List Mk}, Mks H us ms → Mks H us.reverse ms.reverse := by
  intro us ms h
  refine ⟨by rw [List.length_reverse, List.length_reverse, h.1], fun i m hm => ?_⟩
  have hi : i < ms.length := by
    have := (List.getElem?_eq_some_iff.mp hm).1
    rw [List.length_reverse] at this; exact this
  rw [List.getElem?_reverse hi] at hm
  obtain ⟨a, h1, h2⟩ := h.2 _ m hm
  refine ⟨a, ?_, h2⟩
  rw [List.getElem?_reverse (by rw [h.1]; exact hi), h.1]; exact h1
section
variable {P : Program} {w : World} {K : PySem.W.Frag} {mg : Str → Option Value} {base : Heap}
theorem ok__law_replaced (T : Txt K w mg) : OkD P w K mg base CX0 1 "_law_replaced" p__law_replaced spRepl := by
  refine T.g__law_replaced.ok sc__law_replaced (fun vs H Q E h => ?_) (fun f cdv A outer s H vs Q E hr h => ?_)
  · obtain ⟨g, ra, sa, us, ss, ms, zs, z0, p0, rfl, _⟩ := h; rfl
  obtain ⟨g, ra, sa, us, ss, ms, zs, z0, p0, rfl, hg, hm, hsa, hsp, hlen, hml, hz0, q⟩ := h
  have lim : (2000000 : Nat) ≤ sizeLine := by decide
  refine ⟨_, (pss_cons (ps_set (i := 2) sc__law_replaced.nd rfl (.inl rfl) (pe_lst pa_nil))
      (pss_cons (ps_set (i := 3) sc__law_replaced.nd rfl (.inl rfl) (pe_lst pa_nil))
      (pss_cons (ps_for PassesOwn.never rfl (pi_revR (by rfl) T.z_reversed (prg_1 (by rfl) T.z_range (pe_callB call_len_seq (by rfl) T.z_len PySem.boot_len (pa_cons (pv 0) pa_nil)))) (pg_name (i := 4) sc__law_replaced.nd rfl (Or.inl rfl)) (pss_cons (ps_if (pt_cmpR (op_neD hr.units) (pe_ix ix_list (pv 1) (pv 4) (fun _ _ => rfl)) (pe_lst pa_nil) (nomark _)) (pss_one (ps_set (i := 2) sc__law_replaced.nd rfl (.inl rfl) (pe_ix ix_list (pv 1) (pv 4) (fun _ _ => rfl)))) pss_nil)
      (pss_one (ps_expr (pe_bm PySem.F.plainAttrs_list PySem.F.slot_list_append PySem.F.type_list_append mt_append (pv 3) (pa_cons (pe_tup (pa_cons (pe_ix ix_tup (pe_ix ix_list (pv 0) (pv 4) (fun _ _ => rfl)) pe_int (fun _ _ => rfl)) (pa_cons (pe_ix ix_tup (pe_ix ix_list (pv 0) (pv 4) (fun _ _ => rfl)) pe_int (fun _ _ => rfl)) (pa_cons (pe_ix ix_list (pv 2) pe_int (fun _ _ => rfl)) (pa_cons (pe_ix ix_list (pv 2) pe_int (fun _ _ => rfl)) pa_nil))))) pa_nil))))))
      (pss_one (ps_ret (RT.pe_lstRev (by rfl) (by rfl) T.z_list (by rfl) T.z_reversed (pv 3))))))), ?_⟩
  refine ⟨by show 0 ≤ sizeLine; omega, fun pa hpa => ⟨by show 0 ≤ sizeLine; omega, fun la hla => ?_⟩⟩
  have hpa0 : H pa = none := hpa
  have hla0 : H la = none := (same_new hpa0 (.lst [])).free hla
  have sm0 : Same H (upd (upd H pa (.lst [])) la (.lst [])) := same_upd (same_new hpa0 _) hla0
  have l0 : upd (upd H pa (.lst [])) la (.lst []) la = some (.lst []) := upd_same
  generalize upd (upd H pa (.lst [])) la (.lst []) = H1 at sm0 l0 ⊢
  have hul : us.length = ms.length := hm.1
  refine ⟨_, rfl, g, _, rfl, .inl (SqL.of (sm0 _ _ hg)), _, rfl, by omega, by omega, by omega, by omega, ?_⟩
  have en : ((us.length : Int) - 0).toNat = ms.length := by omega
  rw [en]
  refine for_rangeC (fun i σ H' => ∃ (pv : V) (y4 : Option V) (us' : List V), σ = [some (.ref g), some (.ref sa), some pv, some (.ref la), y4] ∧ Same H H' ∧ H' la = some (.lst us') ∧ Mks H' us' (fillP (ms.drop (ms.length - i)) (zs.drop (ms.length - i)) (0, 0)).reverse ∧
      (i ≠ 0 → ∃ pl : Addr, pv = .ref pl ∧ pl ≠ la ∧ H' pl = some (.lst [.int ((nextp (zs.drop (ms.length - i)) (0, 0)).1 : Nat), .int ((nextp (zs.drop (ms.length - i)) (0, 0)).2 : Nat)])))
    ⟨.ref pa, none, [], rfl, sm0, l0, by rw [Nat.sub_zero, List.drop_length]; exact Mks.nil, fun z => absurd rfl z⟩ ?_ ?_
  · rintro i σ H2 hi ⟨pv, y4, us', rfl, sm, hl, hmk, hpv⟩
    obtain ⟨k, hk⟩ : ∃ k, ms.length - i = k + 1 := ⟨ms.length - i - 1, by omega⟩
    have hk2 : ms.length - (i + 1) = k := by omega
    rw [hk] at hmk hpv
    rw [hk2]
    have hkm : k < ms.length := by omega
    have hmj : ms[k]? = some ms[k] := List.getElem?_eq_getElem hkm
    have hzj : zs[k]? = some (zs[k]'(by omega)) := List.getElem?_eq_getElem (by omega)
    obtain ⟨a, ha, hta⟩ := hm.2 k _ hmj
    obtain ⟨b, hb, htb, nb1, nb2⟩ := hsp.2 k _ hzj
    obtain ⟨ef, ed⟩ := fill_drop hmj hzj
    have hlast : i = 0 → zs[k]'(by omega) = some p0 := fun e => by
      have : zs.length = z0.length + 1 := by rw [hz0, List.length_append]; rfl
      have h2 : zs[k]? = some (some p0) := by rw [hz0, List.getElem?_append_right (by omega), show k - z0.length = 0 by omega]; rfl
      rw [hzj] at h2; exact Option.some.inj h2
    generalize ms[k] = m at *
    generalize zs[k]'_ = z at *
    have eat : ((0 : Int) + (((us.length : Int) - 0).toNat : Nat) - 1 + (i : Nat) * -1) = (k : Int) := by omega
    have eat2 : ((0 : Int) + ((ms.length : Nat) : Int) - 1 + (i : Nat) * -1) = (k : Int) := by omega
    rw [eat2]
    have ja : atI us (k : Int) = some (.ref a) := atI_nat ha
    have jb : atI ss (k : Int) = some (.ref b) := atI_nat hb
    refine ⟨_, rfl, _, rfl, sa, _, _, _, rfl, rfl, SqL.of (sm _ _ hsa), jb, by show 0 ≤ sizeLine; omega, fun g0 hg0 => ?_⟩
    have s3 := same_new hg0 (.lst [])
    have hl3 := s3 _ _ hl
    have sm3 := sm.trans s3
    have hmk3 := hmk.mono fun a t e => s3 a _ e
    refine ⟨.list (dPl z), .list [], .lst (SqL.of (sm3 _ _ htb)) (dPl_dp z), .lst (SqL.of upd_same) .nil, dPl_shaped z, by decide, ?_⟩
    rw [dPl_nil]
    have nbl : b ≠ la := fun e => by have := sm0; rw [e, hla0] at htb; cases htb
    cases z with
    | none =>
      refine ⟨_, rfl, iteF' rfl ?_⟩
      obtain ⟨pl, rfl, npl, hpl⟩ := hpv (fun e => by have := hlast e; cases this)
      have hpl3 := s3 _ _ hpl
      have enx : nextp (zs.drop k) (0, 0) = nextp (zs.drop (k + 1)) (0, 0) := by rw [ed]; rfl
      rw [← enx] at hpl3
      refine ⟨_, rfl, .inl ⟨rfl, _, SqL.of hl3⟩, _, rfl, _, rfl, g, _, _, _, rfl, rfl, SqL.of (sm3 _ _ hg), ja, a, _, 0, _, rfl, rfl, SqT.of (sm3 _ _ hta), rfl, _, rfl, _, rfl, g, _, _, _, rfl, rfl, SqL.of (sm3 _ _ hg), ja, a, _, 1, _, rfl, rfl, SqT.of (sm3 _ _ hta), rfl,
        _, rfl, pl, _, 0, _, rfl, rfl, SqL.of hpl3, rfl, _, rfl, pl, _, 1, _, rfl, rfl, SqL.of hpl3, rfl, by show 4 ≤ sizeLine; omega, fun t ht => ?_⟩
      have s4 := same_new ht (.tup (Mk.vs ⟨m.k, m.w, (nextp (zs.drop k) (0, 0)).1, (nextp (zs.drop k) (0, 0)).2⟩))
      have hul2 : us'.length ≤ 4100 := by
        have := hmk.1
        rw [List.length_reverse, fillP_len _ _ _ (by rw [List.length_drop, List.length_drop, hlen]), List.length_drop] at this
        omega
      refine ⟨la, us', _, rfl, rfl, s4 _ _ hl3, by omega, ?_⟩
      have hm4 : Mks (upd (upd (upd H2 g0 (.lst [])) t (.tup (Mk.vs ⟨m.k, m.w, (nextp (zs.drop k) (0, 0)).1, (nextp (zs.drop k) (0, 0)).2⟩))) la (.lst (us' ++ [.ref t]))) (us' ++ [.ref t]) (fillP (ms.drop k) (zs.drop k) (0, 0)).reverse := by
        rw [ef, List.reverse_cons]
        refine Mks.snoc ((hmk3.mono fun a t e => s4 a _ e).mono (keepL (s4 _ _ hl3))) ?_
        exact keepL (s4 _ _ hl3) _ _ upd_same
      exact ⟨.ref pl, _, us' ++ [V.ref t], rfl, same_upd (sm3.trans s4) hla0, upd_same, hm4, fun _ => ⟨pl, rfl, npl, by rw [upd_ne npl]; exact s4 _ _ hpl3⟩⟩
    | some p =>
      refine ⟨_, rfl, iteT' rfl ?_⟩
      refine ⟨_, rfl, _, rfl, sa, _, _, _, rfl, rfl, SqL.of (sm3 _ _ hsa), jb, ?_⟩
      have hpl3 := sm3 _ _ htb
      have enx : nextp (zs.drop k) (0, 0) = p := by rw [ed]; rfl
      have hpl3 : upd H2 g0 (.lst []) b = some (.lst [.int ((nextp (zs.drop k) (0, 0)).1 : Nat), .int ((nextp (zs.drop k) (0, 0)).2 : Nat)]) := by rw [enx]; exact hpl3
      have npl := nbl
      generalize b = pl at hpl3 npl
      refine ⟨_, rfl, .inl ⟨rfl, _, SqL.of hl3⟩, _, rfl, _, rfl, g, _, _, _, rfl, rfl, SqL.of (sm3 _ _ hg), ja, a, _, 0, _, rfl, rfl, SqT.of (sm3 _ _ hta), rfl, _, rfl, _, rfl, g, _, _, _, rfl, rfl, SqL.of (sm3 _ _ hg), ja, a, _, 1, _, rfl, rfl, SqT.of (sm3 _ _ hta), rfl,
        _, rfl, pl, _, 0, _, rfl, rfl, SqL.of hpl3, rfl, _, rfl, pl, _, 1, _, rfl, rfl, SqL.of hpl3, rfl, by show 4 ≤ sizeLine; omega, fun t ht => ?_⟩
      have s4 := same_new ht (.tup (Mk.vs ⟨m.k, m.w, (nextp (zs.drop k) (0, 0)).1, (nextp (zs.drop k) (0, 0)).2⟩))
      have hul2 : us'.length ≤ 4100 := by
        have := hmk.1
        rw [List.length_reverse, fillP_len _ _ _ (by rw [List.length_drop, List.length_drop, hlen]), List.length_drop] at this
        omega
      refine ⟨la, us', _, rfl, rfl, s4 _ _ hl3, by omega, ?_⟩
      have hm4 : Mks (upd (upd (upd H2 g0 (.lst [])) t (.tup (Mk.vs ⟨m.k, m.w, (nextp (zs.drop k) (0, 0)).1, (nextp (zs.drop k) (0, 0)).2⟩))) la (.lst (us' ++ [.ref t]))) (us' ++ [.ref t]) (fillP (ms.drop k) (zs.drop k) (0, 0)).reverse := by
        rw [ef, List.reverse_cons]
        refine Mks.snoc ((hmk3.mono fun a t e => s4 a _ e).mono (keepL (s4 _ _ hl3))) ?_
        exact keepL (s4 _ _ hl3) _ _ upd_same
      exact ⟨.ref pl, _, us' ++ [V.ref t], rfl, same_upd (sm3.trans s4) hla0, upd_same, hm4, fun _ => ⟨pl, rfl, npl, by rw [upd_ne npl]; exact s4 _ _ hpl3⟩⟩
  · rintro σ H2 ⟨pv, y4, us', rfl, sm, hl, hmk, hpv⟩
    rw [Nat.sub_self, List.drop_zero, List.drop_zero] at hmk
    refine ⟨_, rfl, la, us', rfl, SqL.of hl, fun d hd => ?_⟩
    have s3 := same_new hd (.lst us'.reverse)
    refine q _ d _ (sm.trans s3) upd_same ?_
    have := hmk.rev
    rw [List.reverse_reverse] at this
    exact this.mono fun a t e => s3 a _ e
end
end D0
namespace D0
open PySem PySem.Spec PyProof.Rows L2 SX NumText
def pg0 : Pg := ⟨[], [], [], 0, 0, 1⟩
def spPage : Sp := fun vs H Q _ => ∃ (b : Addr), vs = [.ref b] ∧ Bag H b ∧ ∀ H' g ma (l : List Nat) us ms, H' g = some (.lst [.str (S l), .ref ma]) → H' ma = some (.lst us) → Mks H' us ms → l.length ≤ 6000 → ms.length ≤ 4000 → tokensP l = .ok ms → Q (.ref g) H'
theorem sumS : ∀ rows : List (List Nat), ((rows.map S).map (·.length)).sum + (rows.map S).length * (S [10]).length = blen rows
  | [] => rfl
  | r :: rs => by
    have ih := sumS rs
    have e1 : (S [10]).length = 1 := rfl
    rw [e1] at ih ⊢
    show ((S r).length + ((rs.map S).map (·.length)).sum) + ((rs.map S).length + 1) * 1 = r.length + 1 + blen rs
    rw [← ih, S_len]; omega
theorem nl_mul : ∀ k, k < 2 → Txt.mul (S [10]) ((k : Nat) : Int) = S (List.replicate k 10)
  | 0, _ => rfl
  | 1, _ => rfl
  | n + 2, h => absurd h (by omega)
section
variable {P : Program} {w : World} {K : PySem.W.Frag} {mg : Str → Option Value} {base : Heap}
theorem ok__law_page (T : Txt K w mg) (Ot : OkD P w K mg base CX0 1 "_law_take" p__law_take spTake) (Or_ : OkD P w K mg base CX0 3 "_law_row_end" p__law_row_end spRowEnd) (Om : OkD P w K mg base CX0 2 "_law_margin" p__law_margin spMargin)
    (Oli : OkD P w K mg base CX0 5 "_law_line" p__law_line spLine) (Otl : OkD P w K mg base CX0 4 "_law_tall" p__law_tall spTall) : OkD P w K mg base CX0 6 "_law_page" p__law_page spPage := by
  refine T.g__law_page.ok sc__law_page (fun vs H Q E h => ?_) (fun f cdv A outer s H vs Q E hr h => ?_)
  · obtain ⟨b, rfl, _⟩ := h; rfl
  obtain ⟨b, rfl, hb, q⟩ := h
  have lim : (1100000 : Nat) ≤ sizeLine := by decide
  have z : Str.ofString "" = S [] ∧ Str.ofString "\n" = S [10] ∧ Str.ofString "dedent" = S Kd.dedent.cp ∧ Str.ofString "end" = S Kd.fin.cp := by decide +kernel
  have sp1 : (S [10]).length = 1 := rfl
  refine split_at 9 (fun t => ∀ (H1 : Hp) (pa ra ma wa : Addr) (ws : List Nat) (p : Pg) (sc : Sc) (n : Nat) (y3 y4 y5 y6 y7 : Option V), PL H1 b pa ra ma wa ws p sc n → n ≤ 24 →
    t { nx := fun _ H' => Q .non H', rt := Q } [some (.ref b), some (.ref pa), some (.ref wa), y3, y4, y5, y6, y7, none] H1) ?_ (fun t ht hg => ?_)
  · refine ⟨_, (pss_cons (ps_set (i := 8) sc__law_page.nd rfl (.inl rfl) (pe_op op_add (pe_ix ix_list (pe_ix ix_list (pv 1) pe_int (fun _ _ => rfl)) pe_int (fun _ _ => rfl)) pe_int))
      (pss_cons (ps_for PassesOwn.never rfl (pi_range1 rfl T.z_range (pa_cons (pe_op op_sub (pe_callB call_len_seq (by rfl) T.z_len PySem.boot_len (pa_cons (pv 2) pa_nil)) pe_int) pa_nil)) (pg_name (i := 6) sc__law_page.nd rfl (Or.inl rfl)) (pss_one (ps_expr (pe_bm PySem.F.plainAttrs_list PySem.F.slot_list_append PySem.F.type_list_append mt_append (pe_ix ix_list (pv 1) pe_int (fun _ _ => rfl)) (pa_cons (pe_tup (pa_cons pe_str (pa_cons pe_str (pa_cons (pv 8) (pa_cons pe_int pa_nil))))) pa_nil)))))
      (pss_cons (ps_expr (pe_bm PySem.F.plainAttrs_list PySem.F.slot_list_append PySem.F.type_list_append mt_append (pe_ix ix_list (pv 1) pe_int (fun _ _ => rfl)) (pa_cons (pe_tup (pa_cons pe_str (pa_cons pe_str (pa_cons (pv 8) (pa_cons pe_int pa_nil))))) pa_nil)))
      (pss_one (ps_ret (pe_lst (pa_cons (pe_op op_add_str (pe_bm PySem.F.plainAttrs_str PySem.F.slot_str_join PySem.F.type_str_join mt_join pe_str (pa_cons (pe_ix ix_list (pv 1) pe_int (fun _ _ => rfl)) pa_nil)) (pe_op op_mulS pe_str (pcall Ot hr (pa_cons (pv 0) (pa_cons pe_int pa_nil))))) (pa_cons (pe_ix ix_list (pv 1) pe_int (fun _ _ => rfl)) pa_nil)))))))), ?_⟩
    intro H1 pa ra ma wa ws p sc n y3 y4 y5 y6 y7 I hn
    obtain ⟨sa, h1, h2, _⟩ := I.x.at_
    have hmk := I.mkl
    have hwl := I.wl
    have htot := I.tot
    have hrl := I.rl
    have hwpos : 0 < ws.length := List.length_pos_iff.mpr I.wne
    have hlw : (wv ws).length = ws.length := by unfold wv; rw [List.length_map]
    refine ⟨_, rfl, pa, _, 4, .ref sa, rfl, rfl, SqL.of h1, rfl, sa, _, 0, _, rfl, rfl, SqL.of h2, rfl, _, _, rfl, rfl, ?_⟩
    refine ⟨_, rfl, wa, _, rfl, .inl (SqL.of I.hwa), _, _, rfl, rfl, ((wv ws).length : Int) - 1, rfl, by omega, by omega, ?_⟩
    have mark : ∀ (H2 : Hp) (p2 : Pg) (kd : Kd) (D : Hp → Prop), PB H2 b pa ra ma p2 → p2.marks.length ≤ 4000 → p2.sl = p.sl → ∀ t us, H2 t = none → H2 ma = some (.lst us) → (∀ H', PB H' b pa ra ma (p2.mk1 [⟨kd, .s [], p.sl + 1, 1⟩]) → D H') →
        D (upd (upd H2 t (.tup [.str (S kd.cp), .str (S []), .int ((p.sl : Nat) + 1 : Int), .int 1])) ma (.lst (us ++ [.ref t]))) := fun H2 p2 kd D x2 _ _ t us ht hma hD => by
      have s3 := same_new ht (.tup [.str (S kd.cp), .str (S []), .int ((p.sl : Nat) + 1 : Int), .int 1])
      exact hD _ ((x2.same s3).mark (t := t) (m := ⟨kd, .s [], p.sl + 1, 1⟩) (by rw [upd_same]; rfl) (s3 _ _ hma))
    refine for_range (lo := 0) (n := (((wv ws).length : Int) - 1).toNat) (fun i σ H' => ∃ y6, σ = [some (.ref b), some (.ref pa), some (.ref wa), y3, y4, y5, y6, y7, some (.int ((p.sl : Nat) + 1 : Int))] ∧ PB H' b pa ra ma (p.mk1 (List.replicate i (dedent (p.sl + 1) 1))))
      ⟨_, rfl, by rw [List.replicate_zero]; unfold Pg.mk1; rw [List.append_nil]; exact I.x⟩ ?_ ?_
    · rintro i σ H2 hi ⟨y6, rfl, x2⟩
      have hi : i < 11 := by omega
      obtain ⟨sa2, g1, _⟩ := x2.at_
      obtain ⟨us, hma, hms⟩ := x2.mks
      have hml : us.length ≤ 3400 := by rw [hms.1]; show (p.marks ++ _).length ≤ _; rw [List.length_append, List.length_replicate]; omega
      rw [z.1, z.2.2.1]
      refine ⟨_, rfl, pa, _, 2, .ref ma, rfl, rfl, SqL.of g1, rfl, .inl ⟨rfl, _, SqL.of hma⟩, _, rfl, by show 4 ≤ sizeLine; omega, fun t ht => ?_⟩
      refine ⟨ma, us, _, rfl, rfl, same_new ht _ _ _ hma, by omega, ?_⟩
      refine mark H2 _ .dedent (fun H' => ∃ y6, [some (.ref b), some (.ref pa), some (.ref wa), y3, y4, y5, some (.int (0 + (i : Int))), y7, some (.int ((p.sl : Nat) + 1 : Int))] = [some (.ref b), some (.ref pa), some (.ref wa), y3, y4, y5, y6, y7, some (.int ((p.sl : Nat) + 1 : Int))] ∧ PB H' b pa ra ma (p.mk1 (List.replicate (i + 1) (dedent (p.sl + 1) 1)))) x2 (by show (p.marks ++ _).length ≤ _; rw [List.length_append, List.length_replicate]; omega) rfl t us ht hma (fun H' x3 => ⟨_, rfl, ?_⟩)
      have e3 : (p.mk1 (List.replicate i (dedent (p.sl + 1) 1))).mk1 [dedent (p.sl + 1) 1] = p.mk1 (List.replicate (i + 1) (dedent (p.sl + 1) 1)) := by
        unfold Pg.mk1
        dsimp only
        rw [List.append_assoc, ← List.replicate_succ']
      rw [← e3]; exact x3
    · rintro σ H2 ⟨y6, rfl, x2⟩
      have en : (((wv ws).length : Int) - 1).toNat = ws.length - 1 := by rw [hlw]; omega
      rw [en] at x2
      obtain ⟨sa2, g1, _⟩ := x2.at_
      obtain ⟨us, hma, hms⟩ := x2.mks
      have hml : us.length ≤ 3400 := by rw [hms.1]; show (p.marks ++ _).length ≤ _; rw [List.length_append, List.length_replicate]; omega
      rw [z.1, z.2.2.2, z.2.1]
      refine ⟨_, rfl, pa, _, 2, .ref ma, rfl, rfl, SqL.of g1, rfl, .inl ⟨rfl, _, SqL.of hma⟩, _, rfl, by show 4 ≤ sizeLine; omega, fun t ht => ?_⟩
      refine ⟨ma, us, _, rfl, rfl, same_new ht _ _ _ hma, by omega, ?_⟩
      have s3 := same_new ht (.tup [.str (S Kd.fin.cp), .str (S []), .int ((p.sl : Nat) + 1 : Int), .int 1])
      have x3 := (x2.same s3).mark (t := t) (m := ⟨.fin, .s [], p.sl + 1, 1⟩) (by rw [upd_same]; rfl) (s3 _ _ hma)
      generalize upd (upd H2 t _) ma _ = H3 at x3 ⊢
      obtain ⟨sa3, g3, _⟩ := x3.at_
      have hr3 := x3.rows
      have hsum := sumS p.rows
      have hbt := I.ok.bt
      have emm : ((p.rows.map S).map V.str) = p.rows.map fun r => V.str (S r) := by rw [List.map_map]; rfl
      refine ⟨rfl, _, rfl, pa, _, 0, .ref ra, rfl, rfl, SqL.of g3, rfl, S [10], ra, p.rows.map S, rfl, rfl, .inl (by rw [emm]; exact SqL.of hr3), by rw [hsum]; omega, ?_⟩
      rw [join_S]
      refine ⟨_, rfl, b, 2, rfl, x3.bag, by decide, by decide, fun r H4 r0 r1 st4 => ?_⟩
      obtain ⟨k, rfl⟩ : ∃ k : Nat, r = (k : Int) := ⟨r.toNat, by omega⟩
      refine ⟨_, _, rfl, rfl, mul_ok sp1 (by omega) (by omega), ?_⟩
      rw [nl_mul k (by omega)]
      obtain ⟨hl6, htk⟩ := page_sem (e := k) I.E I.ok (by omega) (by omega)
      have hl6' : (TL.joinL [10] p.rows).length + k ≤ 6000 := by unfold txt at hl6; rw [List.length_append, List.length_replicate] at hl6; exact hl6
      refine ⟨_, _, rfl, rfl, by rw [S_len, S_len, List.length_replicate]; omega, ?_⟩
      rw [S_cat]
      have x4 := x3.stp st4
      obtain ⟨sa4, g4, _⟩ := x4.at_
      obtain ⟨us4, hma4, hms4⟩ := x4.mks
      refine ⟨_, rfl, pa, _, 2, .ref ma, rfl, rfl, SqL.of g4, rfl, by show 2 ≤ sizeLine; omega, fun g hg => ?_⟩
      have s5 := same_new hg (.lst [.str (S (TL.joinL [10] p.rows ++ List.replicate k 10)), .ref ma])
      have el : sc.ind.length = ws.length := by rw [I.ind, List.length_reverse]
      rw [el] at htk
      refine q _ g ma (txt p.rows k) us4 _ upd_same (s5 _ _ hma4) (hms4.mono fun a t' e => s5 _ _ e) hl6 ?_ htk
      show ((p.marks ++ _) ++ [_]).length ≤ 4000
      rw [List.length_append, List.length_append, List.length_replicate]
      show _ + _ + 1 ≤ 4000
      omega
  · refine ⟨_, pss_cons (ps_set (i := 1) sc__law_page.nd rfl (.inl rfl) (pe_lst (pa_cons (pe_lst pa_nil) (pa_cons pe_str (pa_cons (pe_lst pa_nil) (pa_cons pe_int (pa_cons (pe_lst (pa_cons pe_int (pa_cons pe_int pa_nil))) pa_nil)))))))
      (pss_cons (ps_set (i := 2) sc__law_page.nd rfl (.inl rfl) (pe_lst (pa_cons pe_int pa_nil)))
      (pss_cons (PS.of (t' := fun D σ H => ∃ pa ra ma : Addr, σ[0]? = some (some (V.ref b)) ∧ σ[1]? = some (some (V.ref pa)) ∧ PB H b pa ra ma pg0 ∧ ∀ H' p', PB H' b pa ra ma p' → Fr4 b pa ra ma H H' → EndSt p' sc0 → PgOk p' → p'.tot ≤ 200 → p'.rows.length ≤ p'.tot → p'.marks = [] → D.nx σ H') (ps_if (pt_cmpR op_eq (pcall Ot hr (pa_cons (pv 0) (pa_cons pe_int pa_nil))) pe_int (nomark _)) (pss_one (ps_expr (pcall Or_ hr (pa_cons (pv 0) (pa_cons (pv 1) pa_nil))))) pss_nil) ?ifr)
      (pss_cons (ps_set (i := 3) sc__law_page.nd rfl (.inl rfl) (pcall Ot hr (pa_cons (pv 0) (pa_cons pe_int pa_nil))))
      (pss_cons (ps_set (i := 4) sc__law_page.nd rfl (.inl rfl) (pcall Ot hr (pa_cons (pv 0) (pa_cons pe_int pa_nil))))
      (pss_cons (ps_set (i := 5) sc__law_page.nd rfl (.inl rfl) (pcall Ot hr (pa_cons (pv 0) (pa_cons pe_int pa_nil))))
      (pss_cons (PS.of (t' := fun D σ H => ∃ (pa ra ma wa : Addr) (ws : List Nat) (p : Pg) (s : Sc) (tl : Int), σ[0]? = some (some (V.ref b)) ∧ σ[1]? = some (some (V.ref pa)) ∧ σ[2]? = some (some (V.ref wa)) ∧ σ[3]? = some (some (V.int tl)) ∧ (σ.set 5 (some (V.int 0)))[0]? = some (some (V.ref b)) ∧ (σ.set 5 (some (V.int 0)))[1]? = some (some (V.ref pa)) ∧ (σ.set 5 (some (V.int 0)))[2]? = some (some (V.ref wa)) ∧ PL H b pa ra ma wa ws p s 0 ∧ p.tot ≤ 200 ∧
          (tl = 0 → ∀ H' ws' p' s', PL H' b pa ra ma wa ws' p' s' 24 → D.nx (σ.set 5 (some (V.int 0))) H') ∧ (tl ≠ 0 → D.nx σ H)) (ps_if (pt_cmpR op_eq (pv 3) pe_int (nomark _)) (pss_cons (ps_set (i := 5) sc__law_page.nd rfl (.inl rfl) pe_int)
      (pss_one (ps_expr (pcall Otl hr (pa_cons (pv 0) (pa_cons (pv 1) (pa_cons (pv 2) pa_nil))))))) pss_nil) ?ift)
      (pss_cons (PS.of (t' := fun D σ H => ∃ tl : Int, σ[3]? = some (some (V.int tl)) ∧ (tl = 1 → D.nx (σ.set 5 (some (V.int 23))) H) ∧ (tl ≠ 1 → D.nx σ H)) (ps_if (pt_cmpR op_eq (pv 3) pe_int (nomark _)) (pss_one (ps_set (i := 5) sc__law_page.nd rfl (.inl rfl) pe_int)) pss_nil) ?ifm)
      (pss_cons (PS.of (t' := fun D σ H => ∃ (pa ra ma wa : Addr) (ws : List Nat) (p : Pg) (s : Sc) (tall lean : Int) (m off : Nat), σ = [some (.ref b), some (.ref pa), some (.ref wa), some (.int tall), some (.int lean), some (.int (m : Nat)), none, none, none] ∧ PL H b pa ra ma wa ws p s off ∧ m + off ≤ 24 ∧ (m ≠ 0 → p.tot ≤ 4500) ∧
          ∀ H' ws' p' s' n y6 y7, PL H' b pa ra ma wa ws' p' s' n → n ≤ 24 → D.nx [some (.ref b), some (.ref pa), some (.ref wa), some (.int tall), some (.int lean), some (.int (m : Nat)), y6, y7, none] H')
       (ps_for PassesOwn.never rfl (pi_range1 rfl T.z_range (pa_cons (pv 5) pa_nil)) (pg_name (i := 6) sc__law_page.nd rfl (Or.inl rfl)) (pss_cons (ps_set (i := 7) sc__law_page.nd rfl (.inl rfl) (pcall Ot hr (pa_cons (pv 0) (pa_cons pe_int pa_nil))))
      (pss_cons (PS.of (t' := fun D σ H => σ[0]? = some (some (V.ref b)) ∧ Bag H b ∧ (∃ m k : Int, σ[4]? = some (some (V.int k)) ∧ σ.set 7 (some (V.int m)) = σ) ∧ ∀ (m : Int) H', Stp b H H' → D.nx (σ.set 7 (some (V.int m))) H') (ps_if (PW.pt (pw_and (pt_cmpR op_eq (pv 4) pe_int (nomark _)) (pw_and1 (pt_cmpR op_gt (pcall Ot hr (pa_cons (pv 0) (pa_cons pe_int pa_nil))) pe_int (nomark _))))) (pss_one (ps_set (i := 7) sc__law_page.nd rfl (.inl rfl) pe_int)) pss_nil) ?ifw)
      (pss_cons (ps_expr (pcall Om hr (pa_cons (pv 0) (pa_cons (pv 1) (pa_cons (pv 2) (pa_cons (PE.of (t' := fun σ H Q => ∃ t w : Int, σ[6]? = some (some (V.int t)) ∧ σ[7]? = some (some (V.int w)) ∧ ∀ wy : Int, (t = 0 → wy = 0) → Q (.int wy) H) (pe_ifExp (pt_cmpR op_gt (pv 6) pe_int (nomark _)) (pv 7) pe_int) ?ife) pa_nil))))))
      (pss_cons (PS.of (t' := fun D σ H => ∃ (pa ra ma : Addr) (p : Pg) (s : Sc), σ[0]? = some (some (V.ref b)) ∧ σ[1]? = some (some (V.ref pa)) ∧ PB H b pa ra ma p ∧ LineSt p s [] ∧ s.many = 0 ∧ s.br = [] ∧ PgOk p ∧ p.cur.length ≤ 60 ∧ p.tot ≤ 4500 ∧ p.rows.length ≤ p.tot ∧ p.marks.length ≤ 90000 ∧
          ∀ H' p' s', PB H' b pa ra ma p' → Fr4 b pa ra ma H H' → EndSt p' s' → PgOk p' → s'.ind = s.ind → p'.tot ≤ 5950 → s'.marks ≠ [] → p'.marks.length ≤ p.marks.length + 125 → p'.rows.length ≤ p'.tot → p'.sl ≠ 0 → D.nx σ H') (ps_if (pt_cmpR op_eq (pcall Ot hr (pa_cons (pv 0) (pa_cons pe_int pa_nil))) pe_int (nomark _)) (pss_one (ps_expr (pcall Oli hr (pa_cons (pv 0) (pa_cons (pv 1) (pa_cons (pe_op op_add pe_int (pcall Ot hr (pa_cons (pv 0) (pa_cons pe_int pa_nil)))) (pa_cons pe_int pa_nil))))))) (pss_one (ps_expr (pcall Oli hr (pa_cons (pv 0) (pa_cons (pv 1) (pa_cons (pe_op op_add pe_int (pcall Ot hr (pa_cons (pv 0) (pa_cons pe_int pa_nil)))) (pa_cons pe_int pa_nil)))))))) ?ifl)
      (pss_one (ps_if (pt_cmpR op_gt (pe_ix ix_list (pv 1) pe_int (fun _ _ => rfl)) pe_int (nomark _)) (pss_one ps_break) pss_nil))))))) ?forl) ht)))))))), ?_⟩
    case ift =>
      rintro D σ H ⟨pa, ra, ma, wa, ws, p, s, tl, h0, h1, h2, h3, g0, g1, g2, I, ht, q1, q2⟩
      refine ⟨_, h3, rfl, _, rfl, ite2 (fun c => ?_) (fun c => ?_)⟩
      · have c : tl = 0 := V.int.inj (of_decide_eq_true c)
        refine ⟨_, g0, _, g1, _, g2, b, pa, ra, ma, wa, ws, p, s, rfl, I, ht, fun H' ws' p' s' I' => q1 c H' ws' p' s' I'⟩
      · exact q2 fun e => c (decide_eq_true (by rw [e]))
    case ifm =>
      rintro D σ H ⟨tl, h3, q1, q2⟩
      refine ⟨_, h3, rfl, _, rfl, ite2 (fun c => ?_) (fun c => ?_)⟩
      · exact q1 (V.int.inj (of_decide_eq_true c))
      · exact q2 fun e => c (decide_eq_true (by rw [e]))
    case forl =>
      rintro D σ H ⟨pa, ra, ma, wa, ws0, p0, s0, tall, lean, m, off, rfl, I0, hm, ht0, q⟩
      refine ⟨_, rfl, (m : Int), rfl, by omega, by omega, ?_⟩
      refine for_range (lo := 0) (n := (m : Int).toNat) (fun i σ H' => ∃ (y6 y7 : Option V) (ws : List Nat) (p : Pg) (sc : Sc), σ = [some (.ref b), some (.ref pa), some (.ref wa), some (.int tall), some (.int lean), some (.int (m : Nat)), y6, y7, none] ∧ PL H' b pa ra ma wa ws p sc (i + off) ∧ (m ≠ 0 → p.tot ≤ 4500))
        ⟨none, none, ws0, p0, s0, rfl, by rw [Nat.zero_add]; exact I0, ht0⟩ ?_ ?_
      · rintro i σ H1 hi ⟨y6, y7, ws, p, sc, rfl, I, htot⟩
        have hi : i < m := by omega
        have htot := htot (by omega)
        refine ⟨_, rfl, b, 4, rfl, I.x.bag, by decide, by decide, fun way0 H2 _ _ st2 => ?_⟩
        have xa := I.x.stp st2
        refine ⟨rfl, xa.bag, ⟨way0, lean, rfl, rfl⟩, fun way H3 st3 => ?_⟩
        have xb := xa.stp st3
        have wb := st3.keep wa _ I.dwa.1 (st2.keep wa _ I.dwa.1 I.hwa)
        have hrl := I.rl
        have hmk := I.mkl
        have hwl := I.wl
        refine ⟨_, rfl, _, rfl, _, rfl, _, _, rfl, rfl, fun wy hwy => ?_⟩
        have hwy : i = 0 → wy = 0 := fun e => hwy (by omega)
        refine ⟨b, pa, ra, ma, wa, p, ws, wy, rfl, xb, by omega, by omega, wb, I.w0, I.wl, fun n hn => ?_, I.sl, I.dwa, fun H4 ws' ms hR x4 w4 f4 => ?_⟩
        · obtain ⟨j, hj⟩ := List.getElem?_of_mem hn
          have h1 := I.wn j n hj
          have h2 := (List.getElem?_eq_some_iff.mp hj).1
          omega
        obtain ⟨s1, L, q1, q2, q3, q4, q5, q6, q7, q8, q9, q10, q11⟩ := margin_sem I.E I.ind I.srt I.wl I.wn I.wne (by
          by_cases e : i + off = 0
          · exact .inr ⟨I.m0 e, by rw [hwy (by omega)]; decide⟩
          · exact .inl (I.m1 e)) hR
        refine ⟨pa, ra, ma, _, s1, rfl, rfl, x4, L, q1, q2, ⟨I.ok.rows, spn_row _, I.ok.bt⟩, by show (spn _).length ≤ 60; rw [List.length_replicate]; omega, htot, I.rl, by show (p.marks ++ ms).length ≤ _; rw [List.length_append]; omega, fun H5 p5 s5 x5 f5 e5 o5 i5 t5 m5 ml5 rl5 sl5 => ?_⟩
        have w5 := f5 wa _ I.dwa.1 I.dwa.2.1 I.dwa.2.2.1 I.dwa.2.2.2 w4
        have ml5 : p5.marks.length ≤ (p.marks ++ ms).length + 125 := ml5
        rw [List.length_append] at ml5
        have I5 : PL H5 b pa ra ma wa ws' p5 s5 (i + 1 + off) := ⟨x5, w5, I.dwa, e5, i5.trans q3, q4, q5, q6, q7, by rw [q9]; exact I.w0, o5, t5, rl5, by omega, .inl sl5, fun _ => by rw [← e5.marks]; exact m5, fun z => absurd z (by omega)⟩
        obtain ⟨sa5, h5, _⟩ := x5.at_
        refine ⟨_, rfl, pa, _, 3, .int (p5.tot : Nat), rfl, rfl, SqL.of h5, rfl, _, _, rfl, rfl, _, rfl, ite2 (fun _ => ?_) (fun c => ?_)⟩
        · exact q H5 ws' p5 s5 _ _ _ I5 (by omega)
        · exact ⟨_, _, ws', p5, s5, rfl, I5, fun _ => Nat.le_of_not_lt fun z => c (decide_eq_true (by omega))⟩
      · rintro σ H1 ⟨y6, y7, ws, p, sc, rfl, I, htot⟩
        exact q H1 ws p sc _ _ _ I (by omega)
    case ifw =>
      rintro D σ H ⟨h0, hb, ⟨m, k, h3, hs⟩, q⟩
      have stay : ∀ H', Stp b H H' → D.nx σ H' := fun H' st => by
        have := q m H' st
        rw [hs] at this; exact this
      refine ⟨_, h3, rfl, _, rfl, ite2 (fun _ => ?_) (fun _ => stay H (Stp.refl hb))⟩
      refine ⟨_, h0, b, 4, rfl, hb, by decide, by decide, fun r H2 _ _ st => ⟨_, _, rfl, rfl, _, rfl, ite2 (fun _ => ?_) (fun _ => stay H2 st)⟩⟩
      exact q 2 H2 st
    case ife =>
      rintro σ H Q ⟨t, w, h5, h6, q⟩
      refine ⟨_, h5, _, _, rfl, rfl, _, rfl, ite2 (fun c => ?_) (fun c => ?_)⟩
      · have c := of_decide_eq_true c
        exact ⟨_, h6, q w (fun e => by omega)⟩
      · exact q 0 (fun _ => rfl)
    case ifl =>
      rintro D σ H ⟨pa, ra, ma, p, s, h0, h1, x, L, l1, l2, l3, l4, l5, l6, l7, q⟩
      have go : ∀ (H6 : Hp) (mny lst : Nat) (Q0 : VK) (_ : ∀ H', D.nx σ H' → Q0 .non H'), 1 ≤ mny → mny ≤ 114 → lst ≤ 1 → Stp b H H6 → spLine [.ref b, .ref pa, .int (mny : Nat), .int (lst : Nat)] H6 Q0 E0 := fun H6 mny lst Q0 hq0 a1 a2 a3 st =>
        ⟨b, pa, ra, ma, p, s, mny, lst, rfl, x.stp st, L, l1, l2, l3, l4, l5, l6, l7, a1, a2, a3, fun H' p' s' b1 b2 b3 b4 _ b6 b7 b8 b9 b10 b11 => hq0 _ (q H' p' s' b1 ((Fr4.stp st).trans b2) b3 b4 b6 b7 b8 b9 b10 b11)⟩
      refine ⟨_, h0, b, 16, rfl, x.bag, by decide, by decide, fun r H2 _ _ st => ⟨rfl, _, rfl, ite2 (fun _ => ?_) (fun _ => ?_)⟩⟩
      · refine ⟨_, h0, _, h1, _, h0, b, 15, rfl, st.b1, by decide, by decide, fun r H3 r0 r1 st3 => ⟨_, _, rfl, rfl, ?_⟩⟩
        obtain ⟨k, rfl⟩ : ∃ k : Nat, r = (k : Int) := ⟨r.toNat, by omega⟩
        have := go H3 (100 + k) 1 (fun _ H1 => D.nx σ H1) (fun H' h => h) (by omega) (by omega) (by omega) (st.trans st3)
        rw [show ((100 + k : Nat) : Int) = 100 + (k : Int) by omega] at this
        exact this
      · refine ⟨_, h0, _, h1, _, h0, b, 9, rfl, st.b1, by decide, by decide, fun r H3 r0 r1 st3 => ⟨_, _, rfl, rfl, ?_⟩⟩
        obtain ⟨k, rfl⟩ : ∃ k : Nat, r = (k : Int) := ⟨r.toNat, by omega⟩
        have := go H3 (1 + k) 0 (fun _ H1 => D.nx σ H1) (fun H' h => h) (by omega) (by omega) (by omega) (st.trans st3)
        rw [show ((1 + k : Nat) : Int) = 1 + (k : Int) by omega] at this
        exact this
    case ifr =>
      rintro D σ H ⟨pa, ra, ma, h0, h1, x, q⟩
      have E0 : EndSt pg0 sc0 := ⟨rfl, rfl, rfl, rfl, rfl⟩
      have O0 : PgOk pg0 := ⟨(fun r hr => by cases hr), rfl, Nat.le_refl _⟩
      refine ⟨_, h0, b, 4, rfl, x.bag, by decide, by decide, fun r H2 _ _ st => ⟨rfl, _, rfl, ite2 (fun _ => ?_) (fun _ => ?_)⟩⟩
      · refine ⟨_, h0, _, h1, b, pa, ra, ma, pg0, rfl, x.stp st, by decide, by decide, by decide, fun H3 tl bl g1 g2 g3 g4 g5 x3 f3 => ?_⟩
        obtain ⟨o1, o2, o3⟩ := ended_ok O0 (by decide) g1 g2 g3 g4 g5 (by decide)
        refine q H3 _ x3 ((Fr4.stp st).trans f3) ⟨?_, rfl, rfl, rfl, rfl⟩ o1 (by have : pg0.tot = 0 := rfl; omega) o3 rfl
        have hf : ∀ ln, fin ln sc0 = sc0 := fun ln => if_neg fun z => absurd z.1 (Nat.lt_irrefl 0)
        exact scan_blanks (tl :: bl) [] sc0 (fun r hr => by
          rcases List.mem_cons.mp hr with h | h
          · rw [h]; exact g1
          · exact (g5 r h).1) hf rfl
      · exact q H2 pg0 (x.stp st) (Fr4.stp st) E0 O0 (by decide) (by decide) rfl
    refine ⟨by show 0 ≤ sizeLine; omega, fun ra hra => ?_⟩
    refine ⟨by show 0 ≤ sizeLine; omega, fun ma hma => ?_⟩
    refine ⟨by show 2 ≤ sizeLine; omega, fun sa hsa => ?_⟩
    refine ⟨by show 5 ≤ sizeLine; omega, fun pa hpa => ?_⟩
    refine ⟨by show 1 ≤ sizeLine; omega, fun wa hwa => ?_⟩
    rw [z.1] at *
    have s1 := same_new hra (.lst [])
    have s2 := same_new hma (.lst [])
    have s3 := same_new hsa (.lst [.int 0, .int 1])
    have s4 := same_new hpa (.lst [.ref ra, .str (S []), .ref ma, .int 0, .ref sa])
    have s5 := same_new hwa (.lst [.int 0])
    have hb1 := hb.same s1
    have hb2 := hb1.same s2
    have hb3 := hb2.same s3
    have hb4 := hb3.same s4
    have r1 : upd H ra (.lst []) ra = some (.lst []) := upd_same
    have m2 : upd (upd H ra (.lst [])) ma (.lst []) ma = some (.lst []) := upd_same
    have r3 := s3 _ _ (s2 _ _ r1)
    have m3 := s3 _ _ m2
    have a3 : upd (upd (upd H ra (.lst [])) ma (.lst [])) sa (.lst [.int 0, .int 1]) sa = some (.lst [.int 0, .int 1]) := upd_same
    have dba := hb3.ne hpa
    have x5 : PB _ b pa ra ma pg0 := PB.same (H := upd (upd (upd (upd H ra (.lst [])) ma (.lst [])) sa (.lst [.int 0, .int 1])) pa (.lst [.ref ra, .str (S []), .ref ma, .int 0, .ref sa]))
      ⟨hb4, ⟨sa, upd_same, s4 _ _ a3, ne_of_none a3 hpa, (ne_of_none (s2 _ _ r1) hsa).symm, (ne_of_none m2 hsa).symm, hb2.ne hsa⟩, s4 _ _ r3, ⟨[], s4 _ _ m3, Mks.nil⟩, ⟨(hb3.ne hpa).symm, (hb.ne hra).symm, (hb1.ne hma).symm, (ne_of_none r3 hpa).symm, (ne_of_none m3 hpa).symm, ne_of_none r1 hma⟩⟩ s5
    have w5 : upd (upd (upd (upd (upd H ra (.lst [])) ma (.lst [])) sa (.lst [.int 0, .int 1])) pa (.lst [.ref ra, .str (S []), .ref ma, .int 0, .ref sa])) wa (.lst [.int 0]) wa = some (.lst (wv [0])) := upd_same
    have dwa : wa ≠ b ∧ wa ≠ pa ∧ wa ≠ ra ∧ wa ≠ ma := ⟨hb4.ne hwa, (ne_of_none upd_same hwa).symm, (ne_of_none (s4 _ _ r3) hwa).symm, (ne_of_none (s4 _ _ m3) hwa).symm⟩
    refine ⟨pa, ra, ma, rfl, rfl, x5, fun H6 p6 x6 f6 e6 o6 t6 rl6 mk6 => ?_⟩
    have w6 := f6 wa _ dwa.1 dwa.2.1 dwa.2.2.1 dwa.2.2.2 w5
    refine ⟨_, rfl, b, 16, rfl, x6.bag, by decide, by decide, fun tall H7 _ _ st7 => ?_⟩
    have x7 := x6.stp st7
    refine ⟨_, rfl, b, 4, rfl, x7.bag, by decide, by decide, fun lean H8 _ _ st8 => ?_⟩
    have x8 := x7.stp st8
    refine ⟨_, rfl, b, 9, rfl, x8.bag, by decide, by decide, fun mn H9 mn0 mn9 st9 => ?_⟩
    obtain ⟨k8, rfl⟩ : ∃ k : Nat, mn = (k : Int) := ⟨mn.toNat, by omega⟩
    have x9 := x8.stp st9
    have w9 := st9.keep wa _ dwa.1 (st8.keep wa _ dwa.1 (st7.keep wa _ dwa.1 w6))
    have I9 : PL H9 b pa ra ma wa [0] p6 sc0 0 := ⟨x9, w9, dwa, e6, rfl, List.pairwise_singleton _ _, by decide, (fun i x hx => by
        cases i with
        | zero => cases hx; decide
        | succ j => cases hx), by decide, rfl, o6, by omega, rl6, by rw [mk6]; decide, .inr rfl, fun z => absurd rfl z, fun _ => rfl⟩
    refine ⟨pa, ra, ma, wa, [0], p6, sc0, tall, rfl, rfl, rfl, rfl, rfl, rfl, rfl, I9, t6, fun e H' ws' p' s' I' => ?_, fun e => ?_⟩
    · refine ⟨tall, rfl, fun e1 => by omega, fun _ => ?_⟩
      exact ⟨pa, ra, ma, wa, ws', p', s', tall, lean, 0, 24, rfl, I', by decide, fun z => absurd rfl z, fun H2 ws2 p2 s2 n y6 y7 I2 hn => hg H2 pa ra ma wa ws2 p2 s2 n _ _ _ _ _ I2 hn⟩
    · refine ⟨tall, rfl, fun _ => ?_, fun _ => ?_⟩
      · exact ⟨pa, ra, ma, wa, [0], p6, sc0, tall, lean, 23, 0, rfl, I9, by decide, fun _ => by omega, fun H2 ws2 p2 s2 n y6 y7 I2 hn => hg H2 pa ra ma wa ws2 p2 s2 n _ _ _ _ _ I2 hn⟩
      · exact ⟨pa, ra, ma, wa, [0], p6, sc0, tall, lean, k8, 0, rfl, I9, by omega, fun _ => by omega, fun H2 ws2 p2 s2 n y6 y7 I2 hn => hg H2 pa ra ma wa ws2 p2 s2 n _ _ _ _ _ I2 hn⟩
end
end D0
namespace D0
open PySem PySem.Spec PyProof.Rows L2 SX NumText
/-- isinstance of the caught error: a its address, D its class, dd its dict -/
structure ExcD (K : PySem.W.Frag) (D : Addr) : Prop where
  cl : (PySem.W.clsIn K D).isSome = true
  hg : PySem.W.findIn K (.ref D) "__getattribute__" = some (some (.builtin "BaseException.__getattribute__"))
  hk : PySem.W.findIn K (.ref D) "__getattr__" = some none
  hs : PySem.W.subIn K (.ref D) (.type "BaseException") = some true
  hd : PySem.W.hasDictIn K D = true
  ha : PySem.W.findIn K (.ref D) "__class__" = some (some (.builtin "object.__class__"))
  hn : PySem.W.specialIn K (.builtin "object.__class__") "__get__" = some (some (.builtin "getset_descriptor.__get__"))
  ht : PySem.W.takesIn K (.builtin "object.__class__") = some true
  hm : PySem.W.mroIn K D (.type "object") = some true
def rIsP (K : PySem.W.Frag) (D a dd : Addr) : List V → Hp → VK → Prop := fun xs H Q => ∃ (c : V) (cv : Value) (b : Bool) (fs : List (Str × V)), xs = [.ref a, c] ∧ H dd = some (.xd fs) ∧ (∀ u, RelV c u → u = cv) ∧ PySem.W.kitOne K (.ref D) cv = some b ∧ Q (.bl b) H
theorem call_isP {X : Cx} {a D dd : Addr} {oe : Obj} (C : ExcD X.K D) (hz : Zc (.ref D) (some dd) oe) (hf : ∃ vs, oe.data = .fields vs) (hp : (a, oe) ∈ X.pn) : CallR X (.builtin "isinstance") (rIsP X.K D a dd) := by
  intro pins s σ H xs us Q I r h
  obtain ⟨c, cv, b, fs, rfl, hdd, hcv, e, q⟩ := h
  cases r with
  | cons rx rr =>
    cases rr with
    | cons rt rr =>
      cases rr
      cases rx
      have ec := hcv _ rt
      subst ec
      obtain ⟨hget, _⟩ := I.pin (a, oe) (List.mem_append.mpr (.inl hp))
      obtain ⟨vs, hv⟩ := hf
      have hx : ObjOk X.prog X.w H s.heap dd (.xd fs) := I.hok dd _ hdd
      obtain ⟨mA, hns, hr⟩ := hx
      obtain ⟨od, ho, hl⟩ := lookIn_ns hns
      have J : PySem.W.InstAt s.heap a oe D (some od) := ⟨hget, hz.1, by unfold PySem.W.notCls; rw [hv] <;> rfl, by rw [hz.2]; exact ho⟩
      exact PySem.W.kia_one (PySem.W.kitx_exc C.cl C.hg C.hk C.hs C.ha C.hn C.ht C.hm) I.kIn J e (fun z => nomatch z) fun tk => ⟨.bl b, H, I.kept (t' := tk) fun _ _ z => z, rfl, q⟩
theorem pcallS {X : Cx} {CX : CXT} {k j : Nat} {ps : List Str} {sp : Sp} {E : L2.St → XK} {x : Str} {p pos : Pos} {e : Expr} {es : List Expr} {t : TA}
    (O : OkD X.prog X.w X.K X.mg X.base CX k x ps sp) (hr : Room j X.A) (hx : ∀ σ, PassesAt CX X σ (E σ)) (ha : PA X (e :: es) t) (hj : k ≤ j := by first | decide | omega) (hg : Gl X x := by rfl)
    (hdb : (x == ("__debug__" : Str)) = false := by decide) (he : starEach (e :: es) X.env = (false, eval e X.env) :: starEach es X.env := by rfl) (hpl : (backTo pos (starEach es X.env)).any (·.1) = false := by rfl) :
    PE X (.Call (.Name x p) (e :: es) [] pos) (tCallS sp E t) := by
  obtain ⟨f, fd, hm, hk, hb, _, F⟩ := O
  exact pe_callS F (hr.mono hj) hg hm hk hb hx ha hdb he hpl
theorem pss_cond {X : Cx} {b : List Stmt} {p : Prop} {t : TS} (h : p → PSs X b t) : PSs X b (fun D σ H => p ∧ t D σ H) := ⟨fun pins s σ H D I q => (h q.1).run pins s σ H D I q.2⟩
/-- what the law knows of the error classes -/
structure KitL (K : PySem.W.Frag) (mg : Str → Option Value) (ec : Er → Addr) (CS : Addr) : Prop where
  ex : ExcD K (ec .long)
  kk : PySem.W.kitOne K (.ref (ec .long)) (.ref (ec .long)) = some true
  gS : mg "SourceError" = some (.ref CS)
  eS : ∀ k, PySem.W.exmOne K (.ref (ec k)) (.ref CS) = some true
def spTooLong : Sp := fun vs H Q _ => ∃ (l : List Nat) (a b : Nat) (fa : Addr), vs = [.str (S l), .ref fa] ∧ l.length ≤ big ∧ H fa = some (.lst [.int (a : Nat), .int (b : Nat)]) ∧ tokensP l = .error (.long, a, b) ∧ ∀ H', Same H H' → Q (.bl true) H'
def hb2 : List Stmt → List Stmt
  | .Try _ [.ExceptHandler _ _ b _] _ _ _ :: _ => b
  | _ => []
section
variable {P : Program} {w : World} {K : PySem.W.Frag} {mg : Str → Option Value} {base : Heap} {ec : Er → Addr} {CS : Addr}
theorem long_suite (T : Txt K w mg) (ER : ErrT P w K mg base ec) (U : KitL K mg ec CS) (XF : ∀ k, XfC K (ec k)) {f : Addr} {cdv : Value} {A : Around} {outer : List Env} {s : Shared} {H : Hp} {E : XK} (n m : Nat) (l : List Nat) (fa : Addr) (hfa : H fa = some (.lst [.int (n : Nat), .int (m : Nat)]))
    (hr : Room 6 (A.deeper (envOfC "_law_is_too_long" (defScope s__law_is_too_long) s.heap.objs.size f cdv))) (a dd : Addr) :
    ∃ t : TS, (∀ oe pn, Zc (.ref (ec .long)) (some dd) oe → (∃ vs, oe.data = .fields vs) → PSs ((cxOf CX0 P w K mg base n__law_is_too_long "_law_is_too_long" (defScope s__law_is_too_long) f cdv A outer s H E).nox.suite a ((a, oe) :: pn)) (hb2 (defBody s__law_is_too_long)) t) ∧
      (∀ D H1, Same H H1 → H dd = none → H1 dd = some (.xd (xs2 (n : Nat) (m : Nat))) → (∀ H2, Same H H2 → D.rt (.bl true) H2) → t D [some (.str (S l)), some (.ref fa), some (.ref a)] H1) := by
  refine ⟨_, fun oe pn hz hf => (pss_one (ps_ret (pe_and (pe_callB (show CallR _ _ (rIsP K (ec .long) a dd) from call_isP U.ex hz hf List.mem_cons_self) (by rfl) T.z_isinstance PyProof.Rows.boot_isinstance (pa_cons (pv 2) (pa_cons (pe_glob rfl (ER.gl .long) (show RelV (.ref (ec .long)) _ from rfl)) pa_nil)))
            (pe_one (pe_cmpR (show OpR _ _ (rEqD K) from op_eqD hr.units) (pe_lst (pa_cons (pe_xf (XF .long) (ER.nl .long) hz hf (pv 2)) (pa_cons (pe_xf (XF .long) (ER.nc .long) hz hf (pv 2)) pa_nil))) (pv 1) (nomark _)))))), ?_⟩
  intro D H1 s1 nd hdd q
  have hfa1 := s1 _ _ hfa
  have lim : (1000 : Nat) ≤ sizeLine := by decide
  refine ⟨_, rfl, .ref (ec .long), .ref (ec .long), _, _, rfl, hdd, (fun u h => h), U.kk, _, rfl, iteT ?_⟩
  refine ⟨_, rfl, rfl, rfl, dd, _, _, rfl, hdd, rfl, ?_⟩
  refine ⟨_, rfl, rfl, rfl, dd, _, _, rfl, hdd, rfl, by show 2 ≤ sizeLine; omega, fun p4 hp4 => ?_⟩
  have s4 := same_new hp4 (.lst [V.int (n : Nat), V.int (m : Nat)])
  have shi : SeqAt.shaped (.list [.int (n : Nat), .int (m : Nat)]) = true := rfl
  have evi : PyData.eqv (.list [.int (n : Nat), .int (m : Nat)]) (.list [.int (n : Nat), .int (m : Nat)]) = true := by
    show (((n : Nat) : Int) == ((n : Nat) : Int) && (((m : Nat) : Int) == ((m : Nat) : Int) && true)) = true
    rw [beq_self_eq_true, beq_self_eq_true] <;> rfl
  refine ⟨_, rfl, .list [.int (n : Nat), .int (m : Nat)], .list [.int (n : Nat), .int (m : Nat)], .lst (SqL.of upd_same) (.cons (.int _) (.cons (.int _) .nil)), .lst (SqL.of (s4 _ _ hfa1)) (.cons (.int _) (.cons (.int _) .nil)), shi, shi, ?_⟩
  rw [evi]
  exact q _ (s1.trans s4)
theorem ok__law_is_too_long (T : Txt K w mg) (ER : ErrT P w K mg base ec) (U : KitL K mg ec CS) (XF : ∀ k, XfC K (ec k)) (Ot : OkD P w K mg base (L2.CX P w) 6 "tokens" p_tokens (spTokens ec)) : OkD P w K mg base CX0 7 "_law_is_too_long" p__law_is_too_long spTooLong := by
  refine T.g__law_is_too_long.ok sc__law_is_too_long (fun vs H Q E h => ?_) (fun f cdv A outer s H vs Q E hr h => ?_)
  · obtain ⟨l, n, m, fa, rfl, _⟩ := h; rfl
  obtain ⟨l, n, m, fa, rfl, hl, hfa, hte, q⟩ := h
  have SU := fun a dd => long_suite (P := P) (w := w) (base := base) (f := f) (cdv := cdv) (A := A) (outer := outer) (s := s) (H := H) (E := E) T ER U XF n m l fa hfa hr a dd
  refine ⟨_, (pss_cons (ps_try_as (i := 2) (tb := fun W => tDrop (tCallS (spTokens ec) (WE W) (tCons (tVar 0) tNil))) (Wout := fun _ _ _ _ => False)
      (ts := fun a cls d D σ H => (cls = .ref (ec .long) ∧ d = some (d.getD 0)) ∧ Classical.choose (SU a (d.getD 0)) D σ H) rfl rfl sc__law_is_too_long.nd rfl rfl ⟨rfl, by decide, Or.inl U.gS⟩ takes0
      (fun W pn xe tk _ => pss_one (ps_expr (pcallS Ot hr (fun σ => passAt tk σ) (pa_cons (pv 0) pa_nil))))
      (fun a oe cls d pn hz hf => pss_cond (p := cls = .ref (ec .long) ∧ d = some (d.getD 0)) (fun h => by
        obtain ⟨rfl, hd⟩ := h
        exact (Classical.choose_spec (SU a (d.getD 0))).1 oe pn (by rw [← hd]; exact hz) hf)))
      (pss_one (ps_ret pe_bl))), ?_⟩
  refine ⟨_, rfl, l, rfl, hl, fun e' he' d H' sm hd hx => ?_, fun ms hms => ?_⟩
  · rw [hte] at he'
    cases he'
    exact ⟨true, U.eS _, fun _ a ha => ⟨⟨rfl, rfl⟩, (Classical.choose_spec (SU a d)).2 _ H' sm hd hx (fun H2 s2 => q H2 s2)⟩, fun z => nomatch z⟩
  · rw [hte] at hms
    cases hms
end
end D0
namespace D0
open PySem PySem.Spec PyProof.Rows L2 SX NumText
/-- the marks as data -/
def dW : Wd → PyData
  | .s l => .str (S l)
  | .n k => .int (k : Nat)
def dM (m : Mk) : PyData := .tuple [.str (S m.k.cp), dW m.w, .int (m.ln : Nat), .int (m.col : Nat)]
/-- the word's signs are signs -/
def WOk : Wd → Prop
  | .s l => ∀ c ∈ l, c < 1114112
  | .n _ => True
theorem strOk_of {l : List Nat} (h : ∀ c ∈ l, c < 1114112) : PyData.strOk (S l) = true := by
  show l.toArray.all _ = true
  rw [List.all_toArray]
  exact List.all_eq_true.mpr fun c hc => decide_eq_true (h c hc)
theorem cp_ok (k : Kd) : ∀ c ∈ k.cp, c < 1114112 := by cases k <;> decide
theorem dM_ok {m : Mk} (h : WOk m.w) : (dM m).canLay0 = true ∧ (dM m).depth ≤ 5 := by
  have h1 := strOk_of (cp_ok m.k)
  have h2 : (dW m.w).canLay0 = true ∧ (dW m.w).depth ≤ 2 := by
    cases hw : m.w with
    | s l => rw [hw] at h; exact ⟨by show PyData.canLay0 (.str _) = true; rw [PyData.canLay0]; exact strOk_of h, by show PyData.depth (.str _) ≤ 2; unfold PyData.depth; decide⟩
    | n k => exact ⟨by show PyData.canLay0 (.int _) = true; rw [PyData.canLay0], by show PyData.depth (.int _) ≤ 2; unfold PyData.depth; decide⟩
  unfold dM
  refine ⟨?_, ?_⟩
  · simp only [PyData.canLay0, PyData.canLayAll0, h1, h2.1, Bool.and_true]
  · simp only [PyData.depth, PyData.depthAll]
    have := h2.2
    omega
theorem dMs_ok : ∀ {ms : List Mk}, (∀ m ∈ ms, WOk m.w) → PyData.canLayAll0 (ms.map dM) = true ∧ PyData.depthAll (ms.map dM) ≤ 5
  | [], _ => ⟨rfl, by decide⟩
  | m :: r, h => by
    obtain ⟨a, b⟩ := dMs_ok (ms := r) fun x hx => h x (List.mem_cons_of_mem _ hx)
    obtain ⟨c, d⟩ := dM_ok (h m List.mem_cons_self)
    refine ⟨by rw [List.map_cons, PyData.canLayAll0, a, c]; rfl, ?_⟩
    rw [List.map_cons, PyData.depthAll]
    exact Nat.max_le.mpr ⟨d, b⟩
theorem dMs_shaped {ms : List Mk} (h : ∀ m ∈ ms, WOk m.w) : SeqAt.shaped (.list (ms.map dM)) = true := by
  obtain ⟨a, b⟩ := dMs_ok h
  unfold SeqAt.shaped
  rw [PyData.canLay0, a, PyData.depth]
  exact decide_eq_true (by omega)
theorem dM_shaped {m : Mk} (h : WOk m.w) : SeqAt.shaped (dM m) = true := by
  obtain ⟨a, b⟩ := dM_ok h
  unfold SeqAt.shaped
  rw [a]
  exact decide_eq_true (by omega)
theorem dM_refl {m : Mk} (h : WOk m.w) : PyData.eqv (dM m) (dM m) = true := by
  have := (dM_ok h).1
  unfold dM at this ⊢
  rw [PyData.eqv]
  exact PySem.SeqAt.eqvAll_refl _ (by rw [PyData.canLay0] at this; exact this)
theorem dMs_nil (ms : List Mk) : PyData.eqv (.list (ms.map dM)) (.list []) = decide (ms = []) := by
  cases ms with
  | nil => rfl
  | cons d r => rfl
theorem dM_dp {K : PySem.W.Frag} {H : Hp} {a : Addr} {m : Mk} (h : H a = some (.tup m.vs)) : Dp K H (.ref a) (dM m) := by
  refine .tup (SqT.of h) (.cons (.str _) (.cons ?_ (.cons (.int _) (.cons (.int _) .nil))))
  cases m.w with
  | s l => exact .str _
  | n k => exact .int _
theorem dMs_dp {K : PySem.W.Frag} {H : Hp} : ∀ {us : List V} {ms : List Mk}, Mks H us ms → DpAll K H us (ms.map dM)
  | [], [], _ => .nil
  | [], m :: r, h => by have := h.1; simp at this
  | u :: us, [], h => by have := h.1; simp at this
  | u :: us, m :: r, h => by
    obtain ⟨a, e1, e2⟩ := h.2 0 m rfl
    have : u = .ref a := by simpa using e1
    subst this
    exact .cons (dM_dp e2) (dMs_dp ⟨by have := h.1; simpa using this, fun i x hx => h.2 (i + 1) x (by simpa using hx)⟩)
/-! the state of the reading along the marks -/
def spWhole : Sp := fun vs H Q _ => ∃ (i : Int), vs = [.int i] ∧ Q (.bl true) H
def spIsTok : Sp := fun vs H Q _ => ∃ (p : Addr) (us : List V) (ms : List Mk), vs = [.ref p] ∧ H p = some (.lst us) ∧ Mks H us ms ∧ (∀ m ∈ ms, GW m.k m.w) ∧ Q (.bl true) H
def spLaw (K : PySem.W.Frag) : Sp := fun vs H Q _ => ∃ (a : Addr) (ns : List Int), vs = [.ref a] ∧ SqL K H a (ns.map V.int) ∧ ns.length ≤ 63 ∧ ∀ H', Q (.bl true) H'
theorem gw_ok {k : Kd} {w : Wd} (h : GW k w) : WOk w := by
  rcases h with ⟨_, n, rfl⟩ | ⟨_, l, rfl, hl⟩
  · trivial
  · exact hl
section
variable {P : Program} {w : World} {K : PySem.W.Frag} {mg : Str → Option Value} {base : Heap} {ec : Er → Addr}
theorem ok__law_whole (T : Txt K w mg) : OkD P w K mg base CX0 1 "_law_whole" p__law_whole spWhole := by
  refine T.g__law_whole.ok sc__law_whole (fun vs H Q E h => ?_) (fun f cdv A outer s H vs Q E hr h => ?_)
  · obtain ⟨i, rfl, _⟩ := h; rfl
  obtain ⟨i, rfl, q⟩ := h
  refine ⟨_, (pss_one (ps_ret (pe_and (pe_callB call_isi (by rfl) T.z_isinstance PyProof.Rows.boot_isinstance (pa_cons (pv 0) (pa_cons (pe_bltn (v := .ty "int") rfl T.z_int PyProof.Rows.boot_int rfl) pa_nil))) (pe_one (pe_not (pe_callB call_isi (by rfl) T.z_isinstance PyProof.Rows.boot_isinstance (pa_cons (pv 0) (pa_cons (pe_bltn (v := .ty "bool") rfl T.z_bool PyProof.Rows.boot_bool rfl) pa_nil)))))))), ?_⟩
  refine ⟨_, rfl, _, _, _, _, _, rfl, .ty _, .base (.int i), kit_ty (by decide +kernel : kitB "int" "int" = some true), _, rfl, ?_⟩
  exact iteT ⟨_, rfl, _, _, _, _, _, rfl, .ty _, .base (.int i), kit_ty (by decide +kernel : kitB "int" "bool" = some false), _, rfl, q⟩
theorem ok__law_is_tokens (T : Txt K w mg) (Ow : OkD P w K mg base CX0 1 "_law_whole" p__law_whole spWhole) : OkD P w K mg base CX0 2 "_law_is_tokens" p__law_is_tokens spIsTok := by
  refine T.g__law_is_tokens.ok sc__law_is_tokens (fun vs H Q E h => ?_) (fun f cdv A outer s H vs Q E hr h => ?_)
  · obtain ⟨p, us, ms, rfl, _⟩ := h; rfl
  obtain ⟨p, us, ms, rfl, hp, hm, hok, q⟩ := h
  refine ⟨_, (pss_cons (ps_if (pt_not (pt_val (pe_callB call_isi (by rfl) T.z_isinstance PyProof.Rows.boot_isinstance (pa_cons (pv 0) (pa_cons (pe_bltn (v := .ty "list") rfl T.z_list PyProof.Rows.boot_list rfl) pa_nil))))) (pss_one (ps_ret pe_bl)) pss_nil)
      (pss_cons (ps_for PassesOwn.never rfl (pi_list (pv 0)) (pg_name (i := 1) sc__law_is_tokens.nd rfl (Or.inl rfl)) (pss_cons (ps_if (PW.pt (pw_or (pt_not (pt_val (pe_callB call_isi (by rfl) T.z_isinstance PyProof.Rows.boot_isinstance (pa_cons (pv 1) (pa_cons (pe_bltn (v := .ty "tuple") rfl T.z_tuple PyProof.Rows.boot_tuple rfl) pa_nil))))) (pw_or (pt_cmpR op_ne (pe_callB call_len_seq (by rfl) T.z_len PySem.boot_len (pa_cons (pv 1) pa_nil)) pe_int (nomark _)) (pw_or1 (pt_not (pt_val (pe_callB call_isi (by rfl) T.z_isinstance PyProof.Rows.boot_isinstance (pa_cons (pe_ix ix_tup (pv 1) pe_int (fun _ _ => rfl)) (pa_cons (pe_bltn (v := .ty "str") rfl T.z_str PyProof.Rows.boot_str rfl) pa_nil))))))))) (pss_one (ps_ret pe_bl)) pss_nil)
      (pss_cons (ps_if (PW.pt (pw_or (pt_not (pt_val (pcall Ow hr (pa_cons (pe_ix ix_tup (pv 1) pe_int (fun _ _ => rfl)) pa_nil)))) (pw_or1 (pt_not (pt_val (pcall Ow hr (pa_cons (pe_ix ix_tup (pv 1) pe_int (fun _ _ => rfl)) pa_nil))))))) (pss_one (ps_ret pe_bl)) pss_nil)
      (pss_one (ps_if (PW.pt (pw_and (pt_not (pt_val (pe_callB call_isi (by rfl) T.z_isinstance PyProof.Rows.boot_isinstance (pa_cons (pe_ix ix_tup (pv 1) pe_int (fun _ _ => rfl)) (pa_cons (pe_bltn (v := .ty "str") rfl T.z_str PyProof.Rows.boot_str rfl) pa_nil))))) (pw_and1 (PW.pt (pw_or (pt_cmpR op_ne (pe_ix ix_tup (pv 1) pe_int (fun _ _ => rfl)) pe_str (nomark _)) (pw_or1 (pt_not (pt_val (pcall Ow hr (pa_cons (pe_ix ix_tup (pv 1) pe_int (fun _ _ => rfl)) pa_nil)))))))))) (pss_one (ps_ret pe_bl)) pss_nil)))))
      (pss_one (ps_ret pe_bl)))), ?_⟩
  have zn : Str.ofString "number" = S (Kd.cp .number) := by decide +kernel
  refine ⟨_, rfl, _, _, _, _, _, rfl, .ty _, .base (.lst hp), kit_ty (by decide +kernel : kitB "list" "list" = some true), _, rfl, iteF' rfl ?_⟩
  refine ⟨_, rfl, p, rfl, ⟨_, SqL.of hp⟩, for_it (walk_list (xs := us)) (fun j σ H' => (∃ y, σ = [some (.ref p), y]) ∧ H' = H) ⟨⟨none, rfl⟩, rfl⟩ (fun j σ H' _ h => by obtain ⟨_, rfl⟩ := h; exact SqL.of hp) ?_ ?_⟩
  · rintro j x σ H1 H2 hj ⟨⟨y, rfl⟩, rfl⟩ ⟨rfl, hx⟩
    rw [hm.1] at hj
    have hmj : ms[j]? = some ms[j] := List.getElem?_eq_getElem hj
    obtain ⟨a, ha, hta⟩ := hm.2 j _ hmj
    have : x = .ref a := Option.some.inj (hx.symm.trans ha)
    subst this
    have k0 := hok _ (List.getElem_mem hj)
    generalize ms[j] = m at *
    have hT : SqT K H2 a m.vs := SqT.of hta
    have a0 : atI m.vs (0 : Int) = some (.str (S m.k.cp)) := atI_nat (j := 0) rfl
    have a1 : atI m.vs (1 : Int) = some m.w.v := atI_nat (j := 1) rfl
    have a2 : atI m.vs (2 : Int) = some (.int (m.ln : Nat)) := atI_nat (j := 2) rfl
    have a3 : atI m.vs (3 : Int) = some (.int (m.col : Nat)) := atI_nat (j := 3) rfl
    refine ⟨_, rfl, _, _, _, _, _, rfl, .ty _, .base (.tup hta), kit_ty (by decide +kernel : kitB "tuple" "tuple" = some true), _, rfl, iteF' rfl ?_⟩
    refine ⟨_, rfl, a, _, rfl, .inr hT, rfl, _, rfl, iteF' (by show (!decide (V.int ((4 : Nat) : Int) = V.int 4)) = false; rfl) ?_⟩
    refine ⟨_, rfl, a, _, 0, _, rfl, rfl, hT, a0, _, _, _, _, _, rfl, .ty _, .base (.str _), kit_ty (by decide +kernel : kitB "str" "str" = some true), _, rfl, iteF' rfl ?_⟩
    refine ⟨_, rfl, a, _, 2, _, rfl, rfl, hT, a2, _, rfl, _, rfl, iteF' rfl ?_⟩
    refine ⟨_, rfl, a, _, 3, _, rfl, rfl, hT, a3, _, rfl, _, rfl, iteF' rfl ?_⟩
    have e1 : decide (V.str (S m.k.cp) = V.str (Str.ofString "number")) = isN m.k := by
      rw [zn, str_dec]; cases m.k <;> rfl
    rcases k0 with ⟨hN, n, hw⟩ | ⟨hN, l, hw, _⟩
    · rw [hw] at a1
      refine ⟨_, rfl, a, _, 1, _, rfl, rfl, hT, a1, _, _, _, _, _, rfl, .ty _, .base (.int _), kit_ty (by decide +kernel : kitB "int" "str" = some false), _, rfl, iteT' rfl ?_⟩
      refine ⟨_, rfl, a, _, 0, _, rfl, rfl, hT, a0, rfl, _, rfl, iteF' (by show (!decide (V.str (S m.k.cp) = V.str (Str.ofString "number"))) = false; rw [e1, hN]; rfl) ?_⟩
      exact ⟨_, rfl, a, _, 1, _, rfl, rfl, hT, a1, _, rfl, _, rfl, iteF' rfl ⟨⟨_, rfl⟩, rfl⟩⟩
    · rw [hw] at a1
      exact ⟨_, rfl, a, _, 1, _, rfl, rfl, hT, a1, _, _, _, _, _, rfl, .ty _, .base (.str _), kit_ty (by decide +kernel : kitB "str" "str" = some true), _, rfl, iteF' rfl ⟨⟨_, rfl⟩, rfl⟩⟩
  · rintro σ H1 ⟨⟨y, rfl⟩, rfl⟩
    exact q
end
end D0
namespace D0
open PySem PySem.Spec PyProof.Rows L2 SX NumText
theorem pF_kw : ∀ (a b : List Mk) (p : PL2), a.map (fun m => (m.k, m.w)) = b.map (fun m => (m.k, m.w)) → a.foldl (fun p m => p.next m.k m.w) p = b.foldl (fun p m => p.next m.k m.w) p
  | [], [], _, _ => rfl
  | [], m :: b, _, h => by cases h
  | m :: a, [], _, h => by cases h
  | m :: a, n :: b, p, h => by
    injection h with h1 h2
    injection h1 with h3 h4
    show a.foldl _ (p.next m.k m.w) = b.foldl _ (p.next n.k n.w)
    have h3 : m.k = n.k := h3
    have h4 : m.w = n.w := h4
    rw [h3, h4]
    exact pF_kw a b _ h2
theorem mok_kw : ∀ {a b : List Mk}, a.map (fun m => (m.k, m.w)) = b.map (fun m => (m.k, m.w)) → (∀ m ∈ b, MOk m) → ∀ m ∈ a, MOk m
  | [], _, _, _ => fun m hm => by cases hm
  | m :: a, [], h, _ => by cases h
  | m :: a, n :: b, h, hb => by
    injection h with h1 h2
    injection h1 with h3 h4
    intro x hx
    rcases List.mem_cons.mp hx with rfl | hx
    · have := hb n List.mem_cons_self
      unfold MOk at this ⊢
      have h3 : x.k = n.k := h3
      have h4 : x.w = n.w := h4
      rw [h3, h4]; exact this
    · exact mok_kw h2 (fun y hy => hb y (List.mem_cons_of_mem _ hy)) x hx
theorem dMs_refl {ms : List Mk} (h : ∀ m ∈ ms, WOk m.w) : PyData.eqv (.list (ms.map dM)) (.list (ms.map dM)) = true := by
  rw [PyData.eqv]
  exact PySem.SeqAt.eqvAll_refl _ (dMs_ok h).1
theorem longAt_none2 : ∀ {rs : List (List Nat)} {n : Nat}, (∀ (i : Nat) (r : List Nat), rs[i]? = some r → r.length ≤ 120) → longAt rs n = none := by
  intro rs n h
  refine longAt_none fun r hr => ?_
  obtain ⟨i, hi⟩ := List.getElem?_of_mem hr
  have := h i r hi
  omega
section
variable {P : Program} {w : World} {K : PySem.W.Frag} {mg : Str → Option Value} {base : Heap} {ec : Er → Addr}
theorem ok_law (T : Txt K w mg) (Ob : OkD P w K mg base CX0 1 "_law_bag" p__law_bag (spBag K)) (Op : OkD P w K mg base CX0 6 "_law_page" p__law_page spPage) (Ot : OkD P w K mg base (L2.CX P w) 6 "tokens" p_tokens (spTokens ec))
    (Oi : OkD P w K mg base CX0 2 "_law_is_tokens" p__law_is_tokens spIsTok) (Oly : OkD P w K mg base CX0 3 "layout" p_layout spLayout) (Old : OkD P w K mg base CX0 2 "_law_laid" p__law_laid spLaid) (Orp : OkD P w K mg base CX0 1 "_law_replaced" p__law_replaced spRepl)
    (Otl : OkD P w K mg base CX0 7 "_law_is_too_long" p__law_is_too_long spTooLong) : OkD P w K mg base CX0 8 "law" p_law (spLaw K) := by
  refine T.g_law.ok sc_law (fun vs H Q E h => ?_) (fun f cdv A outer s H vs Q E hr h => ?_)
  · obtain ⟨a, ns, rfl, _⟩ := h; rfl
  obtain ⟨a, ns, rfl, hS, h63, q⟩ := h
  have lim : (2000000 : Nat) ≤ sizeLine := by decide
  have z : Str.ofString "" = S [] ∧ Str.ofString "\n" = S [10] := by decide +kernel
  refine ⟨_, (pss_cons (ps_set (i := 1) sc_law.nd rfl (.inl rfl) (pcall Op hr (pa_cons (pcall Ob hr (pa_cons (pv 0) (pa_cons pe_int pa_nil))) pa_nil)))
      (pss_cons (ps_set (i := 2) sc_law.nd rfl (.inl rfl) (pcallE Ot hr passL (pa_cons (pe_ix ix_list (pv 1) pe_int (fun _ _ => rfl)) pa_nil)))
      (pss_cons (ps_if (PW.pt (pw_or (pt_not (pt_val (pcall Oi hr (pa_cons (pv 2) pa_nil)))) (pw_or1 (pt_cmpR (op_neD hr.units) (pv 2) (pe_ix ix_list (pv 1) pe_int (fun _ _ => rfl)) (nomark _))))) (pss_one (ps_ret pe_bl)) pss_nil)
      (pss_cons (ps_set (i := 3) sc_law.nd rfl (.inl rfl) (pcall Oly hr (pa_cons (pv 2) pa_nil)))
      (pss_cons (ps_set (i := 4) sc_law.nd rfl (.inl rfl) (pcall Old hr (pa_cons (pe_ix ix_list (pv 1) pe_int (fun _ _ => rfl)) pa_nil)))
      (pss_cons (ps_set (i := 6) sc_law.nd rfl (.inl rfl) (pe_bm PySem.F.plainAttrs_str PySem.F.slot_str_join PySem.F.type_str_join mt_join pe_str (pa_cons (pe_lc (own := [("row", 5)]) (g := gName 5) (tt := tYes) (by rfl) sc_law.nd (pi_list (pe_ix ix_list (pv 4) pe_int (fun _ _ => rfl))) (blkOk_by (own := [("row", 5)]) (N := n_law) (sc := defScope s_law) (by decide +kernel))
        (fun _ _ _ _ _ => (pg_name (i := 5) sc_law.nd rfl (Or.inl rfl))) (fun _ _ _ _ _ => pts_nil) (fun _ _ _ _ _ => pe_op op_add_str (pv 5) pe_str)) pa_nil)))
      (pss_cons (ps_if (PW.pt (pw_or (pt_not (pt_val (pe_callB call_isi (by rfl) T.z_isinstance PyProof.Rows.boot_isinstance (pa_cons (pv 3) (pa_cons (pe_bltn (v := .ty "str") rfl T.z_str PyProof.Rows.boot_str rfl) pa_nil))))) (pw_or (pt_cmpR op_ne (pv 3) (pv 6) (nomark _)) (pw_or (pt_not (pt_val (pcall Oi hr (pa_cons (pv 2) pa_nil)))) (pw_or1 (pt_cmpR (op_neD hr.units) (pv 2) (pe_ix ix_list (pv 1) pe_int (fun _ _ => rfl)) (nomark _))))))) (pss_one (ps_ret pe_bl)) pss_nil)
      (pss_cons (ps_if (pt_cmpR op_gt (pe_callB call_len_str (by rfl) T.z_len PySem.boot_len (pa_cons (pv 6) pa_nil)) pe_int (nomark _)) (pss_one (ps_ret (pcall Otl hr (pa_cons (pv 6) (pa_cons (pe_lst (pa_cons pe_int (pa_cons pe_int pa_nil))) pa_nil))))) pss_nil)
      (pss_cons (ps_for PassesOwn.never rfl (pi_range1 rfl T.z_range (pa_cons (pe_callB call_len_seq (by rfl) T.z_len PySem.boot_len (pa_cons (pe_ix ix_list (pv 4) pe_int (fun _ _ => rfl)) pa_nil)) pa_nil)) (pg_name (i := 5) sc_law.nd rfl (Or.inl rfl)) (pss_one (ps_if (pt_cmpR op_gt (pe_callB call_len_str (by rfl) T.z_len PySem.boot_len (pa_cons (pe_ix ix_list (pe_ix ix_list (pv 4) pe_int (fun _ _ => rfl)) (pv 5) (fun _ _ => rfl)) pa_nil)) pe_int (nomark _)) (pss_one (ps_ret (pcall Otl hr (pa_cons (pv 6) (pa_cons (pe_lst (pa_cons (pe_op op_add (pv 5) pe_int) (pa_cons pe_int pa_nil))) pa_nil))))) pss_nil)))
      (pss_cons (ps_set (i := 7) sc_law.nd rfl (.inl rfl) (pcallE Ot hr passL (pa_cons (pv 3) pa_nil)))
      (pss_cons (ps_if (PW.pt (pw_or (pt_not (pt_val (pcall Oi hr (pa_cons (pv 7) pa_nil)))) (pw_or1 (pt_cmpR (op_neD hr.units) (pv 7) (pcall Orp hr (pa_cons (pe_ix ix_list (pv 1) pe_int (fun _ _ => rfl)) (pa_cons (pe_ix ix_list (pv 4) pe_int (fun _ _ => rfl)) pa_nil))) (nomark _))))) (pss_one (ps_ret pe_bl)) pss_nil)
      (pss_one (ps_ret (pe_cmpR op_eq (pcall Oly hr (pa_cons (pv 7) pa_nil)) (pv 6) (nomark _))))))))))))))), ?_⟩
  refine ⟨_, rfl, a, ns, 0, rfl, hS, h63, by omega, fun b H1 s1 nb bag => ?_⟩
  refine ⟨b, rfl, bag, fun H2 g ma l us ms hg hma hmk hl hml htk => ?_⟩
  refine ⟨_, rfl, g, _, 0, _, rfl, rfl, SqL.of hg, rfl, l, rfl, by show _ ≤ 1000000; omega, fun e he => ?_, fun ms' hms H3 tp us' s3 htp htp2 hmk' => ?_⟩
  · rw [htk] at he; cases he
  rw [htk] at hms
  cases hms
  have hgw := gs_tokens htk
  have hok : ∀ m ∈ ms, WOk m.w := fun m hm => gw_ok (hgw m hm)
  obtain ⟨rows, r1, r2, r3, r4, r5, ⟨z0, p0, r6⟩, rA, rB, rC⟩ := relay htk
  have g3 := s3 _ _ hg
  have m3 := s3 _ _ hma
  have mk3 : Mks H3 us ms := hmk.mono fun a t e => s3 _ _ e
  have fl : ∀ A B C : Prop, C → (if (!true) = true then A else C) := fun A B C h => iteF' rfl h
  refine ⟨_, rfl, tp, us', ms, rfl, htp2, hmk', hgw, _, rfl, iteF' rfl ?_⟩
  refine ⟨_, rfl, _, rfl, g, _, 1, _, rfl, rfl, SqL.of g3, rfl, ?_⟩
  refine ⟨.list (ms.map dM), .list (ms.map dM), .lst (SqL.of htp2) (dMs_dp hmk'), .lst (SqL.of m3) (dMs_dp mk3), dMs_shaped hok, dMs_shaped hok, ?_⟩
  rw [dMs_refl hok]
  refine ⟨_, rfl, iteF' rfl ?_⟩
  refine ⟨_, rfl, tp, us', ms, rows, rfl, htp2, hmk', by omega, r4, r5, by omega, fun H4 s4 => ?_⟩
  have g4 := s4 _ _ g3
  have m4 := s4 _ _ m3
  have mk4 := mk3.mono fun a t e => s4 a _ e
  refine ⟨_, rfl, g, _, 1, _, rfl, rfl, SqL.of g4, rfl, ma, us, ms, rfl, m4, mk4, by omega, r4, fun H5 d ra sa ss L hd => ?_⟩
  rw [r1] at L
  have g5 := L.sm _ _ g4
  have m5 := L.sm _ _ m4
  have mk5 := mk4.mono fun a t e => L.sm a _ e
  have tp5 := L.sm _ _ (s4 _ _ htp2)
  have mkt5 : Mks H5 us' ms := (hmk'.mono fun a t e => s4 a _ e).mono fun a t e => L.sm a _ e
  have hrl : rows.length ≤ 990000 := by
    have h : ∀ rs : List (List Nat), rs.length ≤ blen rs := by
      intro rs
      induction rs with
      | nil => exact Nat.le_refl _
      | cons r rs ih => show rs.length + 1 ≤ (r.length + 1) + blen rs; omega
    have := h rows
    omega
  have hri : ∀ (i : Nat) (r : List Nat), rows[i]? = some r → r.length ≤ 990000 := fun i r hi => by
    have h : ∀ (rs : List (List Nat)) (i : Nat) (r : List Nat), rs[i]? = some r → r.length ≤ blen rs := by
      intro rs
      induction rs with
      | nil => intro i r h; simp at h
      | cons x rs ih =>
        intro i r h
        show r.length ≤ (x.length + 1) + blen rs
        cases i with
        | zero => have : x = r := by simpa using h
                  subst this; omega
        | succ j => have := ih j r (by simpa using h); omega
    have := h rows i r hi
    omega
  rw [z.1]
  refine ⟨rfl, _, rfl, d, _, 0, _, rfl, rfl, SqL.of hd, rfl, ra, rfl, ⟨_, SqL.of L.hr⟩, fun D hD => ?_⟩
  refine lc_it (walk_list (xs := rows.map fun r => V.str (S r))) (fun i H' => Same H5 H' ∧ H' D = some (.lst ((rows.take i).map fun r => V.str (S (r ++ [10]))))) ⟨same_new hD _, upd_same⟩ (fun i H' _ h => SqL.of (h.1 _ _ L.hr)) ?_ ?_
  · rintro i x H6 H7 hi ⟨sm, hl1⟩ ⟨rfl, hx⟩
    rw [List.getElem?_map] at hx
    rw [List.length_map] at hi
    have hri0 : rows[i]? = some rows[i] := List.getElem?_eq_getElem hi
    have hri1 := hri i _ hri0
    rw [hri0] at hx
    have hx : V.str (S rows[i]) = x := Option.some.inj hx
    subst hx
    refine ⟨rfl, iteT (B := True) (iteT ?_)⟩
    refine ⟨_, rfl, _, _, rfl, rfl, by rw [z.2, S_len, S_len]; show _ + 1 ≤ _; omega, _, hl1, ?_, ?_, ?_⟩
    · rw [List.length_map, List.length_take]; omega
    · intro b o e
      rw [upd_ne (ne_of_none e hD)]
      exact sm _ _ e
    · rw [upd_same, List.take_add_one, hri0, List.map_append, z.2, S_cat]
      rfl
  rintro H6 ⟨sm, hl6⟩
  rw [List.length_map, List.take_length] at hl6
  have emm : (((rows.map fun r => r ++ [10]).map S).map V.str) = rows.map fun r => V.str (S (r ++ [10])) := by rw [List.map_map, List.map_map]; rfl
  have esum : (((rows.map fun r => r ++ [10]).map S).map (·.length)).sum = blen rows := by
    unfold blen
    rw [List.map_map, List.map_map]
    congr 1
    refine List.map_congr_left fun r _ => ?_
    show (S (r ++ [10])).length = _
    rw [S_len, List.length_append]; rfl
  refine ⟨S [], D, (rows.map fun r => r ++ [10]).map S, rfl, rfl, .inl (by rw [emm]; exact SqL.of hl6), ?_, ?_⟩
  · rw [esum]; show _ + _ * 0 ≤ _; omega
  rw [join_S, join_nil]
  have g6 := sm _ _ g5
  have m6 := sm _ _ m5
  have mk6 : Mks H6 us ms := mk5.mono fun a t e => sm a _ e
  have tp6 := sm _ _ tp5
  have mkt6 : Mks H6 us' ms := mkt5.mono fun a t e => sm a _ e
  have L6 := L.same sm
  have d6 := sm _ _ hd
  have hW := txtL_len rows
  refine ⟨_, rfl, _, _, _, _, _, rfl, .ty _, .base (.str _), kit_ty (by decide +kernel : kitB "str" "str" = some true), _, rfl, iteF' rfl ?_⟩
  refine ⟨_, rfl, _, rfl, rfl, _, rfl, iteF' (by show (!decide (V.str (S (txtL rows)) = V.str (S (txtL rows)))) = false; rw [decide_eq_true rfl]; rfl) ?_⟩
  refine ⟨_, rfl, tp, us', ms, rfl, tp6, mkt6, hgw, _, rfl, iteF' rfl ?_⟩
  refine ⟨_, rfl, _, rfl, g, _, 1, _, rfl, rfl, SqL.of g6, rfl, ?_⟩
  refine ⟨.list (ms.map dM), .list (ms.map dM), .lst (SqL.of tp6) (dMs_dp mkt6), .lst (SqL.of m6) (dMs_dp mk6), dMs_shaped hok, dMs_shaped hok, ?_⟩
  rw [dMs_refl hok]
  refine ⟨_, rfl, iteF' rfl ?_⟩
  refine ⟨_, rfl, _, rfl, by rw [S_len]; omega, _, _, rfl, rfl, _, rfl, ite2 (fun c => ?_) (fun c => ?_)⟩
  · have c := of_decide_eq_true c
    rw [S_len] at c
    refine ⟨_, rfl, by show 2 ≤ sizeLine; omega, fun fa hfa => ?_⟩
    exact ⟨txtL rows, 1, 1, fa, rfl, by show _ ≤ 1000000; omega, upd_same, rA (by omega), fun H7 s7 => q H7⟩
  have hl6000 : (txtL rows).length ≤ 6000 := Nat.le_of_not_lt fun z => c (decide_eq_true (by rw [S_len]; omega))
  refine ⟨_, rfl, d, _, 0, _, rfl, rfl, SqL.of d6, rfl, ra, _, rfl, .inl (SqL.of L6.hr), _, rfl, by rw [List.length_map]; show -(2 ^ 62) ≤ ((rows.length : Nat) : Int); omega, by rw [List.length_map]; show ((rows.length : Nat) : Int) < 2 ^ 62; omega, ?_⟩
  refine for_range (lo := 0) (n := (((rows.map fun r => V.str (S r)).length : Nat) : Int).toNat) (fun i σ H' => (∃ y5, σ = [some (.ref a), some (.ref g), some (.ref tp), some (.str (S (txtL rows))), some (.ref d), y5, some (.str (S (txtL rows))), none]) ∧ H' = H6 ∧ ∀ x ∈ rows.take i, ¬ 120 < x.length)
    ⟨⟨none, rfl⟩, rfl, fun x hx => by cases hx⟩ ?_ ?_
  · rintro i σ H7 hi ⟨⟨y5, rfl⟩, rfl, hall⟩
    rw [List.length_map] at hi
    have hi : i < rows.length := by omega
    have hri0 : rows[i]? = some rows[i] := List.getElem?_eq_getElem hi
    have hri1 := hri i _ hri0
    have jr : atI (rows.map fun r => V.str (S r)) ((0 : Int) + (i : Nat)) = some (.str (S rows[i])) := by
      rw [Int.zero_add]
      exact atI_nat (by rw [List.getElem?_map, hri0]; rfl)
    refine ⟨_, rfl, d, _, 0, _, rfl, rfl, SqL.of d6, rfl, _, rfl, ra, _, _, _, rfl, rfl, SqL.of L6.hr, jr, _, rfl, by rw [S_len]; omega, _, _, rfl, rfl, _, rfl, ite2 (fun c => ?_) (fun c => ?_)⟩
    · have c := of_decide_eq_true c
      rw [S_len] at c
      refine ⟨_, rfl, _, rfl, _, _, rfl, rfl, by show 2 ≤ sizeLine; omega, fun fa hfa => ?_⟩
      have hlg := longAt_at (n := 1) hri0 (by omega) hall
      refine ⟨txtL rows, 1 + i, 121, fa, rfl, by show _ ≤ 1000000; omega, ?_, rB hl6000 _ hlg, fun H8 s8 => q H8⟩
      rw [upd_same, show ((1 + i : Nat) : Int) = 0 + (i : Int) + 1 by omega]; rfl
    · refine ⟨⟨_, rfl⟩, rfl, fun x hx => ?_⟩
      rw [List.take_add_one, hri0] at hx
      rcases List.mem_append.mp hx with h | h
      · exact hall x h
      · have : x = rows[i] := by simpa using h
        subst this
        exact fun z => c (decide_eq_true (by rw [S_len]; omega))
  rintro σ H7 ⟨⟨y5, rfl⟩, rfl, hall⟩
  rw [List.length_map] at hall
  rw [show ((rows.length : Nat) : Int).toNat = rows.length from rfl, List.take_length] at hall
  have hC := rC hl6000 (longAt_none hall)
  refine ⟨_, rfl, txtL rows, rfl, by show _ ≤ 1000000; omega, fun e he => ?_, fun ms2 hms2 H8 ap us2 s8 hap hap2 hmk2 => ?_⟩
  · rw [hC] at he; cases he
  have hms2' := hms2
  rw [hC] at hms2
  have e2 : ms2 = fillP ms (layF L0 ms).2 (0, 0) := (Except.ok.inj hms2).symm
  have hgw2 := gs_tokens hms2'
  have hok2 : ∀ m ∈ ms2, WOk m.w := fun m hm => gw_ok (hgw2 m hm)
  have hlen := (layF_len ms L0).symm
  have hkw := fill_kw ms (layF L0 ms).2 (0, 0) hlen
  rw [← e2] at hkw
  have hml2 : ms2.length ≤ 4000 := by rw [e2, fillP_len _ _ _ hlen]; exact hml
  refine ⟨_, rfl, ap, us2, ms2, rfl, hap2, hmk2, hgw2, _, rfl, iteF' rfl ?_⟩
  have L8 := L6.same s8
  refine ⟨_, rfl, _, rfl, g, _, 1, _, rfl, rfl, SqL.of (s8 _ _ g6), rfl, _, rfl, d, _, 1, _, rfl, rfl, SqL.of (s8 _ _ d6), rfl, ?_⟩
  refine ⟨ma, ra, sa, us, ss, ms, (layF L0 ms).2, z0, p0, rfl, s8 _ _ m6, mk6.mono fun a t e => s8 a _ e, L8.hs, L8.sp, hlen, by omega, r6, fun H9 dd us3 s9 hdd hmk3 => ?_⟩
  rw [← e2] at hmk3
  refine ⟨.list (ms2.map dM), .list (ms2.map dM), .lst (SqL.of (s9 _ _ hap2)) (dMs_dp (hmk2.mono fun a t e => s9 a _ e)), .lst (SqL.of hdd) (dMs_dp hmk3), dMs_shaped hok2, dMs_shaped hok2, ?_⟩
  rw [dMs_refl hok2]
  refine ⟨_, rfl, iteF' rfl ?_⟩
  have hpf2 : pF ms2 = ⟨rows, [], 0⟩ := (pF_kw ms2 ms _ hkw).trans r5
  refine ⟨_, rfl, ap, us2, ms2, rows, rfl, s9 _ _ hap2, hmk2.mono fun a t e => s9 a _ e, by omega, mok_kw hkw r4, hpf2, by omega, fun H10 s10 => ?_⟩
  refine ⟨_, rfl, rfl, ?_⟩
  have : decide (V.str (S (txtL rows)) = V.str (S (txtL rows))) = true := decide_eq_true rfl
  rw [this]
  exact q H10
end
end D0
namespace D0
open PySem PySem.Spec PyProof.Rows L2 SX NumText
theorem kit_self {K : PySem.W.Frag} {v : Value} : PySem.W.kitOne K v v = some true := by
  show (if (v == v) = true then some true else _) = some true
  rw [if_pos (beq_self_eq_true v)]
/-! ### the written tuples and dicts -/
theorem rel_of_str {u : Value} {z : Str} (h : absV u = some (.str z)) : RelV (.str z) u := by
  cases u <;> cases h <;> exact ⟨_, rfl⟩
theorem vals_of_str : ∀ (ls : List (List Nat)) (us : List Value), us.map absV = ls.map (fun l => some (V.str (S l))) → Vals (ls.map fun l => V.str (S l)) us
  | [], [], _ => .nil
  | [], _ :: _, h => by cases h
  | _ :: _, [], h => by cases h
  | l :: ls, u :: us, h => by
    rw [List.map_cons, List.map_cons] at h
    injection h with h1 h2
    exact .cons (rel_of_str h1) (vals_of_str ls us h2)
theorem tupT_of {K : PySem.W.Frag} {mg : Str → Option Value} {x : Str} {ls : List (List Nat)} {a : Addr} {od : Option Addr} {its : Array Value} {n : Nat} {sl : Array (Option Value)} (gm : mg x = some (.ref a)) (lk : K.lookup a = some ⟨.type "tuple", od, .seq its n, sl⟩)
    (v : its.toList.map absV = ls.map (fun l => some (V.str (S l)))) (hz : its.size ≤ 1000) : TupT K mg x ls :=
  ⟨a, gm, fun H => .inr ⟨_, its, n, lk, rfl, rfl, Nat.le_trans hz (by decide), vals_of_str ls _ v⟩⟩
def Ents (P : Params) : List (List Nat × List Nat) → List DictEntry → Prop
  | [], [] => True
  | (k, v) :: r, e :: es => (∃ h t u, e = ⟨h, .str (S k) t, .str (S v) u⟩ ∧ h = PyData.keyHash P (S k)) ∧ Ents P r es
  | _, _ => False
def getL : List (List Nat × List Nat) → List Nat → Option (List Nat)
  | [], _ => none
  | (k, v) :: r, l => if k = l then some v else getL r l
theorem ents_keys {P : Params} : ∀ {ps : List (List Nat × List Nat)} {es : List DictEntry}, Ents P ps es → PySem.W.KeysLit P es
  | [], [], _ => trivial
  | [], _ :: _, h => h.elim
  | _ :: _, [], h => h.elim
  | (k, v) :: r, e :: es, ⟨⟨h, t, u, he, hh⟩, hr⟩ => ⟨⟨S k, t, by rw [he], by rw [he]; exact hh⟩, ents_keys hr⟩
theorem ents_find {P : Params} (l : List Nat) : ∀ {ps : List (List Nat × List Nat)} {es : List DictEntry}, Ents P ps es →
    es.any (·.refKey) = false ∧ ((es.find? (·.key.isStr (S l))).isSome = (getL ps l).isSome) ∧ ∀ m, getL ps l = some m → ∃ e, es.find? (·.key.isStr (S l)) = some e ∧ RelV (.str (S m)) e.val
  | [], [], _ => ⟨rfl, rfl, fun m h => by cases h⟩
  | [], _ :: _, h => h.elim
  | _ :: _, [], h => h.elim
  | (k, v) :: r, e :: es, ⟨⟨h, t, u, he, hh⟩, hr⟩ => by
    obtain ⟨i1, i2, i3⟩ := ents_find l hr
    subst he
    refine ⟨by rw [List.any_cons, i1]; rfl, ?_⟩
    have hk : (Value.str (S k) t).isStr (S l) = decide (k = l) := by
      show (S k == S l) = decide (k = l)
      by_cases c : k = l
      · subst c; rw [beq_self_eq_true, decide_eq_true rfl]
      · rw [decide_eq_false c]; exact beq_eq_false_iff_ne.mpr fun z => c (S_inj z)
    by_cases c : k = l
    · have e1 : List.find? (fun x : DictEntry => x.key.isStr (S l)) (⟨h, .str (S k) t, .str (S v) u⟩ :: es) = some ⟨h, .str (S k) t, .str (S v) u⟩ := by
        rw [List.find?_cons, show (Value.str (S k) t).isStr (S l) = true by rw [hk, decide_eq_true c]]
      have e2 : getL ((k, v) :: r) l = some v := if_pos c
      rw [e1, e2]
      exact ⟨rfl, fun m hm => by cases hm; exact ⟨_, rfl, ⟨_, rfl⟩⟩⟩
    · have e1 : List.find? (fun x : DictEntry => x.key.isStr (S l)) (⟨h, .str (S k) t, .str (S v) u⟩ :: es) = List.find? (fun x : DictEntry => x.key.isStr (S l)) es := by
        rw [List.find?_cons, show (Value.str (S k) t).isStr (S l) = false by rw [hk, decide_eq_false c]]
      have e2 : getL ((k, v) :: r) l = getL r l := if_neg c
      rw [e1, e2]
      exact ⟨i2, i3⟩
theorem dictT_of {K : PySem.W.Frag} {w : World} {mg : Str → Option Value} {x : Str} {f : List Nat → Option (List Nat)} {d : Addr} {es : Array DictEntry} {n : Nat} (ps : List (List Nat × List Nat)) (hf : ∀ l, f l = getL ps l) (gm : mg x = some (.ref d)) (low : (d == sysModules) = false)
    (lk : K.lookup d = some ⟨.type "dict", none, .dict es n, #[]⟩) (he : Ents w.params ps es.toList) : DictT K w mg x f := by
  refine ⟨d, es, n, gm, ⟨lk, ents_keys he, low⟩, fun l => ?_⟩
  obtain ⟨i1, i2, i3⟩ := ents_find l he
  rw [hf l]
  have hn : PySem.W.nsIn K d (S l) = match es.toList.find? (·.key.isStr (S l)) with
      | some e => some (some e.val)
      | none => if es.toList.any (·.refKey) then none else some none := by
    unfold PySem.W.nsIn
    rw [lk] <;> rfl
  rw [hn, i1]
  cases hg : getL ps l with
  | none =>
    rw [hg] at i2
    cases hq : es.toList.find? (·.key.isStr (S l)) with
    | none => exact ⟨none, rfl, rfl, fun m h => by cases h⟩
    | some e => rw [hq] at i2; cases i2
  | some m =>
    obtain ⟨e, he2, hr⟩ := i3 m hg
    rw [he2]
    exact ⟨some e.val, rfl, rfl, fun m' h => by cases h; exact ⟨_, rfl, hr⟩⟩
def escP : List (List Nat × List Nat) := [([110], [10]), ([92], [92]), ([39], [39]), ([34], [34])]
def cloP : List (List Nat × List Nat) := [([41], [40]), ([93], [91]), ([125], [123])]
theorem escV_get (l : List Nat) : escV l = getL escP l := by
  by_cases a : [110] = l
  · subst a; rfl
  by_cases b : [92] = l
  · subst b; rfl
  by_cases c : [39] = l
  · subst c; rfl
  by_cases d : [34] = l
  · subst d; rfl
  have e : getL escP l = none := by
    show (if [110] = l then _ else if [92] = l then _ else if [39] = l then _ else if [34] = l then _ else _) = _
    rw [if_neg a, if_neg b, if_neg c, if_neg d]; rfl
  rw [e]
  unfold escV
  split
  · exact absurd rfl a
  · exact absurd rfl b
  · exact absurd rfl c
  · exact absurd rfl d
  · rfl
theorem cloV_get (l : List Nat) : cloV l = getL cloP l := by
  by_cases a : [41] = l
  · subst a; rfl
  by_cases b : [93] = l
  · subst b; rfl
  by_cases c : [125] = l
  · subst c; rfl
  have e : getL cloP l = none := by
    show (if [41] = l then _ else if [93] = l then _ else if [125] = l then _ else _) = _
    rw [if_neg a, if_neg b, if_neg c]; rfl
  rw [e]
  unfold cloV
  split
  · exact absurd rfl a
  · exact absurd rfl b
  · exact absurd rfl c
  · rfl
section
variable {P : Program} {w : World} {K : PySem.W.Frag} {mg : Str → Option Value} {base : Heap} {ec : Er → Addr} {C CS : Addr}
theorem all_ok (T : Txt K w mg) (ER : ErrT P w K mg base ec) (SC0 : ScT K mg C) (U : KitL K mg ec CS) (XF : ∀ k, XfC K (ec k)) : OkD P w K mg base CX0 8 "law" p_law (spLaw K) := by
  have o1 := ok_is_digit (P := P) (w := w) (base := base) T.g_is_digit
  have o2 := ok_digits_end T.g_digits_end o1 T.z_len
  have o3 := ok_is_row (P := P) (w := w) (base := base) T.g_is_row T.z_ord T.c_PERCENT
  have o4 := ok_is_letter (P := P) (w := w) (base := base) T.g_is_letter
  have o5 := ok_name_end T.g_name_end o1 o4 T.z_len
  have o6 := ok_spaces_end (P := P) (w := w) (base := base) T.g_spaces_end T.z_len
  have o7 := ok_scan_name T ER o5
  have o8 := ok_scan_number T ER o2 o4
  have o9 := ok_scan_text T ER
  have o10 := ok_scan_sign T ER
  have o11 := ok_scan_token T ER o1 o4 o7 o8 o9 o10
  have m1 := ok_Scanner_begin_line T ER SC0
  have m2 := ok_Scanner_match_bracket T ER SC0
  have m3 := ok_Scanner_gather T ER SC0 m2
  have m4 := ok_Scanner_end_line (P := P) (w := w) (base := base) SC0
  have m5 := ok_Scanner_scan_row T ER SC0 o6 o11 m1 m3 m4
  have o12 := ok_check_letters T ER o3
  have o13 := ok_checked_rows T ER o12
  have m6 := ok_Scanner_end_text T ER SC0
  have o14 := ok_tokens T ER SC0 o13 m5 m6
  have o15 := ok__law_bag (P := P) (w := w) (base := base) T
  have o16 := ok__law_take (P := P) (w := w) (base := base) T
  have o17 := ok__law_letters (P := P) (w := w) (base := base) T
  have o18 := ok__law_allowed (P := P) (w := w) (base := base) T
  have o19 := ok__law_signs (P := P) (w := w) (base := base) T
  have o20 := ok__law_keywords (P := P) (w := w) (base := base) T
  have o21 := ok__law_name T o16 o17
  have o22 := ok__law_figures T o16
  have o23 := ok__law_comment T o16 o18
  have o24 := ok__law_quoted T o16 o18
  have o25 := ok__law_word T o16 o19 o20 o21 o22 o24
  have o26 := ok__law_must_part T o17 o19
  have o27 := ok__law_lay T o16 o26 (fun b => ok__law_put T b)
  have o28 := ok__law_row_end T o16 o23 (fun b => ok__law_close_row T b)
  have o29 := ok__law_broken T o16 o28
  have o30 := ok__law_line T o16 o25 o28 o29 o27
  have o31 := ok__law_margin T o16
  have o31t := ok__law_tall T o16 o31 o25 (fun b => ok__law_put T b) (fun b => ok__law_close_row T b)
  have o32 := ok__law_page T o16 o28 o31 o30 o31t
  have o33 := ok__law_whole (P := P) (w := w) (base := base) T
  have o34 := ok__law_is_tokens T o33
  have o35 := ok_quoted (P := P) (w := w) (base := base) T.g_quoted
  have o36 := ok_written T o35
  have o37 := ok_layout T o36
  have o38 := ok__law_written (P := P) (w := w) (base := base) T
  have o39 := ok__law_laid T o38
  have o40 := ok__law_replaced (P := P) (w := w) (base := base) T
  have o41 := ok__law_is_too_long T ER U XF o14
  exact ok_law T o15 o32 o14 o34 o37 o39 o40 o41
end
end D0
namespace D0
open PySem PySem.Spec PyProof.Rows L2 SX NumText
def ecf (C0 C1 C2 C3 C4 : Addr) : Er → Addr
  | .sign => C0 | .token => C1 | .indent => C2 | .long => C3 | .deep => C4
set_option maxHeartbeats 8000000 in
theorem all_mk {l : PySem.W.OpenLaw} {w : World} {K : PySem.W.Frag} {h : Heap} {mg : Str → Option Value} {fa : Addr} (X : K.In h) (G : h.Ns mainGlobals mg) (hfa : mg "law" = some (.ref fa))
    {od1 an1 : Option Addr} {sl1 : Array (Option Value)} {oc1 kV1 dc1 pm1 cd1 ct1 : Value} {f1 : Addr}
    {od2 an2 : Option Addr} {sl2 : Array (Option Value)} {oc2 kV2 dc2 pm2 cd2 ct2 : Value} {f2 : Addr}
    {od3 an3 : Option Addr} {sl3 : Array (Option Value)} {oc3 kV3 dc3 pm3 cd3 ct3 : Value} {f3 : Addr}
    {od4 an4 : Option Addr} {sl4 : Array (Option Value)} {oc4 kV4 dc4 pm4 cd4 ct4 : Value} {f4 : Addr}
    {od5 an5 : Option Addr} {sl5 : Array (Option Value)} {oc5 kV5 dc5 pm5 cd5 ct5 : Value} {f5 : Addr}
    {od6 an6 : Option Addr} {sl6 : Array (Option Value)} {oc6 kV6 dc6 pm6 cd6 ct6 : Value} {f6 : Addr}
    {od7 an7 : Option Addr} {sl7 : Array (Option Value)} {oc7 kV7 dc7 pm7 cd7 ct7 : Value} {f7 : Addr}
    {od8 an8 : Option Addr} {sl8 : Array (Option Value)} {oc8 kV8 dc8 pm8 cd8 ct8 : Value} {f8 : Addr}
    {od9 an9 : Option Addr} {sl9 : Array (Option Value)} {oc9 kV9 dc9 pm9 cd9 ct9 : Value} {f9 : Addr}
    {od10 an10 : Option Addr} {sl10 : Array (Option Value)} {oc10 kV10 dc10 pm10 cd10 ct10 : Value} {f10 : Addr}
    {od11 an11 : Option Addr} {sl11 : Array (Option Value)} {oc11 kV11 dc11 pm11 cd11 ct11 : Value} {f11 : Addr}
    {od12 an12 : Option Addr} {sl12 : Array (Option Value)} {oc12 kV12 dc12 pm12 cd12 ct12 : Value} {f12 : Addr}
    {od13 an13 : Option Addr} {sl13 : Array (Option Value)} {oc13 kV13 dc13 pm13 cd13 ct13 : Value} {f13 : Addr}
    {od14 an14 : Option Addr} {sl14 : Array (Option Value)} {oc14 kV14 dc14 pm14 cd14 ct14 : Value} {f14 : Addr}
    {od15 an15 : Option Addr} {sl15 : Array (Option Value)} {oc15 kV15 dc15 pm15 cd15 ct15 : Value} {f15 : Addr}
    {od16 an16 : Option Addr} {sl16 : Array (Option Value)} {oc16 kV16 dc16 pm16 cd16 ct16 : Value} {f16 : Addr}
    {od17 an17 : Option Addr} {sl17 : Array (Option Value)} {oc17 kV17 dc17 pm17 cd17 ct17 : Value} {f17 : Addr}
    {od18 an18 : Option Addr} {sl18 : Array (Option Value)} {oc18 kV18 dc18 pm18 cd18 ct18 : Value} {f18 : Addr}
    {od19 an19 : Option Addr} {sl19 : Array (Option Value)} {oc19 kV19 dc19 pm19 cd19 ct19 : Value} {f19 : Addr}
    {od20 an20 : Option Addr} {sl20 : Array (Option Value)} {oc20 kV20 dc20 pm20 cd20 ct20 : Value} {f20 : Addr}
    {od21 an21 : Option Addr} {sl21 : Array (Option Value)} {oc21 kV21 dc21 pm21 cd21 ct21 : Value} {f21 : Addr}
    {od22 an22 : Option Addr} {sl22 : Array (Option Value)} {oc22 kV22 dc22 pm22 cd22 ct22 : Value} {f22 : Addr}
    {od23 an23 : Option Addr} {sl23 : Array (Option Value)} {oc23 kV23 dc23 pm23 cd23 ct23 : Value} {f23 : Addr}
    {od24 an24 : Option Addr} {sl24 : Array (Option Value)} {oc24 kV24 dc24 pm24 cd24 ct24 : Value} {f24 : Addr}
    {od25 an25 : Option Addr} {sl25 : Array (Option Value)} {oc25 kV25 dc25 pm25 cd25 ct25 : Value} {f25 : Addr}
    {od26 an26 : Option Addr} {sl26 : Array (Option Value)} {oc26 kV26 dc26 pm26 cd26 ct26 : Value} {f26 : Addr}
    {od27 an27 : Option Addr} {sl27 : Array (Option Value)} {oc27 kV27 dc27 pm27 cd27 ct27 : Value} {f27 : Addr}
    {od28 an28 : Option Addr} {sl28 : Array (Option Value)} {oc28 kV28 dc28 pm28 cd28 ct28 : Value} {f28 : Addr}
    {od29 an29 : Option Addr} {sl29 : Array (Option Value)} {oc29 kV29 dc29 pm29 cd29 ct29 : Value} {f29 : Addr}
    {od30 an30 : Option Addr} {sl30 : Array (Option Value)} {oc30 kV30 dc30 pm30 cd30 ct30 : Value} {f30 : Addr}
    {od31 an31 : Option Addr} {sl31 : Array (Option Value)} {oc31 kV31 dc31 pm31 cd31 ct31 : Value} {f31 : Addr}
    {od32 an32 : Option Addr} {sl32 : Array (Option Value)} {oc32 kV32 dc32 pm32 cd32 ct32 : Value} {f32 : Addr}
    {od33 an33 : Option Addr} {sl33 : Array (Option Value)} {oc33 kV33 dc33 pm33 cd33 ct33 : Value} {f33 : Addr}
    {od34 an34 : Option Addr} {sl34 : Array (Option Value)} {oc34 kV34 dc34 pm34 cd34 ct34 : Value} {f34 : Addr}
    {od35 an35 : Option Addr} {sl35 : Array (Option Value)} {oc35 kV35 dc35 pm35 cd35 ct35 : Value} {f35 : Addr}
    {od36 an36 : Option Addr} {sl36 : Array (Option Value)} {oc36 kV36 dc36 pm36 cd36 ct36 : Value} {f36 : Addr}
    {od37 an37 : Option Addr} {sl37 : Array (Option Value)} {oc37 kV37 dc37 pm37 cd37 ct37 : Value} {f37 : Addr}
    {od38 an38 : Option Addr} {sl38 : Array (Option Value)} {oc38 kV38 dc38 pm38 cd38 ct38 : Value} {f38 : Addr}
    {od39 an39 : Option Addr} {sl39 : Array (Option Value)} {oc39 kV39 dc39 pm39 cd39 ct39 : Value} {f39 : Addr}
    {od40 an40 : Option Addr} {sl40 : Array (Option Value)} {oc40 kV40 dc40 pm40 cd40 ct40 : Value} {f40 : Addr}
    {od41 an41 : Option Addr} {sl41 : Array (Option Value)} {oc41 kV41 dc41 pm41 cd41 ct41 : Value} {f41 : Addr}
    {od42 an42 : Option Addr} {sl42 : Array (Option Value)} {oc42 kV42 dc42 pm42 cd42 ct42 : Value} {f42 : Addr}
    {od43 an43 : Option Addr} {sl43 : Array (Option Value)} {oc43 kV43 dc43 pm43 cd43 ct43 : Value} {f43 : Addr}
    {od44 an44 : Option Addr} {sl44 : Array (Option Value)} {oc44 kV44 dc44 pm44 cd44 ct44 : Value} {f44 : Addr}
    {od45 an45 : Option Addr} {sl45 : Array (Option Value)} {oc45 kV45 dc45 pm45 cd45 ct45 : Value} {f45 : Addr}
    {od46 an46 : Option Addr} {sl46 : Array (Option Value)} {oc46 kV46 dc46 pm46 cd46 ct46 : Value} {f46 : Addr}
    {od47 an47 : Option Addr} {sl47 : Array (Option Value)} {oc47 kV47 dc47 pm47 cd47 ct47 : Value} {f47 : Addr}
    {od48 an48 : Option Addr} {sl48 : Array (Option Value)} {oc48 kV48 dc48 pm48 cd48 ct48 : Value} {f48 : Addr}
    {od49 an49 : Option Addr} {sl49 : Array (Option Value)} {oc49 kV49 dc49 pm49 cd49 ct49 : Value} {f49 : Addr}
    {od50 an50 : Option Addr} {sl50 : Array (Option Value)} {oc50 kV50 dc50 pm50 cd50 ct50 : Value} {f50 : Addr}
    {od51 an51 : Option Addr} {sl51 : Array (Option Value)} {oc51 kV51 dc51 pm51 cd51 ct51 : Value} {f51 : Addr}
    {od52 an52 : Option Addr} {sl52 : Array (Option Value)} {oc52 kV52 dc52 pm52 cd52 ct52 : Value} {f52 : Addr}
    {od53 an53 : Option Addr} {sl53 : Array (Option Value)} {oc53 kV53 dc53 pm53 cd53 ct53 : Value} {f53 : Addr}
    {CC C0 C1 C2 C3 C4 CS : Addr}
    {t_PERCENT : Tok}
    {t_NAME_LIMIT : Tok}
    {t_NUMBER_LIMIT : Tok}
    {t_TEXT_LIMIT : Tok}
    {t_ROW_LIMIT : Tok}
    {t_TOKEN_LIMIT : Tok}
    {t_INDENT_LIMIT : Tok}
    {a_KEYWORDS : Addr} {od_KEYWORDS : Option Addr} {its_KEYWORDS : Array Value} {n_KEYWORDS : Nat} {sl_KEYWORDS : Array (Option Value)}
    {a_SIGNS : Addr} {od_SIGNS : Option Addr} {its_SIGNS : Array Value} {n_SIGNS : Nat} {sl_SIGNS : Array (Option Value)}
    {a_OPENING : Addr} {od_OPENING : Option Addr} {its_OPENING : Array Value} {n_OPENING : Nat} {sl_OPENING : Array (Option Value)}
    {a_ESCAPES : Addr} {n_ESCAPES : Nat} {hESCAPES0 : Int} {tESCAPES0 uESCAPES0 : Tok} {hESCAPES1 : Int} {tESCAPES1 uESCAPES1 : Tok} {hESCAPES2 : Int} {tESCAPES2 uESCAPES2 : Tok} {hESCAPES3 : Int} {tESCAPES3 uESCAPES3 : Tok}
    {a_CLOSING : Addr} {n_CLOSING : Nat} {hCLOSING0 : Int} {tCLOSING0 uCLOSING0 : Tok} {hCLOSING1 : Int} {tCLOSING1 uCLOSING1 : Tok} {hCLOSING2 : Int} {tCLOSING2 uCLOSING2 : Tok}
    {nm0x q0x : Str} {N0x : Addr} {bs0x bm0x : List Value} {sn0x : List Str} {sub0x : List Value} {ab0x : Bool} {col0x : Option Bool} {dd0x : Option Addr} {k00x k10x k20x k30x k50x : Option Value}
    {nm1x q1x : Str} {N1x : Addr} {bs1x bm1x : List Value} {sn1x : List Str} {sub1x : List Value} {ab1x : Bool} {col1x : Option Bool} {dd1x : Option Addr} {k01x k11x k21x k31x k51x : Option Value}
    {nm2x q2x : Str} {N2x : Addr} {bs2x bm2x : List Value} {sn2x : List Str} {sub2x : List Value} {ab2x : Bool} {col2x : Option Bool} {dd2x : Option Addr} {k02x k12x k22x k32x k52x : Option Value}
    {nm3x q3x : Str} {N3x : Addr} {bs3x bm3x : List Value} {sn3x : List Str} {sub3x : List Value} {ab3x : Bool} {col3x : Option Bool} {dd3x : Option Addr} {k03x k13x k23x k33x k53x : Option Value}
    {nm4x q4x : Str} {N4x : Addr} {bs4x bm4x : List Value} {sn4x : List Str} {sub4x : List Value} {ab4x : Bool} {col4x : Option Bool} {dd4x : Option Addr} {k04x k14x k24x k34x k54x : Option Value}
    (a1_0 : PySem.W.findIn K (.ref C0) "__init__" = some (some (.ref f1)))
    (a1_1 : PySem.W.findIn K (.ref C1) "__init__" = some (some (.ref f1)))
    (a1_2 : PySem.W.findIn K (.ref C2) "__init__" = some (some (.ref f1)))
    (a1_3 : PySem.W.findIn K (.ref C3) "__init__" = some (some (.ref f1)))
    (a1_4 : PySem.W.findIn K (.ref C4) "__init__" = some (some (.ref f1)))
    (i1 : PySem.W.typeIn K (.ref f1) = some (.type "function"))
    (l1 : K.lookup f1 = some ⟨oc1, od1, .func (PySem.W.fnOf "__init__" "SourceError.__init__" (defArgs s_SourceError___init__) (defBody s_SourceError___init__) (defScope s_SourceError___init__) .none kV1 dc1 pm1 an1 cd1 ct1), sl1⟩)
    (c1 : PySem.W.codeIn K cd1 "SourceError.__init__" = true)
    (k1 : PySem.W.keepIn K (.ref f1) = true)
    (a2 : PySem.W.nsIn K mainGlobals "is_row" = some (some (.ref f2)))
    (l2 : K.lookup f2 = some ⟨oc2, od2, .func (PySem.W.fnOf "is_row" "is_row" (defArgs s_is_row) (defBody s_is_row) (defScope s_is_row) .none kV2 dc2 pm2 an2 cd2 ct2), sl2⟩)
    (c2 : PySem.W.codeIn K cd2 "is_row" = true)
    (k2 : PySem.W.keepIn K (.ref f2) = true)
    (a3 : PySem.W.nsIn K mainGlobals "is_letter" = some (some (.ref f3)))
    (l3 : K.lookup f3 = some ⟨oc3, od3, .func (PySem.W.fnOf "is_letter" "is_letter" (defArgs s_is_letter) (defBody s_is_letter) (defScope s_is_letter) .none kV3 dc3 pm3 an3 cd3 ct3), sl3⟩)
    (c3 : PySem.W.codeIn K cd3 "is_letter" = true)
    (k3 : PySem.W.keepIn K (.ref f3) = true)
    (a4 : PySem.W.nsIn K mainGlobals "is_digit" = some (some (.ref f4)))
    (l4 : K.lookup f4 = some ⟨oc4, od4, .func (PySem.W.fnOf "is_digit" "is_digit" (defArgs s_is_digit) (defBody s_is_digit) (defScope s_is_digit) .none kV4 dc4 pm4 an4 cd4 ct4), sl4⟩)
    (c4 : PySem.W.codeIn K cd4 "is_digit" = true)
    (k4 : PySem.W.keepIn K (.ref f4) = true)
    (a5 : PySem.W.nsIn K mainGlobals "digits_end" = some (some (.ref f5)))
    (l5 : K.lookup f5 = some ⟨oc5, od5, .func (PySem.W.fnOf "digits_end" "digits_end" (defArgs s_digits_end) (defBody s_digits_end) (defScope s_digits_end) .none kV5 dc5 pm5 an5 cd5 ct5), sl5⟩)
    (c5 : PySem.W.codeIn K cd5 "digits_end" = true)
    (k5 : PySem.W.keepIn K (.ref f5) = true)
    (a6 : PySem.W.nsIn K mainGlobals "name_end" = some (some (.ref f6)))
    (l6 : K.lookup f6 = some ⟨oc6, od6, .func (PySem.W.fnOf "name_end" "name_end" (defArgs s_name_end) (defBody s_name_end) (defScope s_name_end) .none kV6 dc6 pm6 an6 cd6 ct6), sl6⟩)
    (c6 : PySem.W.codeIn K cd6 "name_end" = true)
    (k6 : PySem.W.keepIn K (.ref f6) = true)
    (a7 : PySem.W.nsIn K mainGlobals "quoted" = some (some (.ref f7)))
    (l7 : K.lookup f7 = some ⟨oc7, od7, .func (PySem.W.fnOf "quoted" "quoted" (defArgs s_quoted) (defBody s_quoted) (defScope s_quoted) .none kV7 dc7 pm7 an7 cd7 ct7), sl7⟩)
    (c7 : PySem.W.codeIn K cd7 "quoted" = true)
    (k7 : PySem.W.keepIn K (.ref f7) = true)
    (a8 : PySem.W.nsIn K mainGlobals "scan_token" = some (some (.ref f8)))
    (l8 : K.lookup f8 = some ⟨oc8, od8, .func (PySem.W.fnOf "scan_token" "scan_token" (defArgs s_scan_token) (defBody s_scan_token) (defScope s_scan_token) .none kV8 dc8 pm8 an8 cd8 ct8), sl8⟩)
    (c8 : PySem.W.codeIn K cd8 "scan_token" = true)
    (k8 : PySem.W.keepIn K (.ref f8) = true)
    (a9 : PySem.W.nsIn K mainGlobals "scan_name" = some (some (.ref f9)))
    (l9 : K.lookup f9 = some ⟨oc9, od9, .func (PySem.W.fnOf "scan_name" "scan_name" (defArgs s_scan_name) (defBody s_scan_name) (defScope s_scan_name) .none kV9 dc9 pm9 an9 cd9 ct9), sl9⟩)
    (c9 : PySem.W.codeIn K cd9 "scan_name" = true)
    (k9 : PySem.W.keepIn K (.ref f9) = true)
    (a10 : PySem.W.nsIn K mainGlobals "scan_number" = some (some (.ref f10)))
    (l10 : K.lookup f10 = some ⟨oc10, od10, .func (PySem.W.fnOf "scan_number" "scan_number" (defArgs s_scan_number) (defBody s_scan_number) (defScope s_scan_number) .none kV10 dc10 pm10 an10 cd10 ct10), sl10⟩)
    (c10 : PySem.W.codeIn K cd10 "scan_number" = true)
    (k10 : PySem.W.keepIn K (.ref f10) = true)
    (a11 : PySem.W.nsIn K mainGlobals "scan_text" = some (some (.ref f11)))
    (l11 : K.lookup f11 = some ⟨oc11, od11, .func (PySem.W.fnOf "scan_text" "scan_text" (defArgs s_scan_text) (defBody s_scan_text) (defScope s_scan_text) .none kV11 dc11 pm11 an11 cd11 ct11), sl11⟩)
    (c11 : PySem.W.codeIn K cd11 "scan_text" = true)
    (k11 : PySem.W.keepIn K (.ref f11) = true)
    (a12 : PySem.W.nsIn K mainGlobals "scan_sign" = some (some (.ref f12)))
    (l12 : K.lookup f12 = some ⟨oc12, od12, .func (PySem.W.fnOf "scan_sign" "scan_sign" (defArgs s_scan_sign) (defBody s_scan_sign) (defScope s_scan_sign) .none kV12 dc12 pm12 an12 cd12 ct12), sl12⟩)
    (c12 : PySem.W.codeIn K cd12 "scan_sign" = true)
    (k12 : PySem.W.keepIn K (.ref f12) = true)
    (a13 : PySem.W.findIn K (.ref CC) "__init__" = some (some (.ref f13)))
    (i13 : PySem.W.isFn K (.ref f13) = true)
    (l13 : K.lookup f13 = some ⟨oc13, od13, .func (PySem.W.fnOf "__init__" "Scanner.__init__" (defArgs s_Scanner___init__) (defBody s_Scanner___init__) (defScope s_Scanner___init__) .none kV13 dc13 pm13 an13 cd13 ct13), sl13⟩)
    (c13 : PySem.W.codeIn K cd13 "Scanner.__init__" = true)
    (k13 : PySem.W.keepIn K (.ref f13) = true)
    (a14 : PySem.W.findIn K (.ref CC) "scan_row" = some (some (.ref f14)))
    (i14 : PySem.W.isFn K (.ref f14) = true)
    (l14 : K.lookup f14 = some ⟨oc14, od14, .func (PySem.W.fnOf "scan_row" "Scanner.scan_row" (defArgs s_Scanner_scan_row) (defBody s_Scanner_scan_row) (defScope s_Scanner_scan_row) .none kV14 dc14 pm14 an14 cd14 ct14), sl14⟩)
    (c14 : PySem.W.codeIn K cd14 "Scanner.scan_row" = true)
    (k14 : PySem.W.keepIn K (.ref f14) = true)
    (a15 : PySem.W.findIn K (.ref CC) "begin_line" = some (some (.ref f15)))
    (i15 : PySem.W.isFn K (.ref f15) = true)
    (l15 : K.lookup f15 = some ⟨oc15, od15, .func (PySem.W.fnOf "begin_line" "Scanner.begin_line" (defArgs s_Scanner_begin_line) (defBody s_Scanner_begin_line) (defScope s_Scanner_begin_line) .none kV15 dc15 pm15 an15 cd15 ct15), sl15⟩)
    (c15 : PySem.W.codeIn K cd15 "Scanner.begin_line" = true)
    (k15 : PySem.W.keepIn K (.ref f15) = true)
    (a16 : PySem.W.findIn K (.ref CC) "gather" = some (some (.ref f16)))
    (i16 : PySem.W.isFn K (.ref f16) = true)
    (l16 : K.lookup f16 = some ⟨oc16, od16, .func (PySem.W.fnOf "gather" "Scanner.gather" (defArgs s_Scanner_gather) (defBody s_Scanner_gather) (defScope s_Scanner_gather) .none kV16 dc16 pm16 an16 cd16 ct16), sl16⟩)
    (c16 : PySem.W.codeIn K cd16 "Scanner.gather" = true)
    (k16 : PySem.W.keepIn K (.ref f16) = true)
    (a17 : PySem.W.findIn K (.ref CC) "match_bracket" = some (some (.ref f17)))
    (i17 : PySem.W.isFn K (.ref f17) = true)
    (l17 : K.lookup f17 = some ⟨oc17, od17, .func (PySem.W.fnOf "match_bracket" "Scanner.match_bracket" (defArgs s_Scanner_match_bracket) (defBody s_Scanner_match_bracket) (defScope s_Scanner_match_bracket) .none kV17 dc17 pm17 an17 cd17 ct17), sl17⟩)
    (c17 : PySem.W.codeIn K cd17 "Scanner.match_bracket" = true)
    (k17 : PySem.W.keepIn K (.ref f17) = true)
    (a18 : PySem.W.findIn K (.ref CC) "end_line" = some (some (.ref f18)))
    (i18 : PySem.W.isFn K (.ref f18) = true)
    (l18 : K.lookup f18 = some ⟨oc18, od18, .func (PySem.W.fnOf "end_line" "Scanner.end_line" (defArgs s_Scanner_end_line) (defBody s_Scanner_end_line) (defScope s_Scanner_end_line) .none kV18 dc18 pm18 an18 cd18 ct18), sl18⟩)
    (c18 : PySem.W.codeIn K cd18 "Scanner.end_line" = true)
    (k18 : PySem.W.keepIn K (.ref f18) = true)
    (a19 : PySem.W.findIn K (.ref CC) "end_text" = some (some (.ref f19)))
    (i19 : PySem.W.isFn K (.ref f19) = true)
    (l19 : K.lookup f19 = some ⟨oc19, od19, .func (PySem.W.fnOf "end_text" "Scanner.end_text" (defArgs s_Scanner_end_text) (defBody s_Scanner_end_text) (defScope s_Scanner_end_text) .none kV19 dc19 pm19 an19 cd19 ct19), sl19⟩)
    (c19 : PySem.W.codeIn K cd19 "Scanner.end_text" = true)
    (k19 : PySem.W.keepIn K (.ref f19) = true)
    (a20 : PySem.W.nsIn K mainGlobals "tokens" = some (some (.ref f20)))
    (l20 : K.lookup f20 = some ⟨oc20, od20, .func (PySem.W.fnOf "tokens" "tokens" (defArgs s_tokens) (defBody s_tokens) (defScope s_tokens) .none kV20 dc20 pm20 an20 cd20 ct20), sl20⟩)
    (c20 : PySem.W.codeIn K cd20 "tokens" = true)
    (k20 : PySem.W.keepIn K (.ref f20) = true)
    (a21 : PySem.W.nsIn K mainGlobals "checked_rows" = some (some (.ref f21)))
    (l21 : K.lookup f21 = some ⟨oc21, od21, .func (PySem.W.fnOf "checked_rows" "checked_rows" (defArgs s_checked_rows) (defBody s_checked_rows) (defScope s_checked_rows) .none kV21 dc21 pm21 an21 cd21 ct21), sl21⟩)
    (c21 : PySem.W.codeIn K cd21 "checked_rows" = true)
    (k21 : PySem.W.keepIn K (.ref f21) = true)
    (a22 : PySem.W.nsIn K mainGlobals "check_letters" = some (some (.ref f22)))
    (l22 : K.lookup f22 = some ⟨oc22, od22, .func (PySem.W.fnOf "check_letters" "check_letters" (defArgs s_check_letters) (defBody s_check_letters) (defScope s_check_letters) .none kV22 dc22 pm22 an22 cd22 ct22), sl22⟩)
    (c22 : PySem.W.codeIn K cd22 "check_letters" = true)
    (k22 : PySem.W.keepIn K (.ref f22) = true)
    (a23 : PySem.W.nsIn K mainGlobals "spaces_end" = some (some (.ref f23)))
    (l23 : K.lookup f23 = some ⟨oc23, od23, .func (PySem.W.fnOf "spaces_end" "spaces_end" (defArgs s_spaces_end) (defBody s_spaces_end) (defScope s_spaces_end) .none kV23 dc23 pm23 an23 cd23 ct23), sl23⟩)
    (c23 : PySem.W.codeIn K cd23 "spaces_end" = true)
    (k23 : PySem.W.keepIn K (.ref f23) = true)
    (a24 : PySem.W.nsIn K mainGlobals "layout" = some (some (.ref f24)))
    (l24 : K.lookup f24 = some ⟨oc24, od24, .func (PySem.W.fnOf "layout" "layout" (defArgs s_layout) (defBody s_layout) (defScope s_layout) .none kV24 dc24 pm24 an24 cd24 ct24), sl24⟩)
    (c24 : PySem.W.codeIn K cd24 "layout" = true)
    (k24 : PySem.W.keepIn K (.ref f24) = true)
    (a25 : PySem.W.nsIn K mainGlobals "written" = some (some (.ref f25)))
    (l25 : K.lookup f25 = some ⟨oc25, od25, .func (PySem.W.fnOf "written" "written" (defArgs s_written) (defBody s_written) (defScope s_written) .none kV25 dc25 pm25 an25 cd25 ct25), sl25⟩)
    (c25 : PySem.W.codeIn K cd25 "written" = true)
    (k25 : PySem.W.keepIn K (.ref f25) = true)
    (a26 : PySem.W.nsIn K mainGlobals "_law_bag" = some (some (.ref f26)))
    (l26 : K.lookup f26 = some ⟨oc26, od26, .func (PySem.W.fnOf "_law_bag" "_law_bag" (defArgs s__law_bag) (defBody s__law_bag) (defScope s__law_bag) .none kV26 dc26 pm26 an26 cd26 ct26), sl26⟩)
    (c26 : PySem.W.codeIn K cd26 "_law_bag" = true)
    (k26 : PySem.W.keepIn K (.ref f26) = true)
    (a27 : PySem.W.nsIn K mainGlobals "_law_take" = some (some (.ref f27)))
    (l27 : K.lookup f27 = some ⟨oc27, od27, .func (PySem.W.fnOf "_law_take" "_law_take" (defArgs s__law_take) (defBody s__law_take) (defScope s__law_take) .none kV27 dc27 pm27 an27 cd27 ct27), sl27⟩)
    (c27 : PySem.W.codeIn K cd27 "_law_take" = true)
    (k27 : PySem.W.keepIn K (.ref f27) = true)
    (a28 : PySem.W.nsIn K mainGlobals "_law_whole" = some (some (.ref f28)))
    (l28 : K.lookup f28 = some ⟨oc28, od28, .func (PySem.W.fnOf "_law_whole" "_law_whole" (defArgs s__law_whole) (defBody s__law_whole) (defScope s__law_whole) .none kV28 dc28 pm28 an28 cd28 ct28), sl28⟩)
    (c28 : PySem.W.codeIn K cd28 "_law_whole" = true)
    (k28 : PySem.W.keepIn K (.ref f28) = true)
    (a29 : PySem.W.nsIn K mainGlobals "_law_signs" = some (some (.ref f29)))
    (l29 : K.lookup f29 = some ⟨oc29, od29, .func (PySem.W.fnOf "_law_signs" "_law_signs" (defArgs s__law_signs) (defBody s__law_signs) (defScope s__law_signs) .none kV29 dc29 pm29 an29 cd29 ct29), sl29⟩)
    (c29 : PySem.W.codeIn K cd29 "_law_signs" = true)
    (k29 : PySem.W.keepIn K (.ref f29) = true)
    (a30 : PySem.W.nsIn K mainGlobals "_law_keywords" = some (some (.ref f30)))
    (l30 : K.lookup f30 = some ⟨oc30, od30, .func (PySem.W.fnOf "_law_keywords" "_law_keywords" (defArgs s__law_keywords) (defBody s__law_keywords) (defScope s__law_keywords) .none kV30 dc30 pm30 an30 cd30 ct30), sl30⟩)
    (c30 : PySem.W.codeIn K cd30 "_law_keywords" = true)
    (k30 : PySem.W.keepIn K (.ref f30) = true)
    (a31 : PySem.W.nsIn K mainGlobals "_law_letters" = some (some (.ref f31)))
    (l31 : K.lookup f31 = some ⟨oc31, od31, .func (PySem.W.fnOf "_law_letters" "_law_letters" (defArgs s__law_letters) (defBody s__law_letters) (defScope s__law_letters) .none kV31 dc31 pm31 an31 cd31 ct31), sl31⟩)
    (c31 : PySem.W.codeIn K cd31 "_law_letters" = true)
    (k31 : PySem.W.keepIn K (.ref f31) = true)
    (a32 : PySem.W.nsIn K mainGlobals "_law_allowed" = some (some (.ref f32)))
    (l32 : K.lookup f32 = some ⟨oc32, od32, .func (PySem.W.fnOf "_law_allowed" "_law_allowed" (defArgs s__law_allowed) (defBody s__law_allowed) (defScope s__law_allowed) .none kV32 dc32 pm32 an32 cd32 ct32), sl32⟩)
    (c32 : PySem.W.codeIn K cd32 "_law_allowed" = true)
    (k32 : PySem.W.keepIn K (.ref f32) = true)
    (a33 : PySem.W.nsIn K mainGlobals "_law_name" = some (some (.ref f33)))
    (l33 : K.lookup f33 = some ⟨oc33, od33, .func (PySem.W.fnOf "_law_name" "_law_name" (defArgs s__law_name) (defBody s__law_name) (defScope s__law_name) .none kV33 dc33 pm33 an33 cd33 ct33), sl33⟩)
    (c33 : PySem.W.codeIn K cd33 "_law_name" = true)
    (k33 : PySem.W.keepIn K (.ref f33) = true)
    (a34 : PySem.W.nsIn K mainGlobals "_law_figures" = some (some (.ref f34)))
    (l34 : K.lookup f34 = some ⟨oc34, od34, .func (PySem.W.fnOf "_law_figures" "_law_figures" (defArgs s__law_figures) (defBody s__law_figures) (defScope s__law_figures) .none kV34 dc34 pm34 an34 cd34 ct34), sl34⟩)
    (c34 : PySem.W.codeIn K cd34 "_law_figures" = true)
    (k34 : PySem.W.keepIn K (.ref f34) = true)
    (a35 : PySem.W.nsIn K mainGlobals "_law_quoted" = some (some (.ref f35)))
    (l35 : K.lookup f35 = some ⟨oc35, od35, .func (PySem.W.fnOf "_law_quoted" "_law_quoted" (defArgs s__law_quoted) (defBody s__law_quoted) (defScope s__law_quoted) .none kV35 dc35 pm35 an35 cd35 ct35), sl35⟩)
    (c35 : PySem.W.codeIn K cd35 "_law_quoted" = true)
    (k35 : PySem.W.keepIn K (.ref f35) = true)
    (a36 : PySem.W.nsIn K mainGlobals "_law_word" = some (some (.ref f36)))
    (l36 : K.lookup f36 = some ⟨oc36, od36, .func (PySem.W.fnOf "_law_word" "_law_word" (defArgs s__law_word) (defBody s__law_word) (defScope s__law_word) .none kV36 dc36 pm36 an36 cd36 ct36), sl36⟩)
    (c36 : PySem.W.codeIn K cd36 "_law_word" = true)
    (k36 : PySem.W.keepIn K (.ref f36) = true)
    (a37 : PySem.W.nsIn K mainGlobals "_law_comment" = some (some (.ref f37)))
    (l37 : K.lookup f37 = some ⟨oc37, od37, .func (PySem.W.fnOf "_law_comment" "_law_comment" (defArgs s__law_comment) (defBody s__law_comment) (defScope s__law_comment) .none kV37 dc37 pm37 an37 cd37 ct37), sl37⟩)
    (c37 : PySem.W.codeIn K cd37 "_law_comment" = true)
    (k37 : PySem.W.keepIn K (.ref f37) = true)
    (a38 : PySem.W.nsIn K mainGlobals "_law_must_part" = some (some (.ref f38)))
    (l38 : K.lookup f38 = some ⟨oc38, od38, .func (PySem.W.fnOf "_law_must_part" "_law_must_part" (defArgs s__law_must_part) (defBody s__law_must_part) (defScope s__law_must_part) .none kV38 dc38 pm38 an38 cd38 ct38), sl38⟩)
    (c38 : PySem.W.codeIn K cd38 "_law_must_part" = true)
    (k38 : PySem.W.keepIn K (.ref f38) = true)
    (a39 : PySem.W.nsIn K mainGlobals "_law_put" = some (some (.ref f39)))
    (l39 : K.lookup f39 = some ⟨oc39, od39, .func (PySem.W.fnOf "_law_put" "_law_put" (defArgs s__law_put) (defBody s__law_put) (defScope s__law_put) .none kV39 dc39 pm39 an39 cd39 ct39), sl39⟩)
    (c39 : PySem.W.codeIn K cd39 "_law_put" = true)
    (k39 : PySem.W.keepIn K (.ref f39) = true)
    (a40 : PySem.W.nsIn K mainGlobals "_law_close_row" = some (some (.ref f40)))
    (l40 : K.lookup f40 = some ⟨oc40, od40, .func (PySem.W.fnOf "_law_close_row" "_law_close_row" (defArgs s__law_close_row) (defBody s__law_close_row) (defScope s__law_close_row) .none kV40 dc40 pm40 an40 cd40 ct40), sl40⟩)
    (c40 : PySem.W.codeIn K cd40 "_law_close_row" = true)
    (k40 : PySem.W.keepIn K (.ref f40) = true)
    (a41 : PySem.W.nsIn K mainGlobals "_law_row_end" = some (some (.ref f41)))
    (l41 : K.lookup f41 = some ⟨oc41, od41, .func (PySem.W.fnOf "_law_row_end" "_law_row_end" (defArgs s__law_row_end) (defBody s__law_row_end) (defScope s__law_row_end) .none kV41 dc41 pm41 an41 cd41 ct41), sl41⟩)
    (c41 : PySem.W.codeIn K cd41 "_law_row_end" = true)
    (k41 : PySem.W.keepIn K (.ref f41) = true)
    (a42 : PySem.W.nsIn K mainGlobals "_law_lay" = some (some (.ref f42)))
    (l42 : K.lookup f42 = some ⟨oc42, od42, .func (PySem.W.fnOf "_law_lay" "_law_lay" (defArgs s__law_lay) (defBody s__law_lay) (defScope s__law_lay) .none kV42 dc42 pm42 an42 cd42 ct42), sl42⟩)
    (c42 : PySem.W.codeIn K cd42 "_law_lay" = true)
    (k42 : PySem.W.keepIn K (.ref f42) = true)
    (a43 : PySem.W.nsIn K mainGlobals "_law_broken" = some (some (.ref f43)))
    (l43 : K.lookup f43 = some ⟨oc43, od43, .func (PySem.W.fnOf "_law_broken" "_law_broken" (defArgs s__law_broken) (defBody s__law_broken) (defScope s__law_broken) .none kV43 dc43 pm43 an43 cd43 ct43), sl43⟩)
    (c43 : PySem.W.codeIn K cd43 "_law_broken" = true)
    (k43 : PySem.W.keepIn K (.ref f43) = true)
    (a44 : PySem.W.nsIn K mainGlobals "_law_line" = some (some (.ref f44)))
    (l44 : K.lookup f44 = some ⟨oc44, od44, .func (PySem.W.fnOf "_law_line" "_law_line" (defArgs s__law_line) (defBody s__law_line) (defScope s__law_line) .none kV44 dc44 pm44 an44 cd44 ct44), sl44⟩)
    (c44 : PySem.W.codeIn K cd44 "_law_line" = true)
    (k44 : PySem.W.keepIn K (.ref f44) = true)
    (a45 : PySem.W.nsIn K mainGlobals "_law_margin" = some (some (.ref f45)))
    (l45 : K.lookup f45 = some ⟨oc45, od45, .func (PySem.W.fnOf "_law_margin" "_law_margin" (defArgs s__law_margin) (defBody s__law_margin) (defScope s__law_margin) .none kV45 dc45 pm45 an45 cd45 ct45), sl45⟩)
    (c45 : PySem.W.codeIn K cd45 "_law_margin" = true)
    (k45 : PySem.W.keepIn K (.ref f45) = true)
    (a46 : PySem.W.nsIn K mainGlobals "_law_tall" = some (some (.ref f46)))
    (l46 : K.lookup f46 = some ⟨oc46, od46, .func (PySem.W.fnOf "_law_tall" "_law_tall" (defArgs s__law_tall) (defBody s__law_tall) (defScope s__law_tall) .none kV46 dc46 pm46 an46 cd46 ct46), sl46⟩)
    (c46 : PySem.W.codeIn K cd46 "_law_tall" = true)
    (k46 : PySem.W.keepIn K (.ref f46) = true)
    (a47 : PySem.W.nsIn K mainGlobals "_law_page" = some (some (.ref f47)))
    (l47 : K.lookup f47 = some ⟨oc47, od47, .func (PySem.W.fnOf "_law_page" "_law_page" (defArgs s__law_page) (defBody s__law_page) (defScope s__law_page) .none kV47 dc47 pm47 an47 cd47 ct47), sl47⟩)
    (c47 : PySem.W.codeIn K cd47 "_law_page" = true)
    (k47 : PySem.W.keepIn K (.ref f47) = true)
    (a48 : PySem.W.nsIn K mainGlobals "_law_written" = some (some (.ref f48)))
    (l48 : K.lookup f48 = some ⟨oc48, od48, .func (PySem.W.fnOf "_law_written" "_law_written" (defArgs s__law_written) (defBody s__law_written) (defScope s__law_written) .none kV48 dc48 pm48 an48 cd48 ct48), sl48⟩)
    (c48 : PySem.W.codeIn K cd48 "_law_written" = true)
    (k48 : PySem.W.keepIn K (.ref f48) = true)
    (a49 : PySem.W.nsIn K mainGlobals "_law_laid" = some (some (.ref f49)))
    (l49 : K.lookup f49 = some ⟨oc49, od49, .func (PySem.W.fnOf "_law_laid" "_law_laid" (defArgs s__law_laid) (defBody s__law_laid) (defScope s__law_laid) .none kV49 dc49 pm49 an49 cd49 ct49), sl49⟩)
    (c49 : PySem.W.codeIn K cd49 "_law_laid" = true)
    (k49 : PySem.W.keepIn K (.ref f49) = true)
    (a50 : PySem.W.nsIn K mainGlobals "_law_replaced" = some (some (.ref f50)))
    (l50 : K.lookup f50 = some ⟨oc50, od50, .func (PySem.W.fnOf "_law_replaced" "_law_replaced" (defArgs s__law_replaced) (defBody s__law_replaced) (defScope s__law_replaced) .none kV50 dc50 pm50 an50 cd50 ct50), sl50⟩)
    (c50 : PySem.W.codeIn K cd50 "_law_replaced" = true)
    (k50 : PySem.W.keepIn K (.ref f50) = true)
    (a51 : PySem.W.nsIn K mainGlobals "_law_is_tokens" = some (some (.ref f51)))
    (l51 : K.lookup f51 = some ⟨oc51, od51, .func (PySem.W.fnOf "_law_is_tokens" "_law_is_tokens" (defArgs s__law_is_tokens) (defBody s__law_is_tokens) (defScope s__law_is_tokens) .none kV51 dc51 pm51 an51 cd51 ct51), sl51⟩)
    (c51 : PySem.W.codeIn K cd51 "_law_is_tokens" = true)
    (k51 : PySem.W.keepIn K (.ref f51) = true)
    (a52 : PySem.W.nsIn K mainGlobals "_law_is_too_long" = some (some (.ref f52)))
    (l52 : K.lookup f52 = some ⟨oc52, od52, .func (PySem.W.fnOf "_law_is_too_long" "_law_is_too_long" (defArgs s__law_is_too_long) (defBody s__law_is_too_long) (defScope s__law_is_too_long) .none kV52 dc52 pm52 an52 cd52 ct52), sl52⟩)
    (c52 : PySem.W.codeIn K cd52 "_law_is_too_long" = true)
    (k52 : PySem.W.keepIn K (.ref f52) = true)
    (a53 : PySem.W.nsIn K mainGlobals "law" = some (some (.ref f53)))
    (l53 : K.lookup f53 = some ⟨oc53, od53, .func (PySem.W.fnOf "law" "law" (defArgs s_law) (defBody s_law) (defScope s_law) .none kV53 dc53 pm53 an53 cd53 ct53), sl53⟩)
    (c53 : PySem.W.codeIn K cd53 "law" = true)
    (k53 : PySem.W.keepIn K (.ref f53) = true)
    (z_bool : PySem.W.nsIn K mainGlobals "bool" = some none)
    (z_enumerate : PySem.W.nsIn K mainGlobals "enumerate" = some none)
    (z_int : PySem.W.nsIn K mainGlobals "int" = some none)
    (z_isinstance : PySem.W.nsIn K mainGlobals "isinstance" = some none)
    (z_len : PySem.W.nsIn K mainGlobals "len" = some none)
    (z_list : PySem.W.nsIn K mainGlobals "list" = some none)
    (z_ord : PySem.W.nsIn K mainGlobals "ord" = some none)
    (z_range : PySem.W.nsIn K mainGlobals "range" = some none)
    (z_reversed : PySem.W.nsIn K mainGlobals "reversed" = some none)
    (z_str : PySem.W.nsIn K mainGlobals "str" = some none)
    (z_tuple : PySem.W.nsIn K mainGlobals "tuple" = some none)
    (q_PERCENT : PySem.W.nsIn K mainGlobals "PERCENT" = some (some (.int 37 t_PERCENT)))
    (q_NAME_LIMIT : PySem.W.nsIn K mainGlobals "NAME_LIMIT" = some (some (.int 30 t_NAME_LIMIT)))
    (q_NUMBER_LIMIT : PySem.W.nsIn K mainGlobals "NUMBER_LIMIT" = some (some (.int 40 t_NUMBER_LIMIT)))
    (q_TEXT_LIMIT : PySem.W.nsIn K mainGlobals "TEXT_LIMIT" = some (some (.int 6000 t_TEXT_LIMIT)))
    (q_ROW_LIMIT : PySem.W.nsIn K mainGlobals "ROW_LIMIT" = some (some (.int 120 t_ROW_LIMIT)))
    (q_TOKEN_LIMIT : PySem.W.nsIn K mainGlobals "TOKEN_LIMIT" = some (some (.int 120 t_TOKEN_LIMIT)))
    (q_INDENT_LIMIT : PySem.W.nsIn K mainGlobals "INDENT_LIMIT" = some (some (.int 11 t_INDENT_LIMIT)))
    (q_KEYWORDS : PySem.W.nsIn K mainGlobals "KEYWORDS" = some (some (.ref a_KEYWORDS)))
    (l_KEYWORDS : K.lookup a_KEYWORDS = some ⟨.type "tuple", od_KEYWORDS, .seq its_KEYWORDS n_KEYWORDS, sl_KEYWORDS⟩)
    (v_KEYWORDS : its_KEYWORDS.toList.map absV = KW.map (fun l => some (V.str (S l))))
    (w_KEYWORDS : its_KEYWORDS.size ≤ 1000)
    (q_SIGNS : PySem.W.nsIn K mainGlobals "SIGNS" = some (some (.ref a_SIGNS)))
    (l_SIGNS : K.lookup a_SIGNS = some ⟨.type "tuple", od_SIGNS, .seq its_SIGNS n_SIGNS, sl_SIGNS⟩)
    (v_SIGNS : its_SIGNS.toList.map absV = SG.map (fun l => some (V.str (S l))))
    (w_SIGNS : its_SIGNS.size ≤ 1000)
    (q_OPENING : PySem.W.nsIn K mainGlobals "OPENING" = some (some (.ref a_OPENING)))
    (l_OPENING : K.lookup a_OPENING = some ⟨.type "tuple", od_OPENING, .seq its_OPENING n_OPENING, sl_OPENING⟩)
    (v_OPENING : its_OPENING.toList.map absV = OPN.map (fun l => some (V.str (S l))))
    (w_OPENING : its_OPENING.size ≤ 1000)
    (q_ESCAPES : PySem.W.nsIn K mainGlobals "ESCAPES" = some (some (.ref a_ESCAPES)))
    (l_ESCAPES : K.lookup a_ESCAPES = some ⟨.type "dict", none, .dict #[⟨hESCAPES0, .str (Str.ofString "n") tESCAPES0, .str (Str.ofString "\n") uESCAPES0⟩, ⟨hESCAPES1, .str (Str.ofString "\\") tESCAPES1, .str (Str.ofString "\\") uESCAPES1⟩, ⟨hESCAPES2, .str (Str.ofString "'") tESCAPES2, .str (Str.ofString "'") uESCAPES2⟩, ⟨hESCAPES3, .str (Str.ofString "\"") tESCAPES3, .str (Str.ofString "\"") uESCAPES3⟩] n_ESCAPES, #[]⟩)
    (w_ESCAPES : (a_ESCAPES == sysModules) = false)
    (eESCAPES0 : hESCAPES0 = PyData.keyHash w.params (Str.ofString "n"))
    (eESCAPES1 : hESCAPES1 = PyData.keyHash w.params (Str.ofString "\\"))
    (eESCAPES2 : hESCAPES2 = PyData.keyHash w.params (Str.ofString "'"))
    (eESCAPES3 : hESCAPES3 = PyData.keyHash w.params (Str.ofString "\""))
    (q_CLOSING : PySem.W.nsIn K mainGlobals "CLOSING" = some (some (.ref a_CLOSING)))
    (l_CLOSING : K.lookup a_CLOSING = some ⟨.type "dict", none, .dict #[⟨hCLOSING0, .str (Str.ofString ")") tCLOSING0, .str (Str.ofString "(") uCLOSING0⟩, ⟨hCLOSING1, .str (Str.ofString "]") tCLOSING1, .str (Str.ofString "[") uCLOSING1⟩, ⟨hCLOSING2, .str (Str.ofString "}") tCLOSING2, .str (Str.ofString "{") uCLOSING2⟩] n_CLOSING, #[]⟩)
    (w_CLOSING : (a_CLOSING == sysModules) = false)
    (eCLOSING0 : hCLOSING0 = PyData.keyHash w.params (Str.ofString ")"))
    (eCLOSING1 : hCLOSING1 = PyData.keyHash w.params (Str.ofString "]"))
    (eCLOSING2 : hCLOSING2 = PyData.keyHash w.params (Str.ofString "}"))
    (gS : PySem.W.nsIn K mainGlobals "Scanner" = some (some (.ref CC)))
    (pgS : PySem.W.plainGet K CC Str.empty = true)
    (hdS : PySem.W.hasDictIn K CC = true)
    (poS : PySem.W.plainOver K CC = true)
    (saS : PySem.W.findIn K (.ref CC) "__setattr__" = some (some (.builtin "object.__setattr__")))
    (mkS : PySem.W.makesIn K CC = true)
    (kcS : PySem.W.keepIn K (.ref CC) = true)
    (n_marks : PySem.W.findIn K (.ref CC) "marks" = some none)
    (n_brackets : PySem.W.findIn K (.ref CC) "brackets" = some none)
    (n_indents : PySem.W.findIn K (.ref CC) "indents" = some none)
    (n_many : PySem.W.findIn K (.ref CC) "many" = some none)
    (n_behind : PySem.W.findIn K (.ref CC) "behind" = some none)
    (g_0 : PySem.W.nsIn K mainGlobals "BadSign" = some (some (.ref C0)))
    (o_0 : K.lookup C0 = some (excClassObj nm0x q0x C0 N0x bs0x bm0x true sn0x sub0x ab0x col0x dd0x k00x k10x k20x k30x k50x "ValueError.__new__"))
    (r_0 : PySem.HandSPX.refsVE bm0x = true)
    (sa_0 : PySem.W.findIn K (.ref C0) "__setattr__" = some (some (.builtin "object.__setattr__")))
    (xb_0 : PySem.W.subIn K (.ref C0) (.type "BaseException") = some true)
    (ty_0 : PySem.W.typeIn K (.ref C0) = some (.type "type"))
    (kc_0 : PySem.W.keepIn K (.ref C0) = true)
    (nl_0 : PySem.W.findIn K (.ref C0) "line" = some none)
    (nc_0 : PySem.W.findIn K (.ref C0) "column" = some none)
    (hg_0 : PySem.W.findIn K (.ref C0) "__getattribute__" = some (some (.builtin "BaseException.__getattribute__")))
    (hk_0 : PySem.W.findIn K (.ref C0) "__getattr__" = some none)
    (hd_0 : PySem.W.hasDictIn K C0 = true)
    (ss_0S : PySem.W.subIn K (.ref C0) (.ref CS) = some true)
    (g_1 : PySem.W.nsIn K mainGlobals "BadToken" = some (some (.ref C1)))
    (o_1 : K.lookup C1 = some (excClassObj nm1x q1x C1 N1x bs1x bm1x true sn1x sub1x ab1x col1x dd1x k01x k11x k21x k31x k51x "ValueError.__new__"))
    (r_1 : PySem.HandSPX.refsVE bm1x = true)
    (sa_1 : PySem.W.findIn K (.ref C1) "__setattr__" = some (some (.builtin "object.__setattr__")))
    (xb_1 : PySem.W.subIn K (.ref C1) (.type "BaseException") = some true)
    (ty_1 : PySem.W.typeIn K (.ref C1) = some (.type "type"))
    (kc_1 : PySem.W.keepIn K (.ref C1) = true)
    (nl_1 : PySem.W.findIn K (.ref C1) "line" = some none)
    (nc_1 : PySem.W.findIn K (.ref C1) "column" = some none)
    (hg_1 : PySem.W.findIn K (.ref C1) "__getattribute__" = some (some (.builtin "BaseException.__getattribute__")))
    (hk_1 : PySem.W.findIn K (.ref C1) "__getattr__" = some none)
    (hd_1 : PySem.W.hasDictIn K C1 = true)
    (ss_1S : PySem.W.subIn K (.ref C1) (.ref CS) = some true)
    (g_2 : PySem.W.nsIn K mainGlobals "BadIndent" = some (some (.ref C2)))
    (o_2 : K.lookup C2 = some (excClassObj nm2x q2x C2 N2x bs2x bm2x true sn2x sub2x ab2x col2x dd2x k02x k12x k22x k32x k52x "ValueError.__new__"))
    (r_2 : PySem.HandSPX.refsVE bm2x = true)
    (sa_2 : PySem.W.findIn K (.ref C2) "__setattr__" = some (some (.builtin "object.__setattr__")))
    (xb_2 : PySem.W.subIn K (.ref C2) (.type "BaseException") = some true)
    (ty_2 : PySem.W.typeIn K (.ref C2) = some (.type "type"))
    (kc_2 : PySem.W.keepIn K (.ref C2) = true)
    (nl_2 : PySem.W.findIn K (.ref C2) "line" = some none)
    (nc_2 : PySem.W.findIn K (.ref C2) "column" = some none)
    (hg_2 : PySem.W.findIn K (.ref C2) "__getattribute__" = some (some (.builtin "BaseException.__getattribute__")))
    (hk_2 : PySem.W.findIn K (.ref C2) "__getattr__" = some none)
    (hd_2 : PySem.W.hasDictIn K C2 = true)
    (ss_2S : PySem.W.subIn K (.ref C2) (.ref CS) = some true)
    (g_3 : PySem.W.nsIn K mainGlobals "TooLong" = some (some (.ref C3)))
    (o_3 : K.lookup C3 = some (excClassObj nm3x q3x C3 N3x bs3x bm3x true sn3x sub3x ab3x col3x dd3x k03x k13x k23x k33x k53x "ValueError.__new__"))
    (r_3 : PySem.HandSPX.refsVE bm3x = true)
    (sa_3 : PySem.W.findIn K (.ref C3) "__setattr__" = some (some (.builtin "object.__setattr__")))
    (xb_3 : PySem.W.subIn K (.ref C3) (.type "BaseException") = some true)
    (ty_3 : PySem.W.typeIn K (.ref C3) = some (.type "type"))
    (kc_3 : PySem.W.keepIn K (.ref C3) = true)
    (nl_3 : PySem.W.findIn K (.ref C3) "line" = some none)
    (nc_3 : PySem.W.findIn K (.ref C3) "column" = some none)
    (hg_3 : PySem.W.findIn K (.ref C3) "__getattribute__" = some (some (.builtin "BaseException.__getattribute__")))
    (hk_3 : PySem.W.findIn K (.ref C3) "__getattr__" = some none)
    (hd_3 : PySem.W.hasDictIn K C3 = true)
    (ss_3S : PySem.W.subIn K (.ref C3) (.ref CS) = some true)
    (g_4 : PySem.W.nsIn K mainGlobals "TooDeep" = some (some (.ref C4)))
    (o_4 : K.lookup C4 = some (excClassObj nm4x q4x C4 N4x bs4x bm4x true sn4x sub4x ab4x col4x dd4x k04x k14x k24x k34x k54x "ValueError.__new__"))
    (r_4 : PySem.HandSPX.refsVE bm4x = true)
    (sa_4 : PySem.W.findIn K (.ref C4) "__setattr__" = some (some (.builtin "object.__setattr__")))
    (xb_4 : PySem.W.subIn K (.ref C4) (.type "BaseException") = some true)
    (ty_4 : PySem.W.typeIn K (.ref C4) = some (.type "type"))
    (kc_4 : PySem.W.keepIn K (.ref C4) = true)
    (nl_4 : PySem.W.findIn K (.ref C4) "line" = some none)
    (nc_4 : PySem.W.findIn K (.ref C4) "column" = some none)
    (hg_4 : PySem.W.findIn K (.ref C4) "__getattribute__" = some (some (.builtin "BaseException.__getattribute__")))
    (hk_4 : PySem.W.findIn K (.ref C4) "__getattr__" = some none)
    (hd_4 : PySem.W.hasDictIn K C4 = true)
    (ss_4S : PySem.W.subIn K (.ref C4) (.ref CS) = some true)
    (cl_3 : PySem.W.isClsIn K C3 = true)
    (ha_3 : PySem.W.findIn K (.ref C3) "__class__" = some (some (.builtin "object.__class__")))
    (hm_3 : PySem.W.mroIn K C3 (.type "object") = some true)
    (hn : PySem.W.specialIn K (.builtin "object.__class__") "__get__" = some (some (.builtin "getset_descriptor.__get__")))
    (ht : PySem.W.takesIn K (.builtin "object.__class__") = some true)
    (g_S : PySem.W.nsIn K mainGlobals "SourceError" = some (some (.ref CS)))
    (ty_S : PySem.W.typeIn K (.ref CS) = some (.type "type"))
    (xb_S : PySem.W.subIn K (.ref CS) (.type "BaseException") = some true)
    (hd_S : PySem.W.hasDictIn K CS = true) :
    ∃ fd : FuncData, (∀ (s : Shared) (v : Value), BindsTo s fd ⟨[v], []⟩ [("script", v)]) ∧ ∀ base : Heap, K.In base → base.Ns mainGlobals mg → FnOk l.prog w K mg base CX0 8 fa fd ["script"] (spLaw K) := by
  have e := hfa.symm.trans (PySem.W.mg_of X G a53)
  cases e
  have g1 : ∃ fI fd, (∀ k : Er, PySem.W.findIn K (.ref (ecf C0 C1 C2 C3 C4 k)) "__init__" = some (some (.ref fI))) ∧ PySem.W.typeIn K (.ref fI) = some (.type "function") ∧ Binds K fd p_SourceError___init__ [] ∧ Fun K "__init__" "SourceError.__init__" s_SourceError___init__ fI fd := ⟨_, _, (fun k => by cases k <;> assumption), i1, ((fun_mk (st := s_SourceError___init__) l1 c1 k1).binds (ps := p_SourceError___init__) fun _ _ _ _ _ _ us hl => match us, hl with | [_, _, _], _ => rfl), (fun_mk (st := s_SourceError___init__) l1 c1 k1)⟩
  have g2 : Gv K mg "is_row" s_is_row p_is_row := ⟨_, _, (fun_mk (st := s_is_row) l2 c2 k2), PySem.W.mg_of X G a2, ((fun_mk (st := s_is_row) l2 c2 k2).binds (ps := p_is_row) fun _ _ _ _ _ _ us hl => match us, hl with | [_], _ => rfl)⟩
  have g3 : Gv K mg "is_letter" s_is_letter p_is_letter := ⟨_, _, (fun_mk (st := s_is_letter) l3 c3 k3), PySem.W.mg_of X G a3, ((fun_mk (st := s_is_letter) l3 c3 k3).binds (ps := p_is_letter) fun _ _ _ _ _ _ us hl => match us, hl with | [_], _ => rfl)⟩
  have g4 : Gv K mg "is_digit" s_is_digit p_is_digit := ⟨_, _, (fun_mk (st := s_is_digit) l4 c4 k4), PySem.W.mg_of X G a4, ((fun_mk (st := s_is_digit) l4 c4 k4).binds (ps := p_is_digit) fun _ _ _ _ _ _ us hl => match us, hl with | [_], _ => rfl)⟩
  have g5 : Gv K mg "digits_end" s_digits_end p_digits_end := ⟨_, _, (fun_mk (st := s_digits_end) l5 c5 k5), PySem.W.mg_of X G a5, ((fun_mk (st := s_digits_end) l5 c5 k5).binds (ps := p_digits_end) fun _ _ _ _ _ _ us hl => match us, hl with | [_, _], _ => rfl)⟩
  have g6 : Gv K mg "name_end" s_name_end p_name_end := ⟨_, _, (fun_mk (st := s_name_end) l6 c6 k6), PySem.W.mg_of X G a6, ((fun_mk (st := s_name_end) l6 c6 k6).binds (ps := p_name_end) fun _ _ _ _ _ _ us hl => match us, hl with | [_, _], _ => rfl)⟩
  have g7 : Gv K mg "quoted" s_quoted p_quoted := ⟨_, _, (fun_mk (st := s_quoted) l7 c7 k7), PySem.W.mg_of X G a7, ((fun_mk (st := s_quoted) l7 c7 k7).binds (ps := p_quoted) fun _ _ _ _ _ _ us hl => match us, hl with | [_], _ => rfl)⟩
  have g8 : Gv K mg "scan_token" s_scan_token p_scan_token := ⟨_, _, (fun_mk (st := s_scan_token) l8 c8 k8), PySem.W.mg_of X G a8, ((fun_mk (st := s_scan_token) l8 c8 k8).binds (ps := p_scan_token) fun _ _ _ _ _ _ us hl => match us, hl with | [_, _, _], _ => rfl)⟩
  have g9 : Gv K mg "scan_name" s_scan_name p_scan_name := ⟨_, _, (fun_mk (st := s_scan_name) l9 c9 k9), PySem.W.mg_of X G a9, ((fun_mk (st := s_scan_name) l9 c9 k9).binds (ps := p_scan_name) fun _ _ _ _ _ _ us hl => match us, hl with | [_, _, _], _ => rfl)⟩
  have g10 : Gv K mg "scan_number" s_scan_number p_scan_number := ⟨_, _, (fun_mk (st := s_scan_number) l10 c10 k10), PySem.W.mg_of X G a10, ((fun_mk (st := s_scan_number) l10 c10 k10).binds (ps := p_scan_number) fun _ _ _ _ _ _ us hl => match us, hl with | [_, _, _], _ => rfl)⟩
  have g11 : Gv K mg "scan_text" s_scan_text p_scan_text := ⟨_, _, (fun_mk (st := s_scan_text) l11 c11 k11), PySem.W.mg_of X G a11, ((fun_mk (st := s_scan_text) l11 c11 k11).binds (ps := p_scan_text) fun _ _ _ _ _ _ us hl => match us, hl with | [_, _, _], _ => rfl)⟩
  have g12 : Gv K mg "scan_sign" s_scan_sign p_scan_sign := ⟨_, _, (fun_mk (st := s_scan_sign) l12 c12 k12), PySem.W.mg_of X G a12, ((fun_mk (st := s_scan_sign) l12 c12 k12).binds (ps := p_scan_sign) fun _ _ _ _ _ _ us hl => match us, hl with | [_, _, _], _ => rfl)⟩
  have g13 : ∃ fI fd, L2.Mk K CC fI ∧ Binds K fd p_Scanner___init__ [] ∧ Fun K "__init__" "Scanner.__init__" s_Scanner___init__ fI fd := ⟨_, _, ⟨mkS, a13, i13, kcS⟩, ((fun_mk (st := s_Scanner___init__) l13 c13 k13).binds (ps := p_Scanner___init__) fun _ _ _ _ _ _ us hl => match us, hl with | [_], _ => rfl), (fun_mk (st := s_Scanner___init__) l13 c13 k13)⟩
  have g14 : Gvm K CC "scan_row" "Scanner.scan_row" s_Scanner_scan_row p_Scanner_scan_row := ⟨_, _, (fun_mk (st := s_Scanner_scan_row) l14 c14 k14), ⟨a14, i14, k14⟩, ((fun_mk (st := s_Scanner_scan_row) l14 c14 k14).binds (ps := p_Scanner_scan_row) fun _ _ _ _ _ _ us hl => match us, hl with | [_, _, _], _ => rfl)⟩
  have g15 : Gvm K CC "begin_line" "Scanner.begin_line" s_Scanner_begin_line p_Scanner_begin_line := ⟨_, _, (fun_mk (st := s_Scanner_begin_line) l15 c15 k15), ⟨a15, i15, k15⟩, ((fun_mk (st := s_Scanner_begin_line) l15 c15 k15).binds (ps := p_Scanner_begin_line) fun _ _ _ _ _ _ us hl => match us, hl with | [_, _, _], _ => rfl)⟩
  have g16 : Gvm K CC "gather" "Scanner.gather" s_Scanner_gather p_Scanner_gather := ⟨_, _, (fun_mk (st := s_Scanner_gather) l16 c16 k16), ⟨a16, i16, k16⟩, ((fun_mk (st := s_Scanner_gather) l16 c16 k16).binds (ps := p_Scanner_gather) fun _ _ _ _ _ _ us hl => match us, hl with | [_, _], _ => rfl)⟩
  have g17 : Gvm K CC "match_bracket" "Scanner.match_bracket" s_Scanner_match_bracket p_Scanner_match_bracket := ⟨_, _, (fun_mk (st := s_Scanner_match_bracket) l17 c17 k17), ⟨a17, i17, k17⟩, ((fun_mk (st := s_Scanner_match_bracket) l17 c17 k17).binds (ps := p_Scanner_match_bracket) fun _ _ _ _ _ _ us hl => match us, hl with | [_, _], _ => rfl)⟩
  have g18 : Gvm K CC "end_line" "Scanner.end_line" s_Scanner_end_line p_Scanner_end_line := ⟨_, _, (fun_mk (st := s_Scanner_end_line) l18 c18 k18), ⟨a18, i18, k18⟩, ((fun_mk (st := s_Scanner_end_line) l18 c18 k18).binds (ps := p_Scanner_end_line) fun _ _ _ _ _ _ us hl => match us, hl with | [_, _], _ => rfl)⟩
  have g19 : Gvm K CC "end_text" "Scanner.end_text" s_Scanner_end_text p_Scanner_end_text := ⟨_, _, (fun_mk (st := s_Scanner_end_text) l19 c19 k19), ⟨a19, i19, k19⟩, ((fun_mk (st := s_Scanner_end_text) l19 c19 k19).binds (ps := p_Scanner_end_text) fun _ _ _ _ _ _ us hl => match us, hl with | [_], _ => rfl)⟩
  have g20 : Gv K mg "tokens" s_tokens p_tokens := ⟨_, _, (fun_mk (st := s_tokens) l20 c20 k20), PySem.W.mg_of X G a20, ((fun_mk (st := s_tokens) l20 c20 k20).binds (ps := p_tokens) fun _ _ _ _ _ _ us hl => match us, hl with | [_], _ => rfl)⟩
  have g21 : Gv K mg "checked_rows" s_checked_rows p_checked_rows := ⟨_, _, (fun_mk (st := s_checked_rows) l21 c21 k21), PySem.W.mg_of X G a21, ((fun_mk (st := s_checked_rows) l21 c21 k21).binds (ps := p_checked_rows) fun _ _ _ _ _ _ us hl => match us, hl with | [_], _ => rfl)⟩
  have g22 : Gv K mg "check_letters" s_check_letters p_check_letters := ⟨_, _, (fun_mk (st := s_check_letters) l22 c22 k22), PySem.W.mg_of X G a22, ((fun_mk (st := s_check_letters) l22 c22 k22).binds (ps := p_check_letters) fun _ _ _ _ _ _ us hl => match us, hl with | [_, _], _ => rfl)⟩
  have g23 : Gv K mg "spaces_end" s_spaces_end p_spaces_end := ⟨_, _, (fun_mk (st := s_spaces_end) l23 c23 k23), PySem.W.mg_of X G a23, ((fun_mk (st := s_spaces_end) l23 c23 k23).binds (ps := p_spaces_end) fun _ _ _ _ _ _ us hl => match us, hl with | [_, _], _ => rfl)⟩
  have g24 : Gv K mg "layout" s_layout p_layout := ⟨_, _, (fun_mk (st := s_layout) l24 c24 k24), PySem.W.mg_of X G a24, ((fun_mk (st := s_layout) l24 c24 k24).binds (ps := p_layout) fun _ _ _ _ _ _ us hl => match us, hl with | [_], _ => rfl)⟩
  have g25 : Gv K mg "written" s_written p_written := ⟨_, _, (fun_mk (st := s_written) l25 c25 k25), PySem.W.mg_of X G a25, ((fun_mk (st := s_written) l25 c25 k25).binds (ps := p_written) fun _ _ _ _ _ _ us hl => match us, hl with | [_, _], _ => rfl)⟩
  have g26 : Gv K mg "_law_bag" s__law_bag p__law_bag := ⟨_, _, (fun_mk (st := s__law_bag) l26 c26 k26), PySem.W.mg_of X G a26, ((fun_mk (st := s__law_bag) l26 c26 k26).binds (ps := p__law_bag) fun _ _ _ _ _ _ us hl => match us, hl with | [_, _], _ => rfl)⟩
  have g27 : Gv K mg "_law_take" s__law_take p__law_take := ⟨_, _, (fun_mk (st := s__law_take) l27 c27 k27), PySem.W.mg_of X G a27, ((fun_mk (st := s__law_take) l27 c27 k27).binds (ps := p__law_take) fun _ _ _ _ _ _ us hl => match us, hl with | [_, _], _ => rfl)⟩
  have g28 : Gv K mg "_law_whole" s__law_whole p__law_whole := ⟨_, _, (fun_mk (st := s__law_whole) l28 c28 k28), PySem.W.mg_of X G a28, ((fun_mk (st := s__law_whole) l28 c28 k28).binds (ps := p__law_whole) fun _ _ _ _ _ _ us hl => match us, hl with | [_], _ => rfl)⟩
  have g29 : Gv K mg "_law_signs" s__law_signs p__law_signs := ⟨_, _, (fun_mk (st := s__law_signs) l29 c29 k29), PySem.W.mg_of X G a29, ((fun_mk (st := s__law_signs) l29 c29 k29).binds (ps := p__law_signs) fun _ _ _ _ _ _ us hl => match us, hl with | [], _ => rfl)⟩
  have g30 : Gv K mg "_law_keywords" s__law_keywords p__law_keywords := ⟨_, _, (fun_mk (st := s__law_keywords) l30 c30 k30), PySem.W.mg_of X G a30, ((fun_mk (st := s__law_keywords) l30 c30 k30).binds (ps := p__law_keywords) fun _ _ _ _ _ _ us hl => match us, hl with | [], _ => rfl)⟩
  have g31 : Gv K mg "_law_letters" s__law_letters p__law_letters := ⟨_, _, (fun_mk (st := s__law_letters) l31 c31 k31), PySem.W.mg_of X G a31, ((fun_mk (st := s__law_letters) l31 c31 k31).binds (ps := p__law_letters) fun _ _ _ _ _ _ us hl => match us, hl with | [], _ => rfl)⟩
  have g32 : Gv K mg "_law_allowed" s__law_allowed p__law_allowed := ⟨_, _, (fun_mk (st := s__law_allowed) l32 c32 k32), PySem.W.mg_of X G a32, ((fun_mk (st := s__law_allowed) l32 c32 k32).binds (ps := p__law_allowed) fun _ _ _ _ _ _ us hl => match us, hl with | [], _ => rfl)⟩
  have g33 : Gv K mg "_law_name" s__law_name p__law_name := ⟨_, _, (fun_mk (st := s__law_name) l33 c33 k33), PySem.W.mg_of X G a33, ((fun_mk (st := s__law_name) l33 c33 k33).binds (ps := p__law_name) fun _ _ _ _ _ _ us hl => match us, hl with | [_, _], _ => rfl)⟩
  have g34 : Gv K mg "_law_figures" s__law_figures p__law_figures := ⟨_, _, (fun_mk (st := s__law_figures) l34 c34 k34), PySem.W.mg_of X G a34, ((fun_mk (st := s__law_figures) l34 c34 k34).binds (ps := p__law_figures) fun _ _ _ _ _ _ us hl => match us, hl with | [_, _], _ => rfl)⟩
  have g35 : Gv K mg "_law_quoted" s__law_quoted p__law_quoted := ⟨_, _, (fun_mk (st := s__law_quoted) l35 c35 k35), PySem.W.mg_of X G a35, ((fun_mk (st := s__law_quoted) l35 c35 k35).binds (ps := p__law_quoted) fun _ _ _ _ _ _ us hl => match us, hl with | [_, _], _ => rfl)⟩
  have g36 : Gv K mg "_law_word" s__law_word p__law_word := ⟨_, _, (fun_mk (st := s__law_word) l36 c36 k36), PySem.W.mg_of X G a36, ((fun_mk (st := s__law_word) l36 c36 k36).binds (ps := p__law_word) fun _ _ _ _ _ _ us hl => match us, hl with | [_, _], _ => rfl)⟩
  have g37 : Gv K mg "_law_comment" s__law_comment p__law_comment := ⟨_, _, (fun_mk (st := s__law_comment) l37 c37 k37), PySem.W.mg_of X G a37, ((fun_mk (st := s__law_comment) l37 c37 k37).binds (ps := p__law_comment) fun _ _ _ _ _ _ us hl => match us, hl with | [_], _ => rfl)⟩
  have g38 : Gv K mg "_law_must_part" s__law_must_part p__law_must_part := ⟨_, _, (fun_mk (st := s__law_must_part) l38 c38 k38), PySem.W.mg_of X G a38, ((fun_mk (st := s__law_must_part) l38 c38 k38).binds (ps := p__law_must_part) fun _ _ _ _ _ _ us hl => match us, hl with | [_, _], _ => rfl)⟩
  have g39 : Gv K mg "_law_put" s__law_put p__law_put := ⟨_, _, (fun_mk (st := s__law_put) l39 c39 k39), PySem.W.mg_of X G a39, ((fun_mk (st := s__law_put) l39 c39 k39).binds (ps := p__law_put) fun _ _ _ _ _ _ us hl => match us, hl with | [_, _, _, _], _ => rfl)⟩
  have g40 : Gv K mg "_law_close_row" s__law_close_row p__law_close_row := ⟨_, _, (fun_mk (st := s__law_close_row) l40 c40 k40), PySem.W.mg_of X G a40, ((fun_mk (st := s__law_close_row) l40 c40 k40).binds (ps := p__law_close_row) fun _ _ _ _ _ _ us hl => match us, hl with | [_], _ => rfl)⟩
  have g41 : Gv K mg "_law_row_end" s__law_row_end p__law_row_end := ⟨_, _, (fun_mk (st := s__law_row_end) l41 c41 k41), PySem.W.mg_of X G a41, ((fun_mk (st := s__law_row_end) l41 c41 k41).binds (ps := p__law_row_end) fun _ _ _ _ _ _ us hl => match us, hl with | [_, _], _ => rfl)⟩
  have g42 : Gv K mg "_law_lay" s__law_lay p__law_lay := ⟨_, _, (fun_mk (st := s__law_lay) l42 c42 k42), PySem.W.mg_of X G a42, ((fun_mk (st := s__law_lay) l42 c42 k42).binds (ps := p__law_lay) fun _ _ _ _ _ _ us hl => match us, hl with | [_, _, _, _], _ => rfl)⟩
  have g43 : Gv K mg "_law_broken" s__law_broken p__law_broken := ⟨_, _, (fun_mk (st := s__law_broken) l43 c43 k43), PySem.W.mg_of X G a43, ((fun_mk (st := s__law_broken) l43 c43 k43).binds (ps := p__law_broken) fun _ _ _ _ _ _ us hl => match us, hl with | [_, _, _, _, _], _ => rfl)⟩
  have g44 : Gv K mg "_law_line" s__law_line p__law_line := ⟨_, _, (fun_mk (st := s__law_line) l44 c44 k44), PySem.W.mg_of X G a44, ((fun_mk (st := s__law_line) l44 c44 k44).binds (ps := p__law_line) fun _ _ _ _ _ _ us hl => match us, hl with | [_, _, _, _], _ => rfl)⟩
  have g45 : Gv K mg "_law_margin" s__law_margin p__law_margin := ⟨_, _, (fun_mk (st := s__law_margin) l45 c45 k45), PySem.W.mg_of X G a45, ((fun_mk (st := s__law_margin) l45 c45 k45).binds (ps := p__law_margin) fun _ _ _ _ _ _ us hl => match us, hl with | [_, _, _, _], _ => rfl)⟩
  have g46 : Gv K mg "_law_tall" s__law_tall p__law_tall := ⟨_, _, (fun_mk (st := s__law_tall) l46 c46 k46), PySem.W.mg_of X G a46, ((fun_mk (st := s__law_tall) l46 c46 k46).binds (ps := p__law_tall) fun _ _ _ _ _ _ us hl => match us, hl with | [_, _, _], _ => rfl)⟩
  have g47 : Gv K mg "_law_page" s__law_page p__law_page := ⟨_, _, (fun_mk (st := s__law_page) l47 c47 k47), PySem.W.mg_of X G a47, ((fun_mk (st := s__law_page) l47 c47 k47).binds (ps := p__law_page) fun _ _ _ _ _ _ us hl => match us, hl with | [_], _ => rfl)⟩
  have g48 : Gv K mg "_law_written" s__law_written p__law_written := ⟨_, _, (fun_mk (st := s__law_written) l48 c48 k48), PySem.W.mg_of X G a48, ((fun_mk (st := s__law_written) l48 c48 k48).binds (ps := p__law_written) fun _ _ _ _ _ _ us hl => match us, hl with | [_, _], _ => rfl)⟩
  have g49 : Gv K mg "_law_laid" s__law_laid p__law_laid := ⟨_, _, (fun_mk (st := s__law_laid) l49 c49 k49), PySem.W.mg_of X G a49, ((fun_mk (st := s__law_laid) l49 c49 k49).binds (ps := p__law_laid) fun _ _ _ _ _ _ us hl => match us, hl with | [_], _ => rfl)⟩
  have g50 : Gv K mg "_law_replaced" s__law_replaced p__law_replaced := ⟨_, _, (fun_mk (st := s__law_replaced) l50 c50 k50), PySem.W.mg_of X G a50, ((fun_mk (st := s__law_replaced) l50 c50 k50).binds (ps := p__law_replaced) fun _ _ _ _ _ _ us hl => match us, hl with | [_, _], _ => rfl)⟩
  have g51 : Gv K mg "_law_is_tokens" s__law_is_tokens p__law_is_tokens := ⟨_, _, (fun_mk (st := s__law_is_tokens) l51 c51 k51), PySem.W.mg_of X G a51, ((fun_mk (st := s__law_is_tokens) l51 c51 k51).binds (ps := p__law_is_tokens) fun _ _ _ _ _ _ us hl => match us, hl with | [_], _ => rfl)⟩
  have g52 : Gv K mg "_law_is_too_long" s__law_is_too_long p__law_is_too_long := ⟨_, _, (fun_mk (st := s__law_is_too_long) l52 c52 k52), PySem.W.mg_of X G a52, ((fun_mk (st := s__law_is_too_long) l52 c52 k52).binds (ps := p__law_is_too_long) fun _ _ _ _ _ _ us hl => match us, hl with | [_, _], _ => rfl)⟩
  have g53 : Gv K mg "law" s_law p_law := ⟨_, _, (fun_mk (st := s_law) l53 c53 k53), PySem.W.mg_of X G a53, ((fun_mk (st := s_law) l53 c53 k53).binds (ps := p_law) fun _ _ _ _ _ _ us hl => match us, hl with | [_], _ => rfl)⟩
  have D_ESCAPES : DictT K w mg "ESCAPES" escV := by
    have sN : (Str.ofString "n") = S [110] ∧ (Str.ofString "\n") = S [10] ∧ (Str.ofString "\\") = S [92] ∧ (Str.ofString "'") = S [39] ∧ (Str.ofString "\"") = S [34] := by decide +kernel
    obtain ⟨s0, s1, s2, s3, s4⟩ := sN
    rw [s0, s1, s2, s3, s4] at l_ESCAPES
    rw [s0] at eESCAPES0
    rw [s2] at eESCAPES1
    rw [s3] at eESCAPES2
    rw [s4] at eESCAPES3
    exact dictT_of escP escV_get (PySem.W.mg_of X G q_ESCAPES) w_ESCAPES l_ESCAPES ⟨⟨_, _, _, rfl, eESCAPES0⟩, ⟨_, _, _, rfl, eESCAPES1⟩, ⟨_, _, _, rfl, eESCAPES2⟩, ⟨_, _, _, rfl, eESCAPES3⟩, trivial⟩
  have D_CLOSING : DictT K w mg "CLOSING" cloV := by
    have sN : (Str.ofString ")") = S [41] ∧ (Str.ofString "(") = S [40] ∧ (Str.ofString "]") = S [93] ∧ (Str.ofString "[") = S [91] ∧ (Str.ofString "}") = S [125] ∧ (Str.ofString "{") = S [123] := by decide +kernel
    obtain ⟨s0, s1, s2, s3, s4, s5⟩ := sN
    rw [s0, s1, s2, s3, s4, s5] at l_CLOSING
    rw [s0] at eCLOSING0
    rw [s2] at eCLOSING1
    rw [s4] at eCLOSING2
    exact dictT_of cloP cloV_get (PySem.W.mg_of X G q_CLOSING) w_CLOSING l_CLOSING ⟨⟨_, _, _, rfl, eCLOSING0⟩, ⟨_, _, _, rfl, eCLOSING1⟩, ⟨_, _, _, rfl, eCLOSING2⟩, trivial⟩
  have T : Txt K w mg := { z_bool := PySem.W.mg_none_of X G z_bool, z_enumerate := PySem.W.mg_none_of X G z_enumerate, z_int := PySem.W.mg_none_of X G z_int, z_isinstance := PySem.W.mg_none_of X G z_isinstance, z_len := PySem.W.mg_none_of X G z_len, z_list := PySem.W.mg_none_of X G z_list, z_ord := PySem.W.mg_none_of X G z_ord, z_range := PySem.W.mg_none_of X G z_range, z_reversed := PySem.W.mg_none_of X G z_reversed, z_str := PySem.W.mg_none_of X G z_str, z_tuple := PySem.W.mg_none_of X G z_tuple, g_is_row := g2, g_is_letter := g3, g_is_digit := g4, g_digits_end := g5, g_name_end := g6, g_quoted := g7, g_scan_token := g8, g_scan_name := g9, g_scan_number := g10, g_scan_text := g11, g_scan_sign := g12, g_tokens := g20, g_checked_rows := g21, g_check_letters := g22, g_spaces_end := g23, g_layout := g24, g_written := g25, g__law_bag := g26, g__law_take := g27, g__law_whole := g28, g__law_signs := g29, g__law_keywords := g30, g__law_letters := g31, g__law_allowed := g32, g__law_name := g33, g__law_figures := g34, g__law_quoted := g35, g__law_word := g36, g__law_comment := g37, g__law_must_part := g38, g__law_put := g39, g__law_close_row := g40, g__law_row_end := g41, g__law_lay := g42, g__law_broken := g43, g__law_line := g44, g__law_margin := g45, g__law_tall := g46, g__law_page := g47, g__law_written := g48, g__law_laid := g49, g__law_replaced := g50, g__law_is_tokens := g51, g__law_is_too_long := g52, g_law := g53, c_PERCENT := ⟨_, PySem.W.mg_of X G q_PERCENT⟩, c_NAME_LIMIT := ⟨_, PySem.W.mg_of X G q_NAME_LIMIT⟩, c_NUMBER_LIMIT := ⟨_, PySem.W.mg_of X G q_NUMBER_LIMIT⟩, c_TEXT_LIMIT := ⟨_, PySem.W.mg_of X G q_TEXT_LIMIT⟩, c_ROW_LIMIT := ⟨_, PySem.W.mg_of X G q_ROW_LIMIT⟩, c_TOKEN_LIMIT := ⟨_, PySem.W.mg_of X G q_TOKEN_LIMIT⟩, c_INDENT_LIMIT := ⟨_, PySem.W.mg_of X G q_INDENT_LIMIT⟩, c_KEYWORDS := tupT_of (PySem.W.mg_of X G q_KEYWORDS) l_KEYWORDS v_KEYWORDS w_KEYWORDS, c_SIGNS := tupT_of (PySem.W.mg_of X G q_SIGNS) l_SIGNS v_SIGNS w_SIGNS, c_OPENING := tupT_of (PySem.W.mg_of X G q_OPENING) l_OPENING v_OPENING w_OPENING, c_ESCAPES := D_ESCAPES, c_CLOSING := D_CLOSING }
  have SC0 : ScT K mg CC := { cl := ⟨pgS, hdS, poS, saS⟩, gl := PySem.W.mg_of X G gS, n_marks := n_marks, n_brackets := n_brackets, n_indents := n_indents, n_many := n_many, n_behind := n_behind, ini := g13, g_scan_row := g14, g_begin_line := g15, g_gather := g16, g_match_bracket := g17, g_end_line := g18, g_end_text := g19 }
  have oex : ∀ k : Er, OexC K (ecf C0 C1 C2 C3 C4 k) := (fun k => match k with | .sign => ⟨⟨_, _, _, _, _, _, _, _, _, _, _, _, _, _, _, o_0, r_0⟩, sa_0, xb_0, ty_0, kc_0⟩ | .token => ⟨⟨_, _, _, _, _, _, _, _, _, _, _, _, _, _, _, o_1, r_1⟩, sa_1, xb_1, ty_1, kc_1⟩ | .indent => ⟨⟨_, _, _, _, _, _, _, _, _, _, _, _, _, _, _, o_2, r_2⟩, sa_2, xb_2, ty_2, kc_2⟩ | .long => ⟨⟨_, _, _, _, _, _, _, _, _, _, _, _, _, _, _, o_3, r_3⟩, sa_3, xb_3, ty_3, kc_3⟩ | .deep => ⟨⟨_, _, _, _, _, _, _, _, _, _, _, _, _, _, _, o_4, r_4⟩, sa_4, xb_4, ty_4, kc_4⟩)
  refine ⟨PySem.W.fnOf "law" "law" (defArgs s_law) (defBody s_law) (defScope s_law) .none kV53 dc53 pm53 an53 cd53 ct53, fun s v => .of_eq rfl, fun base _ _ => ?_⟩
  have ER : ErrT l.prog w K mg base (ecf C0 C1 C2 C3 C4) := { gl := (fun k => match k with | .sign => PySem.W.mg_of X G g_0 | .token => PySem.W.mg_of X G g_1 | .indent => PySem.W.mg_of X G g_2 | .long => PySem.W.mg_of X G g_3 | .deep => PySem.W.mg_of X G g_4), oex := oex, nl := (fun k => match k with | .sign => nl_0 | .token => nl_1 | .indent => nl_2 | .long => nl_3 | .deep => nl_4), nc := (fun k => match k with | .sign => nc_0 | .token => nc_1 | .indent => nc_2 | .long => nc_3 | .deep => nc_4), ini := g1 }
  have U : KitL K mg (ecf C0 C1 C2 C3 C4) CS := { ex := ⟨cl_3, hg_3, hk_3, xb_3, hd_3, ha_3, hn, ht, hm_3⟩, kk := kit_self, gS := PySem.W.mg_of X G g_S, eS := (fun k => match k with | .sign => PySem.W.exm_ref xb_S hd_S ty_S ss_0S | .token => PySem.W.exm_ref xb_S hd_S ty_S ss_1S | .indent => PySem.W.exm_ref xb_S hd_S ty_S ss_2S | .long => PySem.W.exm_ref xb_S hd_S ty_S ss_3S | .deep => PySem.W.exm_ref xb_S hd_S ty_S ss_4S) }
  have XF : ∀ k : Er, XfC K (ecf C0 C1 C2 C3 C4 k) := (fun k => match k with | .sign => ⟨hg_0, hk_0, xb_0, hd_0⟩ | .token => ⟨hg_1, hk_1, xb_1, hd_1⟩ | .indent => ⟨hg_2, hk_2, xb_2, hd_2⟩ | .long => ⟨hg_3, hk_3, xb_3, hd_3⟩ | .deep => ⟨hg_4, hk_4, xb_4, hd_4⟩)
  obtain ⟨f, fd, hm', hk', hb', ⟨oc, od, osl, lk⟩, F⟩ := all_ok (P := l.prog) (base := base) T ER SC0 U XF
  have e2 : fa = f := Value.ref.inj (Option.some.inj (hfa.symm.trans hm'))
  subst e2
  have e3 := lk.symm.trans l53
  cases e3
  exact F
end D0
open PySem PySem.W PyProof.Rows
set_option maxRecDepth 100000 in
set_option maxHeartbeats 0 in
theorem PySem.Challenge.cw_likerun_k03_whole_layout_again_holds : PySem.Challenge.rw_likerun_k03_whole_layout_again.Holds := by
  w_on; o_law; k_head; (case hw => w_witness2)
  k_fill
  refine L2.walk_of (l := PySem.Challenge.rw_likerun_k03_whole_layout_again) (n := 63) (k := 8) (x := "script") (CX := fun _ => L2.CX0) (sp := fun w => D0.spLaw _) rfl (by decide) rfl ⟨rfl, by decide, by decide⟩ (fun w h Y => PySem.W.kIn_of Y) ?F (fun _ _ a ns hl _ hS => ⟨a, ns, rfl, hS, hl, fun _ => rfl⟩) (fun _ _ _ _ _ h => h)
  case F =>
    intro w mg fa h KX G hmg
    refine' D0.all_mk KX G hmg ?a1_0 ?a1_1 ?a1_2 ?a1_3 ?a1_4 ?i1 ?l1 ?c1 ?k1 ?a2 ?l2 ?c2 ?k2 ?a3 ?l3 ?c3 ?k3 ?a4 ?l4 ?c4 ?k4 ?a5 ?l5 ?c5 ?k5 ?a6 ?l6 ?c6 ?k6 ?a7 ?l7 ?c7 ?k7 ?a8 ?l8 ?c8 ?k8 ?a9 ?l9 ?c9 ?k9 ?a10 ?l10 ?c10 ?k10 ?a11 ?l11 ?c11 ?k11 ?a12 ?l12 ?c12 ?k12 ?a13 ?i13 ?l13 ?c13 ?k13 ?a14 ?i14 ?l14 ?c14 ?k14 ?a15 ?i15 ?l15 ?c15 ?k15 ?a16 ?i16 ?l16 ?c16 ?k16 ?a17 ?i17 ?l17 ?c17 ?k17 ?a18 ?i18 ?l18 ?c18 ?k18 ?a19 ?i19 ?l19 ?c19 ?k19 ?a20 ?l20 ?c20 ?k20 ?a21 ?l21 ?c21 ?k21 ?a22 ?l22 ?c22 ?k22 ?a23 ?l23 ?c23 ?k23 ?a24 ?l24 ?c24 ?k24 ?a25 ?l25 ?c25 ?k25 ?a26 ?l26 ?c26 ?k26 ?a27 ?l27 ?c27 ?k27 ?a28 ?l28 ?c28 ?k28 ?a29 ?l29 ?c29 ?k29 ?a30 ?l30 ?c30 ?k30 ?a31 ?l31 ?c31 ?k31 ?a32 ?l32 ?c32 ?k32 ?a33 ?l33 ?c33 ?k33 ?a34 ?l34 ?c34 ?k34 ?a35 ?l35 ?c35 ?k35 ?a36 ?l36 ?c36 ?k36 ?a37 ?l37 ?c37 ?k37 ?a38 ?l38 ?c38 ?k38 ?a39 ?l39 ?c39 ?k39 ?a40 ?l40 ?c40 ?k40 ?a41 ?l41 ?c41 ?k41 ?a42 ?l42 ?c42 ?k42 ?a43 ?l43 ?c43 ?k43 ?a44 ?l44 ?c44 ?k44 ?a45 ?l45 ?c45 ?k45 ?a46 ?l46 ?c46 ?k46 ?a47 ?l47 ?c47 ?k47 ?a48 ?l48 ?c48 ?k48 ?a49 ?l49 ?c49 ?k49 ?a50 ?l50 ?c50 ?k50 ?a51 ?l51 ?c51 ?k51 ?a52 ?l52 ?c52 ?k52 ?a53 ?l53 ?c53 ?k53 ?z_bool ?z_enumerate ?z_int ?z_isinstance ?z_len ?z_list ?z_ord ?z_range ?z_reversed ?z_str ?z_tuple ?q_PERCENT ?q_NAME_LIMIT ?q_NUMBER_LIMIT ?q_TEXT_LIMIT ?q_ROW_LIMIT ?q_TOKEN_LIMIT ?q_INDENT_LIMIT ?q_KEYWORDS ?l_KEYWORDS ?v_KEYWORDS ?w_KEYWORDS ?q_SIGNS ?l_SIGNS ?v_SIGNS ?w_SIGNS ?q_OPENING ?l_OPENING ?v_OPENING ?w_OPENING ?q_ESCAPES ?l_ESCAPES ?w_ESCAPES ?eESCAPES0 ?eESCAPES1 ?eESCAPES2 ?eESCAPES3 ?q_CLOSING ?l_CLOSING ?w_CLOSING ?eCLOSING0 ?eCLOSING1 ?eCLOSING2 ?gS ?pgS ?hdS ?poS ?saS ?mkS ?kcS ?n_marks ?n_brackets ?n_indents ?n_many ?n_behind ?g_0 ?o_0 ?r_0 ?sa_0 ?xb_0 ?ty_0 ?kc_0 ?nl_0 ?nc_0 ?hg_0 ?hk_0 ?hd_0 ?ss_0S ?g_1 ?o_1 ?r_1 ?sa_1 ?xb_1 ?ty_1 ?kc_1 ?nl_1 ?nc_1 ?hg_1 ?hk_1 ?hd_1 ?ss_1S ?g_2 ?o_2 ?r_2 ?sa_2 ?xb_2 ?ty_2 ?kc_2 ?nl_2 ?nc_2 ?hg_2 ?hk_2 ?hd_2 ?ss_2S ?g_3 ?o_3 ?r_3 ?sa_3 ?xb_3 ?ty_3 ?kc_3 ?nl_3 ?nc_3 ?hg_3 ?hk_3 ?hd_3 ?ss_3S ?g_4 ?o_4 ?r_4 ?sa_4 ?xb_4 ?ty_4 ?kc_4 ?nl_4 ?nc_4 ?hg_4 ?hk_4 ?hd_4 ?ss_4S ?cl_3 ?ha_3 ?hm_3 ?hn ?ht ?g_S ?ty_S ?xb_S ?hd_S
    (case gS => k_is)
    (case g_0 => k_is)
    (case g_1 => k_is)
    (case g_2 => k_is)
    (case g_3 => k_is)
    (case g_4 => k_is)
    (case g_S => k_is)
    (case a1_0 => k_is)
    (case a1_1 => k_is)
    (case a1_2 => k_is)
    (case a1_3 => k_is)
    (case a1_4 => k_is)
    (case i1 => k_is)
    (case l1 => k_is)
    (case c1 => k_is)
    (case k1 => k_is)
    (case a2 => k_is)
    (case l2 => k_is)
    (case c2 => k_is)
    (case k2 => k_is)
    (case a3 => k_is)
    (case l3 => k_is)
    (case c3 => k_is)
    (case k3 => k_is)
    (case a4 => k_is)
    (case l4 => k_is)
    (case c4 => k_is)
    (case k4 => k_is)
    (case a5 => k_is)
    (case l5 => k_is)
    (case c5 => k_is)
    (case k5 => k_is)
    (case a6 => k_is)
    (case l6 => k_is)
    (case c6 => k_is)
    (case k6 => k_is)
    (case a7 => k_is)
    (case l7 => k_is)
    (case c7 => k_is)
    (case k7 => k_is)
    (case a8 => k_is)
    (case l8 => k_is)
    (case c8 => k_is)
    (case k8 => k_is)
    (case a9 => k_is)
    (case l9 => k_is)
    (case c9 => k_is)
    (case k9 => k_is)
    (case a10 => k_is)
    (case l10 => k_is)
    (case c10 => k_is)
    (case k10 => k_is)
    (case a11 => k_is)
    (case l11 => k_is)
    (case c11 => k_is)
    (case k11 => k_is)
    (case a12 => k_is)
    (case l12 => k_is)
    (case c12 => k_is)
    (case k12 => k_is)
    (case a13 => k_is)
    (case i13 => k_is)
    (case l13 => k_is)
    (case c13 => k_is)
    (case k13 => k_is)
    (case a14 => k_is)
    (case i14 => k_is)
    (case l14 => k_is)
    (case c14 => k_is)
    (case k14 => k_is)
    (case a15 => k_is)
    (case i15 => k_is)
    (case l15 => k_is)
    (case c15 => k_is)
    (case k15 => k_is)
    (case a16 => k_is)
    (case i16 => k_is)
    (case l16 => k_is)
    (case c16 => k_is)
    (case k16 => k_is)
    (case a17 => k_is)
    (case i17 => k_is)
    (case l17 => k_is)
    (case c17 => k_is)
    (case k17 => k_is)
    (case a18 => k_is)
    (case i18 => k_is)
    (case l18 => k_is)
    (case c18 => k_is)
    (case k18 => k_is)
    (case a19 => k_is)
    (case i19 => k_is)
    (case l19 => k_is)
    (case c19 => k_is)
    (case k19 => k_is)
    (case a20 => k_is)
    (case l20 => k_is)
    (case c20 => k_is)
    (case k20 => k_is)
    (case a21 => k_is)
    (case l21 => k_is)
    (case c21 => k_is)
    (case k21 => k_is)
    (case a22 => k_is)
    (case l22 => k_is)
    (case c22 => k_is)
    (case k22 => k_is)
    (case a23 => k_is)
    (case l23 => k_is)
    (case c23 => k_is)
    (case k23 => k_is)
    (case a24 => k_is)
    (case l24 => k_is)
    (case c24 => k_is)
    (case k24 => k_is)
    (case a25 => k_is)
    (case l25 => k_is)
    (case c25 => k_is)
    (case k25 => k_is)
    (case a26 => k_is)
    (case l26 => k_is)
    (case c26 => k_is)
    (case k26 => k_is)
    (case a27 => k_is)
    (case l27 => k_is)
    (case c27 => k_is)
    (case k27 => k_is)
    (case a28 => k_is)
    (case l28 => k_is)
    (case c28 => k_is)
    (case k28 => k_is)
    (case a29 => k_is)
    (case l29 => k_is)
    (case c29 => k_is)
    (case k29 => k_is)
    (case a30 => k_is)
    (case l30 => k_is)
    (case c30 => k_is)
    (case k30 => k_is)
    (case a31 => k_is)
    (case l31 => k_is)
    (case c31 => k_is)
    (case k31 => k_is)
    (case a32 => k_is)
    (case l32 => k_is)
    (case c32 => k_is)
    (case k32 => k_is)
    (case a33 => k_is)
    (case l33 => k_is)
    (case c33 => k_is)
    (case k33 => k_is)
    (case a34 => k_is)
    (case l34 => k_is)
    (case c34 => k_is)
    (case k34 => k_is)
    (case a35 => k_is)
    (case l35 => k_is)
    (case c35 => k_is)
    (case k35 => k_is)
    (case a36 => k_is)
    (case l36 => k_is)
    (case c36 => k_is)
    (case k36 => k_is)
    (case a37 => k_is)
    (case l37 => k_is)
    (case c37 => k_is)
    (case k37 => k_is)
    (case a38 => k_is)
    (case l38 => k_is)
    (case c38 => k_is)
    (case k38 => k_is)
    (case a39 => k_is)
    (case l39 => k_is)
    (case c39 => k_is)
    (case k39 => k_is)
    (case a40 => k_is)
    (case l40 => k_is)
    (case c40 => k_is)
    (case k40 => k_is)
    (case a41 => k_is)
    (case l41 => k_is)
    (case c41 => k_is)
    (case k41 => k_is)
    (case a42 => k_is)
    (case l42 => k_is)
    (case c42 => k_is)
    (case k42 => k_is)
    (case a43 => k_is)
    (case l43 => k_is)
    (case c43 => k_is)
    (case k43 => k_is)
    (case a44 => k_is)
    (case l44 => k_is)
    (case c44 => k_is)
    (case k44 => k_is)
    (case a45 => k_is)
    (case l45 => k_is)
    (case c45 => k_is)
    (case k45 => k_is)
    (case a46 => k_is)
    (case l46 => k_is)
    (case c46 => k_is)
    (case k46 => k_is)
    (case a47 => k_is)
    (case l47 => k_is)
    (case c47 => k_is)
    (case k47 => k_is)
    (case a48 => k_is)
    (case l48 => k_is)
    (case c48 => k_is)
    (case k48 => k_is)
    (case a49 => k_is)
    (case l49 => k_is)
    (case c49 => k_is)
    (case k49 => k_is)
    (case a50 => k_is)
    (case l50 => k_is)
    (case c50 => k_is)
    (case k50 => k_is)
    (case a51 => k_is)
    (case l51 => k_is)
    (case c51 => k_is)
    (case k51 => k_is)
    (case a52 => k_is)
    (case l52 => k_is)
    (case c52 => k_is)
    (case k52 => k_is)
    (case a53 => k_is)
    (case l53 => k_is)
    (case c53 => k_is)
    (case k53 => k_is)
    (case z_bool => k_is)
    (case z_enumerate => k_is)
    (case z_int => k_is)
    (case z_isinstance => k_is)
    (case z_len => k_is)
    (case z_list => k_is)
    (case z_ord => k_is)
    (case z_range => k_is)
    (case z_reversed => k_is)
    (case z_str => k_is)
    (case z_tuple => k_is)
    (case q_PERCENT => k_is)
    (case q_NAME_LIMIT => k_is)
    (case q_NUMBER_LIMIT => k_is)
    (case q_TEXT_LIMIT => k_is)
    (case q_ROW_LIMIT => k_is)
    (case q_TOKEN_LIMIT => k_is)
    (case q_INDENT_LIMIT => k_is)
    (case q_KEYWORDS => k_is)
    (case l_KEYWORDS => k_is)
    (case v_KEYWORDS => rfl)
    (case w_KEYWORDS => decide)
    (case q_SIGNS => k_is)
    (case l_SIGNS => k_is)
    (case v_SIGNS => rfl)
    (case w_SIGNS => decide)
    (case q_OPENING => k_is)
    (case l_OPENING => k_is)
    (case v_OPENING => rfl)
    (case w_OPENING => decide)
    (case q_ESCAPES => k_is)
    (case l_ESCAPES => k_is)
    (case w_ESCAPES => rfl)
    (case eESCAPES0 => rfl)
    (case eESCAPES1 => rfl)
    (case eESCAPES2 => rfl)
    (case eESCAPES3 => rfl)
    (case q_CLOSING => k_is)
    (case l_CLOSING => k_is)
    (case w_CLOSING => rfl)
    (case eCLOSING0 => rfl)
    (case eCLOSING1 => rfl)
    (case eCLOSING2 => rfl)
    (case pgS => k_is)
    (case hdS => k_is)
    (case poS => k_is)
    (case saS => k_is)
    (case mkS => k_is)
    (case kcS => k_is)
    (case n_marks => k_is)
    (case n_brackets => k_is)
    (case n_indents => k_is)
    (case n_many => k_is)
    (case n_behind => k_is)
    (case o_0 => k_is)
    (case r_0 => rfl)
    (case sa_0 => k_is)
    (case xb_0 => k_is)
    (case ty_0 => k_is)
    (case kc_0 => k_is)
    (case nl_0 => k_is)
    (case nc_0 => k_is)
    (case hg_0 => k_is)
    (case hk_0 => k_is)
    (case hd_0 => k_is)
    (case ss_0S => k_is)
    (case o_1 => k_is)
    (case r_1 => rfl)
    (case sa_1 => k_is)
    (case xb_1 => k_is)
    (case ty_1 => k_is)
    (case kc_1 => k_is)
    (case nl_1 => k_is)
    (case nc_1 => k_is)
    (case hg_1 => k_is)
    (case hk_1 => k_is)
    (case hd_1 => k_is)
    (case ss_1S => k_is)
    (case o_2 => k_is)
    (case r_2 => rfl)
    (case sa_2 => k_is)
    (case xb_2 => k_is)
    (case ty_2 => k_is)
    (case kc_2 => k_is)
    (case nl_2 => k_is)
    (case nc_2 => k_is)
    (case hg_2 => k_is)
    (case hk_2 => k_is)
    (case hd_2 => k_is)
    (case ss_2S => k_is)
    (case o_3 => k_is)
    (case r_3 => rfl)
    (case sa_3 => k_is)
    (case xb_3 => k_is)
    (case ty_3 => k_is)
    (case kc_3 => k_is)
    (case nl_3 => k_is)
    (case nc_3 => k_is)
    (case hg_3 => k_is)
    (case hk_3 => k_is)
    (case hd_3 => k_is)
    (case ss_3S => k_is)
    (case o_4 => k_is)
    (case r_4 => rfl)
    (case sa_4 => k_is)
    (case xb_4 => k_is)
    (case ty_4 => k_is)
    (case kc_4 => k_is)
    (case nl_4 => k_is)
    (case nc_4 => k_is)
    (case hg_4 => k_is)
    (case hk_4 => k_is)
    (case hd_4 => k_is)
    (case ss_4S => k_is)
    (case cl_3 => k_is)
    (case ha_3 => k_is)
    (case hm_3 => k_is)
    (case hn => k_is)
    (case ht => k_is)
    (case ty_S => k_is)
    (case xb_S => k_is)
    (case hd_S => k_is)
