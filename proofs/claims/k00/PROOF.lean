import PyProof.Rows.All
import Wide.All
import OpenK.AllK
import Wide.FinOn
import PyProof.EqAt
import PyProof.EqKinds
import PyProof.TupleCall
import HandS.ForExc
import HandS.ForMost
import KE.GoesEnumKw
import HandS.StrMore
import HandS.IsInst
import HandS.ExcIs
import HandS.ExcInit
import HandS.ExcField
import HandS.Style
import HandS.Wide
import HandS.ReplaceLit
import HandS.ReplaceList
import HandS.ReplaceDef
import HandS.Codes
import HandS.Walk
import HandS.More
import PySem.Challenge.RW_likerun_k00_words_at_their_places
import HandS.HotCalls
import HandS.TryMany
import KE.KExcIs
import Open.SpecLaws
import KE.OsGo
set_option Elab.async false
set_option linter.all false
set_option maxRecDepth 100000
namespace D0
open PySem PySem.Spec PyProof.Rows L2
/-- a built-in class is called with positional values and keywords -/
theorem cw_typeK {M : Model} {A : Around} {Ex : Value → Shared → Prop} {s : Shared} {env : Env} {pos : Pos} {T : String} {e : Expr} {rest : List Expr} {kws : List Keyword} {Q : Value → Shared → Prop}
    {as : List (Bool × Sem Value)} {ks : List (Option Str × Sem Value)} (ea : as = backTo pos (starEach (e :: rest) env)) (ek : ks = backToKw pos (keywordEach kws env))
    (run : wpAny M A (spliced as) (fun vs s₁ => wpAny M A (evalAll (ks.map (·.2))) (fun zs s₂ => wpAny M A (call (.type T) vs ((ks.filterMap (·.1)).zip zs)) Q Ex s₂) Ex s₁) Ex s)
    (hd : as = (false, eval e env) :: backTo pos (starEach rest env)) (p1 : as.any (·.1) = false) (p2 : ks.all (·.1.isSome) = true) (p3 : ks.any (·.1.isNone) = false) :
    wpAny M A (callWith pos (.type T) [] as ks) Q Ex s := by
  clear ea ek
  subst hd
  have got : wpAny M A (evalArgs (.type T) true _ ks) (fun a s₁ => wpAny M A (call (.type T) ([] ++ a.pos) a.kw) Q Ex s₁) Ex s := evalArgs_kwB p2 run
  unfold callWith
  refine wpAny_bind (wpAny_holding (wpAny_mono got ?_ fun _ _ x => x))
  intro a s1 k
  refine wpAny_bind (wpAny_standAt ?_)
  rw [p1, p3]
  refine wpAny_bind (wpAny_pure (wpAny_bind (wpAny_mono k ?_ fun _ _ x => x)))
  exact fun r s2 g => wpAny_bind (wpAny_holding (wpAny_point (wpAny_pure g)))
/-- an inner iterator `it`, in state St; J tells what its items are, each in a new pair with c + its place -/
structure Inner (P : Program) (w : World) (K : PySem.W.Frag) (J : It) (c : Int) (e it : Addr) (St : Nat → Heap → Prop) : Prop where
  live : ∀ i h, St i h → ∃ o, h.get? it = some o ∧ ∀ v, o.data ≠ .cell v
  move : ∀ i h h', St i h → (∀ o, h.get? it = some o → h'.get? it = some o) → St i h'
  item : ∀ (X : Cx) i pins (s : Shared) σ H, X.prog = P → X.w = w → X.K = K → X.A.handled = none → Inv X pins σ H s → St i s.heap → J.go i H → ∃ fp n Pv St', Draws P w X.A.in1 it fp n Pv St' ∧ i < n ∧ St' i s.heap ∧ e ∉ fp ∧ (∀ j h, St' j h → St j h) ∧
    ∀ u, Pv i u → ∃ v, RelV v u ∧ ∀ T, H T = none → J.yld i H (.ref T) (upd H T (.tup [.int (c + (i : Nat)), v]))
  fine : ∀ (X : Cx) i pins (s : Shared) σ H, X.prog = P → X.w = w → X.K = K → X.A.handled = none → Inv X pins σ H s → St i s.heap → J.stop i H → ∃ fp Pv St', Draws P w X.A.in1 it fp i Pv St' ∧ St' i s.heap
theorem Inner.turn {P : Program} {w : World} {K : PySem.W.Frag} {J : It} {c : Int} {e it : Addr} {St : Nat → Heap → Prop} {elts : List Expr} {kk : Nat} {tpos : Pos} (N : Inner P w K J c e it St) (ne : e ≠ it) :
    Turn P w K (.Tuple elts kk tpos) J [e, it] e (fun i h => (∃ old, IsEnum h e it (c + ((i : Nat) : Int)) old) ∧ St i h) := by
  have two : ∀ {p : Addr → Prop}, p e → p it → ∀ b ∈ [e, it], p b := fun x y b m => by
    rcases List.mem_cons.mp m with rfl | m
    · exact x
    · rw [List.mem_singleton.mp m]; exact y
  refine ⟨List.mem_cons_self, ?obj, ?keep, ?item, ?done, fun A i s Q E ⟨⟨_, g⟩, _⟩ k => wpAny_pyIter_enum g k⟩
  case obj =>
    rintro i h ⟨⟨old, g⟩, t⟩
    exact two ⟨_, g, fun _ z => nomatch z⟩ (N.live i h t)
  case keep =>
    rintro i h h' ⟨⟨old, g⟩, t⟩ k
    exact ⟨⟨old, k e List.mem_cons_self _ g⟩, N.move i h h' t (k it (List.mem_cons_of_mem _ List.mem_cons_self))⟩
  case done =>
    rintro X rfl rfl rfl calm i pins s σ H E I free ⟨⟨old, g⟩, t⟩ stop
    obtain ⟨fp, Pv, St', D, t'⟩ := N.fine X i pins s σ H rfl rfl rfl (I.ok.hd calm) I t stop
    obtain ⟨a, b, c', d, e', f⟩ := free it (List.mem_cons_of_mem _ List.mem_cons_self)
    exact wpAny_pyNext_enum_endD D g t' fun h' x => ⟨rfl, I.turned (t' := s.toks) (fun q o m z => x q o m z) a b d e' f⟩
  case item =>
    rintro X rfl rfl rfl calm i pins s σ H E I free ⟨⟨old, g⟩, t⟩ go
    obtain ⟨fp, n, Pv, St', D, lt, t', far, back, says⟩ := N.item X i pins s σ H rfl rfl rfl (I.ok.hd calm) I t go
    have le := Heap.lt_size g
    have li : it < s.heap.objs.size := by obtain ⟨o, z, _⟩ := N.live i _ t; exact Heap.lt_size z
    refine wpAny_pyNext_enum_itemC D g t' lt ne far fun u h1 tk pu out st1 pair _ old1 => ?_
    obtain ⟨v, rv, yld⟩ := says u pu
    refine ⟨_, rfl, wpAny_letOwnedTupleGo_enum (s := { s with heap := h1, toks := tk + 1 }) out fun h2 g2 same => ?_⟩
    have fresh := I.hok.fresh (Nat.le_refl s.heap.objs.size)
    have pair2 := (same.2 s.heap.objs.size (Ne.symm (Nat.ne_of_lt le))).trans pair
    have new : ObjOk X.prog X.w (upd H s.heap.objs.size (.tup [.int (c + (i : Nat)), v])) h2 s.heap.objs.size (.tup [.int (c + (i : Nat)), v]) :=
      ⟨by show 2 ≤ sizeLine; decide, _, .cons ⟨_, rfl⟩ (.cons rv .nil), ⟨_, pair2, rfl, _, rfl⟩⟩
    have I2 : Inv X pins σ _ { s with heap := h2, toks := tk + 1 } := I.turnedNew (ch := [e, it]) (fun b o m z => by
      have m1 : b ≠ e := fun q => m (by rw [q]; exact List.mem_cons_self)
      have m2 : b ≠ it := fun q => m (by rw [q]; exact List.mem_cons_of_mem _ List.mem_cons_self)
      rw [same.2 b m1]; exact old1 b o m1 m2 z) free (Nat.le_refl _) new
    refine ⟨.ref s.heap.objs.size, _, I2, rfl, yld _ fresh, ⟨⟨u, ?_⟩, N.move _ _ _ (back _ _ st1) fun o z => by rw [same.2 it (Ne.symm ne)]; exact z⟩, fun b m => ?_⟩
    · have q : c + ((i + 1 : Nat) : Int) = c + (i : Int) + 1 := by omega
      rw [q]; exact g2
    · have lb : b < s.heap.objs.size := two (p := (· < s.heap.objs.size)) le li b m
      rw [upd_ne (Nat.ne_of_lt lb)]; exact (free b m).1
/-- the list at a, each item in a new pair with c + its place -/
def IteC (K : PySem.W.Frag) (c : Int) (a : Addr) : It :=
  ⟨fun i H => ∃ (xs : List V) (x : V), SqL K H a xs ∧ xs[i]? = some x, fun i H v H' => ∃ T x, v = .ref T ∧ H T = none ∧ H' = upd H T (.tup [.int (c + (i : Nat)), x]) ∧ ∀ xs, SqL K H a xs → xs[i]? = some x, fun i H => ∃ xs : List V, SqL K H a xs ∧ xs.length = i⟩
theorem inner_list {P : Program} {w : World} {K : PySem.W.Frag} (c : Int) {a e it : Addr} (n1 : a ≠ it) (n2 : e ≠ a) (n3 : e ≠ it) : Inner P w K (IteC K c a) c e it (fun i h => h.IsListIter it a i) where
  live := fun i h ⟨o, x, _, d⟩ => ⟨o, x, fun v z => by rw [d] at z; cases z⟩
  move := fun i h h' t k => t.at fun o x => k o x
  item := by
    rintro X i pins s σ H rfl rfl rfl hh I t ⟨xs, x, hq, hx⟩
    obtain ⟨us, r, pl, _⟩ := I.list hq
    obtain ⟨u, hu, ru⟩ := r.get hx
    refine ⟨_, _, _, _, Draws.list (A := X.A.in1) hh it a n1 us.toArray, by simpa using (List.getElem?_eq_some_iff.mp hu).1, ⟨t, pl.isList⟩, by simp [n2, n3], fun _ _ z => z.1, fun u' pu => ?_⟩
    have z : us[i]? = some u' := by simpa using pu
    rw [hu] at z
    cases z
    exact ⟨x, ru, fun T nT => ⟨T, x, rfl, nT, rfl, fun ys hy => by rw [I.list_inj hy hq]; exact hx⟩⟩
  fine := by
    rintro X i pins s σ H rfl rfl rfl hh I t ⟨xs, hq, hx⟩
    obtain ⟨us, r, pl, _⟩ := I.list hq
    have len : us.toArray.size = i := by rw [← hx, r.length]; simp
    have D := Draws.list (prog := X.prog) (w := X.w) (A := X.A.in1) hh it a n1 us.toArray
    rw [len] at D
    exact ⟨_, _, _, D, t, pl.isList⟩
/-- the signs of a text, each in a new pair with c + its place -/
def ItsC (c : Int) (x : Str) : It :=
  ⟨fun i H => i < x.cps.size, fun i H v H' => ∃ T d, v = .ref T ∧ H T = none ∧ H' = upd H T (.tup [.int (c + (i : Nat)), .str ⟨#[d]⟩]) ∧ x.cps[i]? = some d, fun i H => x.cps.size = i⟩
theorem inner_str {P : Program} {w : World} {K : PySem.W.Frag} (c : Int) {x : Str} {t : Tok} {e it : Addr} (n3 : e ≠ it) : Inner P w K (ItsC c x) c e it (fun i h => h.IsStrIter it (strIterType x) x t i) := by
  have D : ∀ A : Around, A.handled = none → Draws P w A.in1 it [it] x.cps.size (fun i v => ∃ c u, x.cps[i]? = some c ∧ v = .str ⟨#[c]⟩ u) (fun i h => h.IsStrIter it (strIterType x) x t i) := fun A hh => by
    unfold strIterType
    split
    · exact Draws.strAscii (A := A.in1) hh it x t
    · exact Draws.strWide (A := A.in1) hh it x t
  refine ⟨fun i h ⟨o, z, _, d⟩ => ⟨o, z, fun v q => by rw [d] at q; cases q⟩, fun i h h' ⟨o, z, q⟩ k => ⟨o, k o z, q⟩, ?_, ?_⟩
  · rintro X i pins s σ H rfl rfl rfl hh I st lt
    exact ⟨_, _, _, _, D X.A hh, lt, st, by simp [n3], fun _ _ z => z, fun u ⟨d, tk, hd, eu⟩ => ⟨.str ⟨#[d]⟩, ⟨tk, eu⟩, fun T nT => ⟨T, d, rfl, nT, rfl, hd⟩⟩⟩
  · rintro X i pins s σ H rfl rfl rfl hh I st (len : x.cps.size = i)
    have D := D X.A hh
    rw [len] at D
    exact ⟨_, _, _, D, st⟩
def iEnumC (K : PySem.W.Frag) (ta : TA) : TI := fun σ H R => ta σ H fun vs H1 => ∃ a xs, vs = [.ref a] ∧ SqL K H1 a xs ∧ R (IteC K 1 a) H1
theorem pi_enumC {X : Cx} {e : Expr} {ta : TA} {p pos tpos kp : Pos} {e1 : Expr} {elts : List Expr} {kk : Nat} (hg : Gl X "enumerate") (hm : X.mg "enumerate" = none) (ha : PA X [e] ta) (h1 : PE X e1 (tC (.int 1)))
    (q1 : starEach [e] X.env = [(false, eval e X.env)] := by rfl) (q2 : (backToKw pos (keywordEach [⟨some "start", e1, kp⟩] X.env)).all (·.1.isSome) = true := by rfl)
    (q3 : (backToKw pos (keywordEach [⟨some "start", e1, kp⟩] X.env)).any (·.1.isNone) = false := by rfl) (q4 : (backToKw pos (keywordEach [⟨some "start", e1, kp⟩] X.env)).filterMap (·.1) = [Str.ofString "start"] := by rfl) :
    PI X (.Tuple elts kk tpos) (.Call (.Name "enumerate" p) [e] [⟨some "start", e1, kp⟩] pos) (iEnumC X.K ta) := by
  refine ⟨fun pins s σ H R I h => wpAny_Call_Name_kw (ld_blt I hg hm boot_enumerate (cw_typeK (e := e) (rest := []) (env := X.env) (pos := pos) (kws := [⟨some "start", e1, kp⟩]) (as := backTo pos (starEach [e] X.env)) (ks := backToKw pos (keywordEach [⟨some "start", e1, kp⟩] X.env)) rfl rfl (thn (ha.run pos pins s σ H _ I h) fun us s1 ⟨vs, H1, I1, r1, got⟩ => ?_) (by rw [q1]; rfl) (by rw [q1]; rfl) q2 q3))⟩
  refine thn ((pk_cons (X := X) (e := e1) (nm := some "start") (kpos := kp) h1 pk_nil).run pos pins s1 σ H1 (fun zs H2 => zs = [.int 1] ∧ H2 = H1) I1 ⟨rfl, rfl⟩) fun ws s2 ⟨zs, H2, I2, rz, ez, eH⟩ => ?_
  subst ez eH
  rw [q4]
  cases rz with | cons k1 k2 =>
  cases k2
  obtain ⟨tk, ew⟩ := k1
  subst ew
  obtain ⟨a, xs, rfl, hq, q⟩ := got
  cases r1 with | cons k1 k2 =>
  cases k2
  cases k1
  obtain ⟨its, rv, pl, _⟩ := I2.list hq
  have la : a < s2.heap.objs.size := by obtain ⟨_, z, _⟩ := pl.isList; exact Heap.lt_size z
  refine enum_begins_start (begins_list a its.toArray) pl.isList (by decide) (by decide) fun h' g hit _ hk => wpAny_pyIter_enum g ?_
  refine ⟨s2.heap.objs.size + 1, [s2.heap.objs.size + 1, s2.heap.objs.size], _, _, H2, rfl, I2.kept (t' := s2.toks) hk, (inner_list 1 (Nat.ne_of_lt la) (Ne.symm (Nat.ne_of_lt (Nat.lt_succ_of_lt la))) (Nat.succ_ne_self _)).turn (Nat.succ_ne_self _), ⟨⟨.none, by simpa using g⟩, ⟨_, hit, rfl, rfl⟩⟩, fun b m => ?_, q⟩
  have lb : s2.heap.objs.size ≤ b := by
    rcases List.mem_cons.mp m with rfl | m
    · exact Nat.le_succ _
    · rw [List.mem_singleton.mp m]; exact Nat.le_refl _
  exact I2.fpOk lb (I2.hok.fresh lb)
def iEnumS (ta : TA) : TI := fun σ H R => ta σ H fun vs H1 => ∃ x, vs = [.str x] ∧ R (ItsC 1 x) H1
theorem pi_enumS {X : Cx} {e : Expr} {ta : TA} {p pos tpos kp : Pos} {e1 : Expr} {elts : List Expr} {kk : Nat} (hg : Gl X "enumerate") (hm : X.mg "enumerate" = none) (ha : PA X [e] ta) (h1 : PE X e1 (tC (.int 1)))
    (q1 : starEach [e] X.env = [(false, eval e X.env)] := by rfl) (q2 : (backToKw pos (keywordEach [⟨some "start", e1, kp⟩] X.env)).all (·.1.isSome) = true := by rfl)
    (q3 : (backToKw pos (keywordEach [⟨some "start", e1, kp⟩] X.env)).any (·.1.isNone) = false := by rfl) (q4 : (backToKw pos (keywordEach [⟨some "start", e1, kp⟩] X.env)).filterMap (·.1) = [Str.ofString "start"] := by rfl) :
    PI X (.Tuple elts kk tpos) (.Call (.Name "enumerate" p) [e] [⟨some "start", e1, kp⟩] pos) (iEnumS ta) := by
  refine ⟨fun pins s σ H R I h => wpAny_Call_Name_kw (ld_blt I hg hm boot_enumerate (cw_typeK (e := e) (rest := []) (env := X.env) (pos := pos) (kws := [⟨some "start", e1, kp⟩]) (as := backTo pos (starEach [e] X.env)) (ks := backToKw pos (keywordEach [⟨some "start", e1, kp⟩] X.env)) rfl rfl (thn (ha.run pos pins s σ H _ I h) fun us s1 ⟨vs, H1, I1, r1, got⟩ => ?_) (by rw [q1]; rfl) (by rw [q1]; rfl) q2 q3))⟩
  refine thn ((pk_cons (X := X) (e := e1) (nm := some "start") (kpos := kp) h1 pk_nil).run pos pins s1 σ H1 (fun zs H2 => zs = [.int 1] ∧ H2 = H1) I1 ⟨rfl, rfl⟩) fun ws s2 ⟨zs, H2, I2, rz, ez, eH⟩ => ?_
  subst ez eH
  rw [q4]
  cases rz with | cons k1 k2 =>
  cases k2
  obtain ⟨tk, ew⟩ := k1
  subst ew
  obtain ⟨x, rfl, q⟩ := got
  cases r1 with | cons k1 k2 =>
  cases k2
  obtain ⟨t, eu⟩ := k1
  subst eu
  refine enum_begins_start (begins_text x t) trivial (by decide) (by decide) fun h' g hit _ hk => wpAny_pyIter_enum g ?_
  refine ⟨s2.heap.objs.size + 1, [s2.heap.objs.size + 1, s2.heap.objs.size], _, _, H2, rfl, I2.kept (t' := s2.toks) hk, (inner_str 1 (Nat.succ_ne_self _)).turn (Nat.succ_ne_self _), ⟨⟨.none, by simpa using g⟩, ⟨_, hit, rfl, rfl⟩⟩, fun b m => ?_, q⟩
  have lb : s2.heap.objs.size ≤ b := by
    rcases List.mem_cons.mp m with rfl | m
    · exact Nat.le_succ _
    · rw [List.mem_singleton.mp m]; exact Nat.le_refl _
  exact I2.fpOk lb (I2.hok.fresh lb)
end D0
namespace D0
open PySem PySem.Spec PyProof.Rows L2
def top (i : Nat) : Stmt := PySem.Challenge.pw_likerun_k00_words_at_their_places.main.body.getD i (.Pass ⟨0, 0, 0, 0⟩)
abbrev s_SourceError___init__ : Stmt := inClass (top 2) 0
abbrev n_SourceError___init__ : List Str := ["self", "line", "column"]
abbrev p_SourceError___init__ : List Str := ["self", "line", "column"]
theorem sc_SourceError___init__ : FnScope n_SourceError___init__ p_SourceError___init__ (defScope s_SourceError___init__) := ⟨rfl, rfl, rfl, by decide +kernel, rfl, by decide +kernel, by decide +kernel⟩
abbrev s_is_row : Stmt := top 12
abbrev n_is_row : List Str := ["text", "sign"]
abbrev p_is_row : List Str := ["text"]
theorem sc_is_row : FnScope n_is_row p_is_row (defScope s_is_row) := ⟨rfl, rfl, rfl, by decide +kernel, rfl, by decide +kernel, by decide +kernel⟩
abbrev s_is_letter : Stmt := top 13
abbrev n_is_letter : List Str := ["sign"]
abbrev p_is_letter : List Str := ["sign"]
theorem sc_is_letter : FnScope n_is_letter p_is_letter (defScope s_is_letter) := ⟨rfl, rfl, rfl, by decide +kernel, rfl, by decide +kernel, by decide +kernel⟩
abbrev s_is_digit : Stmt := top 14
abbrev n_is_digit : List Str := ["sign"]
abbrev p_is_digit : List Str := ["sign"]
theorem sc_is_digit : FnScope n_is_digit p_is_digit (defScope s_is_digit) := ⟨rfl, rfl, rfl, by decide +kernel, rfl, by decide +kernel, by decide +kernel⟩
abbrev s_digits_end : Stmt := top 15
abbrev n_digits_end : List Str := ["text", "start", "stop"]
abbrev p_digits_end : List Str := ["text", "start"]
theorem sc_digits_end : FnScope n_digits_end p_digits_end (defScope s_digits_end) := ⟨rfl, rfl, rfl, by decide +kernel, rfl, by decide +kernel, by decide +kernel⟩
abbrev s_name_end : Stmt := top 16
abbrev n_name_end : List Str := ["text", "start", "stop"]
abbrev p_name_end : List Str := ["text", "start"]
theorem sc_name_end : FnScope n_name_end p_name_end (defScope s_name_end) := ⟨rfl, rfl, rfl, by decide +kernel, rfl, by decide +kernel, by decide +kernel⟩
abbrev s_scan_token : Stmt := top 23
abbrev n_scan_token : List Str := ["row", "start", "line", "sign"]
abbrev p_scan_token : List Str := ["row", "start", "line"]
theorem sc_scan_token : FnScope n_scan_token p_scan_token (defScope s_scan_token) := ⟨rfl, rfl, rfl, by decide +kernel, rfl, by decide +kernel, by decide +kernel⟩
abbrev s_scan_name : Stmt := top 24
abbrev n_scan_name : List Str := ["row", "start", "line", "stop", "name"]
abbrev p_scan_name : List Str := ["row", "start", "line"]
theorem sc_scan_name : FnScope n_scan_name p_scan_name (defScope s_scan_name) := ⟨rfl, rfl, rfl, by decide +kernel, rfl, by decide +kernel, by decide +kernel⟩
abbrev s_scan_number : Stmt := top 25
abbrev n_scan_number : List Str := ["row", "start", "line", "stop", "digits", "padded", "glued"]
abbrev p_scan_number : List Str := ["row", "start", "line"]
theorem sc_scan_number : FnScope n_scan_number p_scan_number (defScope s_scan_number) := ⟨rfl, rfl, rfl, by decide +kernel, rfl, by decide +kernel, by decide +kernel⟩
abbrev s_scan_text : Stmt := top 26
abbrev n_scan_text : List Str := ["row", "start", "line", "parts", "at"]
abbrev p_scan_text : List Str := ["row", "start", "line"]
theorem sc_scan_text : FnScope n_scan_text p_scan_text (defScope s_scan_text) := ⟨rfl, rfl, rfl, by decide +kernel, rfl, by decide +kernel, by decide +kernel⟩
abbrev s_scan_sign : Stmt := top 27
abbrev n_scan_sign : List Str := ["row", "start", "line", "sign"]
abbrev p_scan_sign : List Str := ["row", "start", "line"]
theorem sc_scan_sign : FnScope n_scan_sign p_scan_sign (defScope s_scan_sign) := ⟨rfl, rfl, rfl, by decide +kernel, rfl, by decide +kernel, by decide +kernel⟩
abbrev s_Scanner___init__ : Stmt := inClass (top 35) 0
abbrev n_Scanner___init__ : List Str := ["self"]
abbrev p_Scanner___init__ : List Str := ["self"]
theorem sc_Scanner___init__ : FnScope n_Scanner___init__ p_Scanner___init__ (defScope s_Scanner___init__) := ⟨rfl, rfl, rfl, by decide +kernel, rfl, by decide +kernel, by decide +kernel⟩
abbrev s_Scanner_scan_row : Stmt := inClass (top 35) 1
abbrev n_Scanner_scan_row : List Str := ["self", "row", "line", "at", "kind", "word", "stop"]
abbrev p_Scanner_scan_row : List Str := ["self", "row", "line"]
theorem sc_Scanner_scan_row : FnScope n_Scanner_scan_row p_Scanner_scan_row (defScope s_Scanner_scan_row) := ⟨rfl, rfl, rfl, by decide +kernel, rfl, by decide +kernel, by decide +kernel⟩
abbrev s_Scanner_begin_line : Stmt := inClass (top 35) 2
abbrev n_Scanner_begin_line : List Str := ["self", "line", "column", "indent"]
abbrev p_Scanner_begin_line : List Str := ["self", "line", "column"]
theorem sc_Scanner_begin_line : FnScope n_Scanner_begin_line p_Scanner_begin_line (defScope s_Scanner_begin_line) := ⟨rfl, rfl, rfl, by decide +kernel, rfl, by decide +kernel, by decide +kernel⟩
abbrev s_Scanner_gather : Stmt := inClass (top 35) 3
abbrev n_Scanner_gather : List Str := ["self", "mark"]
abbrev p_Scanner_gather : List Str := ["self", "mark"]
theorem sc_Scanner_gather : FnScope n_Scanner_gather p_Scanner_gather (defScope s_Scanner_gather) := ⟨rfl, rfl, rfl, by decide +kernel, rfl, by decide +kernel, by decide +kernel⟩
abbrev s_Scanner_match_bracket : Stmt := inClass (top 35) 4
abbrev n_Scanner_match_bracket : List Str := ["self", "mark", "word"]
abbrev p_Scanner_match_bracket : List Str := ["self", "mark"]
theorem sc_Scanner_match_bracket : FnScope n_Scanner_match_bracket p_Scanner_match_bracket (defScope s_Scanner_match_bracket) := ⟨rfl, rfl, rfl, by decide +kernel, rfl, by decide +kernel, by decide +kernel⟩
abbrev s_Scanner_end_line : Stmt := inClass (top 35) 5
abbrev n_Scanner_end_line : List Str := ["self", "line"]
abbrev p_Scanner_end_line : List Str := ["self", "line"]
theorem sc_Scanner_end_line : FnScope n_Scanner_end_line p_Scanner_end_line (defScope s_Scanner_end_line) := ⟨rfl, rfl, rfl, by decide +kernel, rfl, by decide +kernel, by decide +kernel⟩
abbrev s_Scanner_end_text : Stmt := inClass (top 35) 6
abbrev n_Scanner_end_text : List Str := ["self", "line", "_"]
abbrev p_Scanner_end_text : List Str := ["self"]
theorem sc_Scanner_end_text : FnScope n_Scanner_end_text p_Scanner_end_text (defScope s_Scanner_end_text) := ⟨rfl, rfl, rfl, by decide +kernel, rfl, by decide +kernel, by decide +kernel⟩
abbrev s_tokens : Stmt := top 36
abbrev n_tokens : List Str := ["text", "rows", "scanner", "line", "row"]
abbrev p_tokens : List Str := ["text"]
theorem sc_tokens : FnScope n_tokens p_tokens (defScope s_tokens) := ⟨rfl, rfl, rfl, by decide +kernel, rfl, by decide +kernel, by decide +kernel⟩
abbrev s_checked_rows : Stmt := top 37
abbrev n_checked_rows : List Str := ["text", "rows", "line", "row"]
abbrev p_checked_rows : List Str := ["text"]
theorem sc_checked_rows : FnScope n_checked_rows p_checked_rows (defScope s_checked_rows) := ⟨rfl, rfl, rfl, by decide +kernel, rfl, by decide +kernel, by decide +kernel⟩
abbrev s_check_letters : Stmt := top 38
abbrev n_check_letters : List Str := ["row", "line", "column", "letter"]
abbrev p_check_letters : List Str := ["row", "line"]
theorem sc_check_letters : FnScope n_check_letters p_check_letters (defScope s_check_letters) := ⟨rfl, rfl, rfl, by decide +kernel, rfl, by decide +kernel, by decide +kernel⟩
abbrev s_spaces_end : Stmt := top 39
abbrev n_spaces_end : List Str := ["row", "start", "stop"]
abbrev p_spaces_end : List Str := ["row", "start"]
theorem sc_spaces_end : FnScope n_spaces_end p_spaces_end (defScope s_spaces_end) := ⟨rfl, rfl, rfl, by decide +kernel, rfl, by decide +kernel, by decide +kernel⟩
abbrev s__law_bag : Stmt := top 41
abbrev n__law_bag : List Str := ["script", "at", "cell", "seed", "one"]
abbrev p__law_bag : List Str := ["script", "at"]
theorem sc__law_bag : FnScope n__law_bag p__law_bag (defScope s__law_bag) := ⟨rfl, rfl, rfl, by decide +kernel, rfl, by decide +kernel, by decide +kernel⟩
abbrev s__law_take : Stmt := top 42
abbrev n__law_take : List Str := ["bag", "size", "got", "first", "second"]
abbrev p__law_take : List Str := ["bag", "size"]
theorem sc__law_take : FnScope n__law_take p__law_take (defScope s__law_take) := ⟨rfl, rfl, rfl, by decide +kernel, rfl, by decide +kernel, by decide +kernel⟩
abbrev s__law_whole : Stmt := top 43
abbrev n__law_whole : List Str := ["value"]
abbrev p__law_whole : List Str := ["value"]
theorem sc__law_whole : FnScope n__law_whole p__law_whole (defScope s__law_whole) := ⟨rfl, rfl, rfl, by decide +kernel, rfl, by decide +kernel, by decide +kernel⟩
abbrev s__law_signs : Stmt := top 44
abbrev n__law_signs : List Str := []
abbrev p__law_signs : List Str := []
theorem sc__law_signs : FnScope n__law_signs p__law_signs (defScope s__law_signs) := ⟨rfl, rfl, rfl, by decide +kernel, rfl, by decide +kernel, by decide +kernel⟩
abbrev s__law_keywords : Stmt := top 45
abbrev n__law_keywords : List Str := ["words"]
abbrev p__law_keywords : List Str := []
theorem sc__law_keywords : FnScope n__law_keywords p__law_keywords (defScope s__law_keywords) := ⟨rfl, rfl, rfl, by decide +kernel, rfl, by decide +kernel, by decide +kernel⟩
abbrev s__law_letters : Stmt := top 46
abbrev n__law_letters : List Str := []
abbrev p__law_letters : List Str := []
theorem sc__law_letters : FnScope n__law_letters p__law_letters (defScope s__law_letters) := ⟨rfl, rfl, rfl, by decide +kernel, rfl, by decide +kernel, by decide +kernel⟩
abbrev s__law_allowed : Stmt := top 47
abbrev n__law_allowed : List Str := ["first"]
abbrev p__law_allowed : List Str := []
theorem sc__law_allowed : FnScope n__law_allowed p__law_allowed (defScope s__law_allowed) := ⟨rfl, rfl, rfl, by decide +kernel, rfl, by decide +kernel, by decide +kernel⟩
abbrev s__law_name : Stmt := top 48
abbrev n__law_name : List Str := ["bag", "letters", "more", "size", "built", "turn"]
abbrev p__law_name : List Str := ["bag"]
theorem sc__law_name : FnScope n__law_name p__law_name (defScope s__law_name) := ⟨rfl, rfl, rfl, by decide +kernel, rfl, by decide +kernel, by decide +kernel⟩
abbrev s__law_figures : Stmt := top 49
abbrev n__law_figures : List Str := ["bag", "size", "built", "turn"]
abbrev p__law_figures : List Str := ["bag"]
theorem sc__law_figures : FnScope n__law_figures p__law_figures (defScope s__law_figures) := ⟨rfl, rfl, rfl, by decide +kernel, rfl, by decide +kernel, by decide +kernel⟩
abbrev s__law_quoted : Stmt := top 50
abbrev n__law_quoted : List Str := ["bag", "quote", "signs", "built", "turn", "sign"]
abbrev p__law_quoted : List Str := ["bag"]
theorem sc__law_quoted : FnScope n__law_quoted p__law_quoted (defScope s__law_quoted) := ⟨rfl, rfl, rfl, by decide +kernel, rfl, by decide +kernel, by decide +kernel⟩
abbrev s__law_word : Stmt := top 51
abbrev n__law_word : List Str := ["bag", "way", "words", "signs", "sign"]
abbrev p__law_word : List Str := ["bag"]
theorem sc__law_word : FnScope n__law_word p__law_word (defScope s__law_word) := ⟨rfl, rfl, rfl, by decide +kernel, rfl, by decide +kernel, by decide +kernel⟩
abbrev s__law_odd : Stmt := top 52
abbrev n__law_odd : List Str := ["bag", "pieces", "signs"]
abbrev p__law_odd : List Str := ["bag"]
theorem sc__law_odd : FnScope n__law_odd p__law_odd (defScope s__law_odd) := ⟨rfl, rfl, rfl, by decide +kernel, rfl, by decide +kernel, by decide +kernel⟩
abbrev s__law_comment : Stmt := top 53
abbrev n__law_comment : List Str := ["bag", "built", "signs", "turn"]
abbrev p__law_comment : List Str := ["bag"]
theorem sc__law_comment : FnScope n__law_comment p__law_comment (defScope s__law_comment) := ⟨rfl, rfl, rfl, by decide +kernel, rfl, by decide +kernel, by decide +kernel⟩
abbrev s__law_row_end : Stmt := top 54
abbrev n__law_row_end : List Str := ["bag", "widths", "closers", "bends", "built", "way", "width", "kept", "one"]
abbrev p__law_row_end : List Str := ["bag", "widths", "closers", "bends"]
theorem sc__law_row_end : FnScope n__law_row_end p__law_row_end (defScope s__law_row_end) := ⟨rfl, rfl, rfl, by decide +kernel, rfl, by decide +kernel, by decide +kernel⟩
abbrev s__law_pieces : Stmt := top 55
abbrev n__law_pieces : List Str := ["bag", "bends", "source", "widths", "closers", "fresh", "turn", "way", "gap", "pair", "closer"]
abbrev p__law_pieces : List Str := ["bag", "bends"]
theorem sc__law_pieces : FnScope n__law_pieces p__law_pieces (defScope s__law_pieces) := ⟨rfl, rfl, rfl, by decide +kernel, rfl, by decide +kernel, by decide +kernel⟩
abbrev s__law_source : Stmt := top 56
abbrev n__law_source : List Str := ["bag", "way", "source", "signs", "turn", "at"]
abbrev p__law_source : List Str := ["bag"]
theorem sc__law_source : FnScope n__law_source p__law_source (defScope s__law_source) := ⟨rfl, rfl, rfl, by decide +kernel, rfl, by decide +kernel, by decide +kernel⟩
abbrev s__law_edited : Stmt := top 57
abbrev n__law_edited : List Str := ["bag", "source", "signs", "way", "at"]
abbrev p__law_edited : List Str := ["bag", "source"]
theorem sc__law_edited : FnScope n__law_edited p__law_edited (defScope s__law_edited) := ⟨rfl, rfl, rfl, by decide +kernel, rfl, by decide +kernel, by decide +kernel⟩
abbrev s__law_extent : Stmt := top 58
abbrev n__law_extent : List Str := ["line", "at", "letters", "upto", "k", "followed", "bad", "size", "piece"]
abbrev p__law_extent : List Str := ["line", "at"]
theorem sc__law_extent : FnScope n__law_extent p__law_extent (defScope s__law_extent) := ⟨rfl, rfl, rfl, by decide +kernel, rfl, by decide +kernel, by decide +kernel⟩
abbrev s__law_block_fault : Stmt := top 59
abbrev n__law_block_fault : List Str := ["blocks", "width", "turn"]
abbrev p__law_block_fault : List Str := ["blocks", "width"]
theorem sc__law_block_fault : FnScope n__law_block_fault p__law_block_fault (defScope s__law_block_fault) := ⟨rfl, rfl, rfl, by decide +kernel, rfl, by decide +kernel, by decide +kernel⟩
abbrev s__law_first_fault : Stmt := top 60
abbrev n__law_first_fault : List Str := ["rows", "blocks", "pending", "many", "row", "upto", "at", "found", "extent", "sign"]
abbrev p__law_first_fault : List Str := ["rows"]
theorem sc__law_first_fault : FnScope n__law_first_fault p__law_first_fault (defScope s__law_first_fault) := ⟨rfl, rfl, rfl, by decide +kernel, rfl, by decide +kernel, by decide +kernel⟩
abbrev s__law_fault : Stmt := top 61
abbrev n__law_fault : List Str := ["source", "rows", "allowed", "row", "at"]
abbrev p__law_fault : List Str := ["source"]
theorem sc__law_fault : FnScope n__law_fault p__law_fault (defScope s__law_fault) := ⟨rfl, rfl, rfl, by decide +kernel, rfl, by decide +kernel, by decide +kernel⟩
abbrev s__law_quoted_size : Stmt := top 62
abbrev n__law_quoted_size : List Str := ["line", "at", "word", "quote", "place", "sign", "meant"]
abbrev p__law_quoted_size : List Str := ["line", "at", "word"]
theorem sc__law_quoted_size : FnScope n__law_quoted_size p__law_quoted_size (defScope s__law_quoted_size) := ⟨rfl, rfl, rfl, by decide +kernel, rfl, by decide +kernel, by decide +kernel⟩
abbrev s__law_size : Stmt := top 63
abbrev n__law_size : List Str := ["line", "at", "kind", "word", "letters", "spelled", "behind", "longer", "one"]
abbrev p__law_size : List Str := ["line", "at", "kind", "word"]
theorem sc__law_size : FnScope n__law_size p__law_size (defScope s__law_size) := ⟨rfl, rfl, rfl, by decide +kernel, rfl, by decide +kernel, by decide +kernel⟩
abbrev s__law_next_spot : Stmt := top 64
abbrev n__law_next_spot : List Str := ["rows", "spot", "row", "at"]
abbrev p__law_next_spot : List Str := ["rows", "spot"]
theorem sc__law_next_spot : FnScope n__law_next_spot p__law_next_spot (defScope s__law_next_spot) := ⟨rfl, rfl, rfl, by decide +kernel, rfl, by decide +kernel, by decide +kernel⟩
abbrev s__law_margin : Stmt := top 65
abbrev n__law_margin : List Str := ["blocks", "spot", "many", "behind", "due", "turn", "one"]
abbrev p__law_margin : List Str := ["blocks", "spot", "many", "behind"]
theorem sc__law_margin : FnScope n__law_margin p__law_margin (defScope s__law_margin) := ⟨rfl, rfl, rfl, by decide +kernel, rfl, by decide +kernel, by decide +kernel⟩
abbrev s__law_follows : Stmt := top 66
abbrev n__law_follows : List Str := ["told", "rows", "blocks", "pending", "inside", "spot", "due", "token", "ahead", "size"]
abbrev p__law_follows : List Str := ["told", "rows"]
theorem sc__law_follows : FnScope n__law_follows p__law_follows (defScope s__law_follows) := ⟨rfl, rfl, rfl, by decide +kernel, rfl, by decide +kernel, by decide +kernel⟩
abbrev s__law_is_tokens : Stmt := top 67
abbrev n__law_is_tokens : List Str := ["told", "token"]
abbrev p__law_is_tokens : List Str := ["told"]
theorem sc__law_is_tokens : FnScope n__law_is_tokens p__law_is_tokens (defScope s__law_is_tokens) := ⟨rfl, rfl, rfl, by decide +kernel, rfl, by decide +kernel, by decide +kernel⟩
abbrev s__law_classes : Stmt := top 68
abbrev n__law_classes : List Str := ["raised", "found"]
abbrev p__law_classes : List Str := ["raised"]
theorem sc__law_classes : FnScope n__law_classes p__law_classes (defScope s__law_classes) := ⟨rfl, rfl, rfl, by decide +kernel, rfl, by decide +kernel, by decide +kernel⟩
abbrev s__law_is_raised : Stmt := top 69
abbrev n__law_is_raised : List Str := ["source", "fault", "raised"]
abbrev p__law_is_raised : List Str := ["source", "fault"]
theorem sc__law_is_raised : FnScope n__law_is_raised p__law_is_raised (defScope s__law_is_raised) := ⟨rfl, rfl, rfl, by decide +kernel, rfl, by decide +kernel, by decide +kernel⟩
abbrev s__law_is_right : Stmt := top 70
abbrev n__law_is_right : List Str := ["source", "fault", "told"]
abbrev p__law_is_right : List Str := ["source"]
theorem sc__law_is_right : FnScope n__law_is_right p__law_is_right (defScope s__law_is_right) := ⟨rfl, rfl, rfl, by decide +kernel, rfl, by decide +kernel, by decide +kernel⟩
abbrev s_law : Stmt := top 71
abbrev n_law : List Str := ["script", "source", "near"]
abbrev p_law : List Str := ["script"]
theorem sc_law : FnScope n_law p_law (defScope s_law) := ⟨rfl, rfl, rfl, by decide +kernel, rfl, by decide +kernel, by decide +kernel⟩
end D0
namespace D0
open PySem PySem.Spec PyProof.Rows L2 SX
theorem _root_.L2.Fun.lk {K : PySem.W.Frag} {x q : Str} {st : Stmt} {f : Addr} {fd : FuncData} (F : Fun K x q st f fd) : ∃ oc od osl, K.lookup f = some ⟨oc, od, .func fd, osl⟩ := by
  obtain ⟨oc, od, kV, doc, pm, an, cdv, ct, osl, e, lk, _⟩ := F.ex
  exact ⟨oc, od, osl, lk⟩
/-- the def named x keeps the promise sp -/
def OkD (P : Program) (w : World) (K : PySem.W.Frag) (mg : Str → Option Value) (base : Heap) (CX : CXT) (k : Nat) (x : Str) (ps : List Str) (sp : Sp) : Prop :=
  ∃ f fd, mg x = some (.ref f) ∧ PySem.W.keepIn K (.ref f) = true ∧ Binds K fd ps [] ∧ (∃ oc od osl, K.lookup f = some ⟨oc, od, .func fd, osl⟩) ∧ FnOk P w K mg base CX k f fd ps sp
theorem OkD.mono {P w K mg base CX j k x ps sp} (O : OkD P w K mg base CX j x ps sp) (h : j ≤ k) : OkD P w K mg base CX k x ps sp := by
  obtain ⟨f, fd, a, b, c, d, F⟩ := O
  exact ⟨f, fd, a, b, c, d, F.mono h⟩
/-- the def named x stands in the text as st -/
def Gv (K : PySem.W.Frag) (mg : Str → Option Value) (x : Str) (st : Stmt) (ps : List Str) : Prop :=
  ∃ f fd, Fun K x x st f fd ∧ mg x = some (.ref f) ∧ Binds K fd ps []
section
variable {X : Cx} {CX : CXT} {k j : Nat} {ps : List Str} {sp : Sp} {E : XK} {x : Str} {p pos : Pos} {e : Expr} {es : List Expr} {t : TA}
theorem pcallE (O : OkD X.prog X.w X.K X.mg X.base CX k x ps sp) (hr : Room j X.A) (hx : Passes CX X E) (ha : PA X (e :: es) t) (hj : k ≤ j := by first | decide | omega) (hg : Gl X x := by rfl)
    (hdb : (x == ("__debug__" : Str)) = false := by decide) (he : starEach (e :: es) X.env = (false, eval e X.env) :: starEach es X.env := by rfl) (hpl : (backTo pos (starEach es X.env)).any (·.1) = false := by rfl) :
    PE X (.Call (.Name x p) (e :: es) [] pos) (tCall sp [] E t) := by
  obtain ⟨f, fd, hm, hk, hb, _, F⟩ := O
  exact pe_call F (hr.mono hj) hg hm hk hb .nil hx ha hdb he hpl
theorem pcall (O : OkD X.prog X.w X.K X.mg X.base CX0 k x ps sp) (hr : Room j X.A) (ha : PA X (e :: es) t) (hj : k ≤ j := by first | decide | omega) (hg : Gl X x := by rfl)
    (hdb : (x == ("__debug__" : Str)) = false := by decide) (he : starEach (e :: es) X.env = (false, eval e X.env) :: starEach es X.env := by rfl) (hpl : (backTo pos (starEach es X.env)).any (·.1) = false := by rfl) :
    PE X (.Call (.Name x p) (e :: es) [] pos) (tCall sp [] E0 t) := pcallE O hr pass0 ha hj hg hdb he hpl
theorem pcall0 (O : OkD X.prog X.w X.K X.mg X.base CX0 k x ps sp) (hr : Room j X.A) (hj : k ≤ j := by first | decide | omega) (hg : Gl X x := by rfl)
    (hdb : (x == ("__debug__" : Str)) = false := by decide) :
    PE X (.Call (.Name x p) [] [] pos) (tCall sp [] E0 tNil) := by
  obtain ⟨f, fd, hm, hk, hb, _, F⟩ := O
  exact pe_call0 F (hr.mono hj) hg hm hk hb .nil pass0 hdb
end
section
variable {P : Program} {w : World} {K : PySem.W.Frag} {mg : Str → Option Value} {base : Heap}
theorem Gv.ok {x : Str} {st : Stmt} {N ps : List Str} {k : Nat} {sp : Sp} (G : Gv K mg x st ps) (S : FnScope N ps (defScope st)) (len : ∀ vs H Q E, sp vs H Q E → vs.length = ps.length)
    (hbody : ∀ (f : Addr) (cdv : Value) (A : Around) (outer : List Env) (s : Shared) (H : Hp) (vs : List V) (Q : VK) (E : XK), Room k (A.deeper (envOfC x (defScope st) s.heap.objs.size f cdv)) → sp vs H Q E →
      ∃ t, PSs (cxOf CX0 P w K mg base N x (defScope st) f cdv A outer s H E).nox (defBody st) t ∧ t { nx := fun _ H' => Q .non H', rt := Q } (start N vs) H) : OkD P w K mg base CX0 (k + 1) x ps sp := by
  obtain ⟨f, fd, F, hm, hb⟩ := G
  exact ⟨f, fd, hm, F.kp, hb, F.lk, F.ok S len (hbody f)⟩
theorem Gv.okX {x : Str} {st : Stmt} {N ps : List Str} {k : Nat} {sp : Sp} (G : Gv K mg x st ps) (S : FnScope N ps (defScope st)) (len : ∀ vs H Q E, sp vs H Q E → vs.length = ps.length)
    (hbody : ∀ (f : Addr) (cdv : Value) (A : Around) (outer : List Env) (s : Shared) (H : Hp) (vs : List V) (Q : VK) (E : XK), Room k (A.deeper (envOfC x (defScope st) s.heap.objs.size f cdv)) → sp vs H Q E →
      ∃ t, PSs (cxOf (L2.CX P w) P w K mg base N x (defScope st) f cdv A outer s H E) (defBody st) t ∧ t { nx := fun _ H' => Q .non H', rt := Q } (start N vs) H) : OkD P w K mg base (L2.CX P w) (k + 1) x ps sp := by
  obtain ⟨f, fd, F, hm, hb⟩ := G
  exact ⟨f, fd, hm, F.kp, hb, F.lk, F.okX S len (hbody f)⟩
theorem Gv.okT {x : Str} {st : Stmt} {N ps : List Str} {k : Nat} {sp : Sp} (G : Gv K mg x st ps) (S : FnScope N ps (defScope st)) (hnc : ∀ y ∈ (defScope st).names, y.2 ≠ .cell) (hps : 1 ≤ ps.length) (len : ∀ vs H Q E, sp vs H Q E → vs.length = ps.length)
    (hbody : ∀ (f : Addr) (cdv : Value) (A : Around) (outer : List Env) (s : Shared) (H : Hp) (vs : List V) (Q : VK) (E : XK), Room k (A.deeper (envOfC x (defScope st) s.heap.objs.size f cdv)) → sp vs H Q E →
      ∃ t, PSsT (cxOf CX0 P w K mg base N x (defScope st) f cdv A outer s H E) (defBody st) t ∧ t { nx := fun _ H' => Q .non H', rt := Q } (start N vs) H) : OkD P w K mg base CX0 (k + 1) x ps sp := by
  obtain ⟨f, fd, F, hm, hb⟩ := G
  obtain ⟨oc, od, kV, doc, pm, an, cdv, ct, osl, rfl, lk, hcd⟩ := F.ex
  exact ⟨f, _, hm, F.kp, hb, ⟨_, _, _, lk⟩, fn_ofT lk hcd S hnc hps len (hbody f cdv)⟩
end
theorem pe_gI {X : Cx} {x : Str} {n : Int} {pos : Pos} (h : ∃ t, X.mg x = some (.int n t)) (hg : Gl X x := by rfl) (hd : (x == ("__debug__" : Str)) = false := by decide) : PE X (.Name x pos) (tC (.int n)) := by
  obtain ⟨t, h⟩ := h
  exact pe_glob hg h (show RelV (.int n) _ from ⟨t, rfl⟩) hd
/-- is True, is False: of any value -/
theorem op_isTF {X : Cx} : OpR X (compareOp .Is) (fun x y H Q => ∃ b, y = .bl b ∧ Q (.bl (decide (x = .bl b))) H) := by
  intro pins s σ H x y v u Q I rx ry h
  obtain ⟨b, rfl, q⟩ := h
  cases (show u = Value.bool b from ry)
  by_cases e : x = .bl b
  · subst e
    cases (show v = Value.bool b from rx)
    exact wpAny_is_self rfl ⟨.bl true, H, I, rfl, by simpa using q⟩
  · have hp : plainIs v (Value.bool b) = true ∧ v ≠ Value.bool b := by
      cases x with
      | bl c => cases (show v = Value.bool c from rx); exact ⟨rfl, fun z => e (by cases z; rfl)⟩
      | non => cases (show v = Value.none from rx); exact ⟨rfl, fun z => nomatch z⟩
      | ref a => cases (show v = Value.ref a from rx); exact ⟨rfl, fun z => nomatch z⟩
      | ty n => cases (show v = Value.type n from rx); exact ⟨rfl, fun z => nomatch z⟩
      | int i => obtain ⟨t, rfl⟩ := rx; exact ⟨rfl, fun z => nomatch z⟩
      | str i => obtain ⟨t, rfl⟩ := rx; exact ⟨rfl, fun z => nomatch z⟩
      | byt i => obtain ⟨t, rfl⟩ := rx; exact ⟨rfl, fun z => nomatch z⟩
      | flt i => obtain ⟨t, rfl⟩ := rx; exact ⟨rfl, fun z => nomatch z⟩
    exact wpAny_is_other hp.1 hp.2 ⟨.bl false, H, I, rfl, by simpa [e] using q⟩
section
variable {P : Program} {w : World} {K : PySem.W.Frag} {mg : Str → Option Value} {base : Heap}
/-- the method m of the class C keeps the promise sp -/
def OkM (P : Program) (w : World) (K : PySem.W.Frag) (mg : Str → Option Value) (base : Heap) (C : Addr) (CX : CXT) (k : Nat) (m : Str) (ps : List Str) (sp : Sp) : Prop :=
  ∃ f fd, Meth K C m f ∧ Binds K fd ps [] ∧ FnOk P w K mg base CX k f fd ps sp
def Gvm (K : PySem.W.Frag) (C : Addr) (m q : Str) (st : Stmt) (ps : List Str) : Prop := ∃ f fd, Fun K m q st f fd ∧ Meth K C m f ∧ Binds K fd ps []
theorem OkM.mono {C : Addr} {CX j k x ps sp} (O : OkM P w K mg base C CX j x ps sp) (h : j ≤ k) : OkM P w K mg base C CX k x ps sp := by
  obtain ⟨f, fd, a, b, F⟩ := O
  exact ⟨f, fd, a, b, F.mono h⟩
theorem Gvm.ok {C : Addr} {x q : Str} {st : Stmt} {N ps : List Str} {k : Nat} {sp : Sp} (G : Gvm K C x q st ps) (S : FnScope N ps (defScope st)) (len : ∀ vs H Q E, sp vs H Q E → vs.length = ps.length)
    (hbody : ∀ (f : Addr) (cdv : Value) (A : Around) (outer : List Env) (s : Shared) (H : Hp) (vs : List V) (Q : VK) (E : XK), Room k (A.deeper (envOfC q (defScope st) s.heap.objs.size f cdv)) → sp vs H Q E →
      ∃ t, PSs (cxOf CX0 P w K mg base N q (defScope st) f cdv A outer s H E).nox (defBody st) t ∧ t { nx := fun _ H' => Q .non H', rt := Q } (start N vs) H) : OkM P w K mg base C CX0 (k + 1) x ps sp := by
  obtain ⟨f, fd, F, hm, hb⟩ := G
  exact ⟨f, fd, hm, hb, F.ok S len (hbody f)⟩
theorem Gvm.okX {C : Addr} {x q : Str} {st : Stmt} {N ps : List Str} {k : Nat} {sp : Sp} (G : Gvm K C x q st ps) (S : FnScope N ps (defScope st)) (len : ∀ vs H Q E, sp vs H Q E → vs.length = ps.length)
    (hbody : ∀ (f : Addr) (cdv : Value) (A : Around) (outer : List Env) (s : Shared) (H : Hp) (vs : List V) (Q : VK) (E : XK), Room k (A.deeper (envOfC q (defScope st) s.heap.objs.size f cdv)) → sp vs H Q E →
      ∃ t, PSs (cxOf (L2.CX P w) P w K mg base N q (defScope st) f cdv A outer s H E) (defBody st) t ∧ t { nx := fun _ H' => Q .non H', rt := Q } (start N vs) H) : OkM P w K mg base C (L2.CX P w) (k + 1) x ps sp := by
  obtain ⟨f, fd, F, hm, hb⟩ := G
  exact ⟨f, fd, hm, hb, F.okX S len (hbody f)⟩
end
section
variable {X : Cx} {CX : CXT} {k j : Nat} {ps : List Str} {sp : Sp} {E : XK} {x m : Str} {p pos apos : Pos} {o e : Expr} {es : List Expr} {ta : TE} {t : TA} {C : Addr} {pl : Sem Bool}
theorem pmethE (O : OkM X.prog X.w X.K X.mg X.base C CX k m ps sp) (cl : Cls X.K C) (hr : Room j X.A) (hx : Passes CX X E) (ho : PE X o ta) (ha : PA X (e :: es) t) (hj : k ≤ j := by first | decide | omega)
    (he : starEach (e :: es) X.env = (false, eval e X.env) :: starEach es X.env := by rfl) (hpl : (backTo pos (starEach es X.env)).any (·.1) = false := by rfl)
    (hm : eval (.Call (.Attribute o m apos) (e :: es) [] pos) X.env = (do
      let ov ← eval o X.env
      standAt apos.atName
      let (f, first) ← holding [ov] (getMethod ov m pl)
      callWith pos f first (backTo pos (starEach (e :: es) X.env)) (backToKw pos (keywordEach [] X.env))) := by rfl) :
    PE X (.Call (.Attribute o m apos) (e :: es) [] pos) (tMeth C m sp [] E ta t) := by
  obtain ⟨f, fd, hm', hb, F⟩ := O
  exact pe_meth ho cl hm' F (hr.mono hj) hb .nil hx ha he hpl hm
theorem pmeth0 (O : OkM X.prog X.w X.K X.mg X.base C CX k m ps sp) (cl : Cls X.K C) (hr : Room j X.A) (hx : Passes CX X E) (ho : PE X o ta) (hj : k ≤ j := by first | decide | omega)
    (hm : eval (.Call (.Attribute o m apos) [] [] pos) X.env = (do
      let ov ← eval o X.env
      standAt apos.atName
      let (f, first) ← holding [ov] (getMethod ov m pl)
      callWith pos f first (backTo pos (starEach [] X.env)) (backToKw pos (keywordEach [] X.env))) := by rfl) :
    PE X (.Call (.Attribute o m apos) [] [] pos) (tMeth C m sp [] E ta tNil) := by
  obtain ⟨f, fd, hm', hb, F⟩ := O
  exact pe_meth0 ho cl hm' F (hr.mono hj) hb .nil hx hm
end
/-! ### the errors -/
inductive Er | sign | token | indent | long | deep
def Er.nm : Er → Str
  | .sign => "BadSign" | .token => "BadToken" | .indent => "BadIndent" | .long => "TooLong" | .deep => "TooDeep"
def xs2 (l c : Int) : List (Str × V) := [("column", .int c), ("line", .int l)]
/-- the error classes at ec, their __init__ -/
structure ErrT (P : Program) (w : World) (K : PySem.W.Frag) (mg : Str → Option Value) (base : Heap) (ec : Er → Addr) : Prop where
  gl : ∀ k : Er, mg k.nm = some (.ref (ec k))
  oex : ∀ k : Er, OexC K (ec k)
  nl : ∀ k : Er, PySem.W.findIn K (.ref (ec k)) "line" = some none
  nc : ∀ k : Er, PySem.W.findIn K (.ref (ec k)) "column" = some none
  ini : ∃ fI fd, (∀ k : Er, PySem.W.findIn K (.ref (ec k)) "__init__" = some (some (.ref fI))) ∧ PySem.W.typeIn K (.ref fI) = some (.type "function") ∧ Binds K fd p_SourceError___init__ [] ∧ Fun K "__init__" "SourceError.__init__" s_SourceError___init__ fI fd
def spInitE (K : PySem.W.Frag) : Sp := fun vs H Q _ => ∃ (a C : Addr) (l c : Int), vs = [.ref a, .int l, .int c] ∧ H a = some (exo a C none) ∧ OexC K C ∧ PySem.W.findIn K (.ref C) "line" = some none ∧ PySem.W.findIn K (.ref C) "column" = some none ∧
  ∀ d H', H d = none → d ≠ a → H' d = some (exd d (xs2 l c)) → H' a = some (exo a C (some d)) → (∀ b, b ≠ a → b ≠ d → H' b = H b) → Q .non H'
section
variable {P : Program} {w : World} {K : PySem.W.Frag} {mg : Str → Option Value} {base : Heap}
theorem ok_SourceError___init__ {f : Addr} {fd : FuncData} (F : Fun K "__init__" "SourceError.__init__" s_SourceError___init__ f fd) : FnOk P w K mg base CX0 1 f fd p_SourceError___init__ (spInitE K) := by
  refine F.ok sc_SourceError___init__ (fun vs H Q E h => ?_) (fun cdv A outer s H vs Q E hr h => ?_)
  · obtain ⟨a, C, l, c, rfl, _⟩ := h; rfl
  obtain ⟨a, C, l, c, rfl, ha, oC, n1, n2, q⟩ := h
  refine ⟨_, pss_cons (ps_ost (pv 0) (pv 1) rfl) (pss_one (ps_ost (pv 0) (pv 2) rfl)), ?_⟩
  refine ⟨_, rfl, _, rfl, a, C, rfl, oC, n1, .inl ⟨ha, fun dx hd ne => ?_⟩⟩
  refine ⟨_, rfl, _, rfl, a, C, rfl, oC, n2, .inr ⟨dx, _, upd_same, by rw [upd_ne ne, upd_same], by show 1 ≤ 900; decide, ?_⟩⟩
  refine q dx _ hd ne upd_same (by rw [upd_ne (Ne.symm ne), upd_same]) fun b h1 h2 => ?_
  rw [upd_ne h2, upd_ne h1, upd_ne h2]
end
/-- the error k(l, c) leaves, what stood in H stands -/
def Rz (ec : Er → Addr) (k : Er) (l c : Int) (H : Hp) (E : XK) : Prop := ∀ d H', Same H H' → H d = none → H' d = some (.xd (xs2 l c)) → E (.ref (ec k)) (some d) H'
theorem pmk_err {X : Cx} {ec : Er → Addr} {x : Str} {p pos : Pos} {e : Expr} {es : List Expr} {ta : TA} {j : Nat} (T : ErrT X.prog X.w X.K X.mg X.base ec) (k : Er) (hr : Room j X.A) (ha : PA X (e :: es) ta) (hj : 2 ≤ j := by first | decide | omega) (hg : Gl X x := by rfl)
    (hx : k.nm = x := by rfl) (hd : (x == ("__debug__" : Str)) = false := by decide) (hs : starEach (e :: es) X.env = (false, eval e X.env) :: starEach es X.env := by rfl) (hpl : (backTo pos (starEach es X.env)).any (·.1) = false := by rfl) :
    PMk X (.Call (.Name x p) (e :: es) [] pos) (tMkO (ec k) (spInitE X.K) [] ta) := by
  obtain ⟨fI, fd, iC, tI, hb, F⟩ := T.ini
  have hm : X.mg x = some (.ref (ec k)) := by rw [← hx]; exact T.gl k
  exact pmk_oex (X := X) (p := p) (pos := pos) (T.oex k) (iC k) tI (ok_SourceError___init__ (P := X.prog) (w := X.w) (mg := X.mg) (base := X.base) F) (hr.mono (j := 2) hj) hb .nil pass0 hg hm ha hd hs hpl
theorem rz_mk {P : Program} {w : World} {K : PySem.W.Frag} {mg : Str → Option Value} {base : Heap} {ec : Er → Addr} {k : Er} {l c : Int} {H : Hp} {Q : XK} (T : ErrT P w K mg base ec) (h : Rz ec k l c H Q) :
    [V.int l, V.int c].length ≤ 1000 ∧ ∀ a, H a = none → spInitE K (.ref a :: ([V.int l, V.int c] ++ [])) (upd H a (exo a (ec k) none))
      (fun v H2 => v = .non ∧ ∃ (d : Addr) (fs : List (Str × V)), H2 a = some (exo a (ec k) (some d)) ∧ H2 d = some (exd d fs) ∧ H d = none ∧ Q (.ref (ec k)) (some d) (upd (del H2 a) d (.xd fs))) (fun _ _ _ => False) := by
  refine ⟨by show 2 ≤ 1000; decide, fun a na => ⟨a, ec k, l, c, rfl, upd_same, T.oex k, T.nl k, T.nc k, fun d H' hd ne h1 h2 h3 => ⟨rfl, d, _, h2, h1, ?_, ?_⟩⟩⟩
  · rw [upd_ne ne] at hd; exact hd
  · rw [upd_ne ne] at hd
    refine h d _ (fun b u e => ?_) hd upd_same
    have nb : b ≠ a := ne_of_none e na
    have nd : b ≠ d := ne_of_none e hd
    rw [upd_ne nd, del_ne nb, h3 b nb nd, upd_ne nb]
    exact e
end D0
namespace D0
open PySem PySem.Spec PyProof.Rows L2 SX
def KW : List (List Nat) := [[97, 110, 100], [97, 115], [98, 114, 101, 97, 107], [99, 108, 97, 115, 115], [99, 111, 110, 116, 105, 110, 117, 101], [100, 101, 102], [100, 101, 108], [101, 108, 105, 102], [101, 108, 115, 101], [101, 120, 99, 101, 112, 116], [70, 97, 108, 115, 101], [102, 105, 110, 97, 108, 108, 121], [102, 111, 114], [102, 114, 111, 109], [103, 108, 111, 98, 97, 108], [105, 102], [105, 110], [105, 115], [108, 97, 109, 98, 100, 97], [109, 111, 100], [78, 111, 110, 101], [110, 111, 110, 108, 111, 99, 97, 108], [110, 111, 116], [111, 114], [112, 97, 115, 115], [114, 97, 105, 115, 101], [114, 101, 116, 117, 114, 110], [84, 114, 117, 101], [116, 114, 121], [119, 104, 105, 108, 101], [119, 105, 116, 104], [121, 105, 101, 108, 100]]
def SG : List (List Nat) := [[47, 47, 61], [43, 61], [45, 61], [42, 61], [47, 47], [61, 61], [33, 61], [60, 61], [62, 61], [60], [62], [61], [43], [45], [42], [40], [41], [91], [93], [123], [125], [44], [58], [46]]
def escV : List Nat → Option (List Nat)
  | [110] => some [10] | [92] => some [92] | [39] => some [39] | [34] => some [34] | _ => none
def cloV : List Nat → Option (List Nat)
  | [41] => some [40] | [93] => some [91] | [125] => some [123] | _ => none
def OPN : List (List Nat) := [[40], [91], [123]]
/-- the written dict named x answers as f -/
def DictT (K : PySem.W.Frag) (w : World) (mg : Str → Option Value) (x : Str) (f : List Nat → Option (List Nat)) : Prop :=
  ∃ (d : Addr) (es : Array DictEntry) (n : Nat), mg x = some (.ref d) ∧ KDict K w d es n ∧ ∀ l : List Nat, ∃ r, PySem.W.nsIn K d (S l) = some r ∧ r.isSome = (f l).isSome ∧ ∀ m, f l = some m → ∃ u0, r = some u0 ∧ RelV (.str (S m)) u0
def TupT (K : PySem.W.Frag) (mg : Str → Option Value) (x : Str) (ls : List (List Nat)) : Prop := ∃ a, mg x = some (.ref a) ∧ ∀ H, SqT K H a (ls.map fun l => .str (S l))
/-- THE TEXT -/
structure Txt (K : PySem.W.Frag) (w : World) (mg : Str → Option Value) : Prop where
  z_ValueError : mg "ValueError" = none
  z_all : mg "all" = none
  z_bool : mg "bool" = none
  z_enumerate : mg "enumerate" = none
  z_int : mg "int" = none
  z_isinstance : mg "isinstance" = none
  z_len : mg "len" = none
  z_list : mg "list" = none
  z_ord : mg "ord" = none
  z_range : mg "range" = none
  z_reversed : mg "reversed" = none
  z_str : mg "str" = none
  z_tuple : mg "tuple" = none
  g_is_row : Gv K mg "is_row" s_is_row p_is_row
  g_is_letter : Gv K mg "is_letter" s_is_letter p_is_letter
  g_is_digit : Gv K mg "is_digit" s_is_digit p_is_digit
  g_digits_end : Gv K mg "digits_end" s_digits_end p_digits_end
  g_name_end : Gv K mg "name_end" s_name_end p_name_end
  g_scan_token : Gv K mg "scan_token" s_scan_token p_scan_token
  g_scan_name : Gv K mg "scan_name" s_scan_name p_scan_name
  g_scan_number : Gv K mg "scan_number" s_scan_number p_scan_number
  g_scan_text : Gv K mg "scan_text" s_scan_text p_scan_text
  g_scan_sign : Gv K mg "scan_sign" s_scan_sign p_scan_sign
  g_tokens : Gv K mg "tokens" s_tokens p_tokens
  g_checked_rows : Gv K mg "checked_rows" s_checked_rows p_checked_rows
  g_check_letters : Gv K mg "check_letters" s_check_letters p_check_letters
  g_spaces_end : Gv K mg "spaces_end" s_spaces_end p_spaces_end
  g__law_bag : Gv K mg "_law_bag" s__law_bag p__law_bag
  g__law_take : Gv K mg "_law_take" s__law_take p__law_take
  g__law_whole : Gv K mg "_law_whole" s__law_whole p__law_whole
  g__law_signs : Gv K mg "_law_signs" s__law_signs p__law_signs
  g__law_keywords : Gv K mg "_law_keywords" s__law_keywords p__law_keywords
  g__law_letters : Gv K mg "_law_letters" s__law_letters p__law_letters
  g__law_allowed : Gv K mg "_law_allowed" s__law_allowed p__law_allowed
  g__law_name : Gv K mg "_law_name" s__law_name p__law_name
  g__law_figures : Gv K mg "_law_figures" s__law_figures p__law_figures
  g__law_quoted : Gv K mg "_law_quoted" s__law_quoted p__law_quoted
  g__law_word : Gv K mg "_law_word" s__law_word p__law_word
  g__law_odd : Gv K mg "_law_odd" s__law_odd p__law_odd
  g__law_comment : Gv K mg "_law_comment" s__law_comment p__law_comment
  g__law_row_end : Gv K mg "_law_row_end" s__law_row_end p__law_row_end
  g__law_pieces : Gv K mg "_law_pieces" s__law_pieces p__law_pieces
  g__law_source : Gv K mg "_law_source" s__law_source p__law_source
  g__law_edited : Gv K mg "_law_edited" s__law_edited p__law_edited
  g__law_extent : Gv K mg "_law_extent" s__law_extent p__law_extent
  g__law_block_fault : Gv K mg "_law_block_fault" s__law_block_fault p__law_block_fault
  g__law_first_fault : Gv K mg "_law_first_fault" s__law_first_fault p__law_first_fault
  g__law_fault : Gv K mg "_law_fault" s__law_fault p__law_fault
  g__law_quoted_size : Gv K mg "_law_quoted_size" s__law_quoted_size p__law_quoted_size
  g__law_size : Gv K mg "_law_size" s__law_size p__law_size
  g__law_next_spot : Gv K mg "_law_next_spot" s__law_next_spot p__law_next_spot
  g__law_margin : Gv K mg "_law_margin" s__law_margin p__law_margin
  g__law_follows : Gv K mg "_law_follows" s__law_follows p__law_follows
  g__law_is_tokens : Gv K mg "_law_is_tokens" s__law_is_tokens p__law_is_tokens
  g__law_classes : Gv K mg "_law_classes" s__law_classes p__law_classes
  g__law_is_raised : Gv K mg "_law_is_raised" s__law_is_raised p__law_is_raised
  g__law_is_right : Gv K mg "_law_is_right" s__law_is_right p__law_is_right
  g_law : Gv K mg "law" s_law p_law
  c_PERCENT : ∃ t, mg "PERCENT" = some (.int 37 t)
  c_NAME_LIMIT : ∃ t, mg "NAME_LIMIT" = some (.int 30 t)
  c_NUMBER_LIMIT : ∃ t, mg "NUMBER_LIMIT" = some (.int 40 t)
  c_TEXT_LIMIT : ∃ t, mg "TEXT_LIMIT" = some (.int 6000 t)
  c_ROW_LIMIT : ∃ t, mg "ROW_LIMIT" = some (.int 120 t)
  c_TOKEN_LIMIT : ∃ t, mg "TOKEN_LIMIT" = some (.int 120 t)
  c_INDENT_LIMIT : ∃ t, mg "INDENT_LIMIT" = some (.int 11 t)
  c_KEYWORDS : TupT K mg "KEYWORDS" KW
  c_SIGNS : TupT K mg "SIGNS" SG
  c_OPENING : TupT K mg "OPENING" OPN
  c_ESCAPES : DictT K w mg "ESCAPES" escV
  c_CLOSING : DictT K w mg "CLOSING" cloV
/-- the class Scanner at C -/
structure ScT (K : PySem.W.Frag) (mg : Str → Option Value) (C : Addr) : Prop where
  cl : Cls K C
  gl : mg "Scanner" = some (.ref C)
  n_marks : NoAttr K C "marks"
  n_brackets : NoAttr K C "brackets"
  n_indents : NoAttr K C "indents"
  n_many : NoAttr K C "many"
  n_behind : NoAttr K C "behind"
  ini : ∃ fI fd, Mk K C fI ∧ Binds K fd p_Scanner___init__ [] ∧ Fun K "__init__" "Scanner.__init__" s_Scanner___init__ fI fd
  g_scan_row : Gvm K C "scan_row" "Scanner.scan_row" s_Scanner_scan_row p_Scanner_scan_row
  g_begin_line : Gvm K C "begin_line" "Scanner.begin_line" s_Scanner_begin_line p_Scanner_begin_line
  g_gather : Gvm K C "gather" "Scanner.gather" s_Scanner_gather p_Scanner_gather
  g_match_bracket : Gvm K C "match_bracket" "Scanner.match_bracket" s_Scanner_match_bracket p_Scanner_match_bracket
  g_end_line : Gvm K C "end_line" "Scanner.end_line" s_Scanner_end_line p_Scanner_end_line
  g_end_text : Gvm K C "end_text" "Scanner.end_text" s_Scanner_end_text p_Scanner_end_text
end D0
namespace D0
open PySem PySem.Spec PyProof.Rows L2 SX
def isDig (c : Nat) : Bool := decide (48 ≤ c ∧ c ≤ 57)
def spIsDigit : Sp := fun vs H Q _ => ∃ l : List Nat, vs = [.str (S l)] ∧ l.length ≤ 1 ∧ Q (.bl (l.any isDig)) H
/-- texts of the program are below this -/
abbrev big : Nat := 1000000
theorem big_line {n : Nat} (h : n ≤ big) : n ≤ sizeLine := by
  have : big ≤ sizeLine := by decide
  omega
theorem S_line {l : List Nat} (h : l.length ≤ big) : (S l).length ≤ sizeLine := by rw [S_len]; exact big_line h
def spDigitsEnd : Sp := fun vs H Q _ => ∃ (l : List Nat) (i : Nat), vs = [.str (S l), .int i] ∧ l.length ≤ big ∧ i ≤ l.length ∧ Q (.int ((i + ((l.drop i).takeWhile isDig).length : Nat) : Int)) H
theorem at_S {l : List Nat} {i : Nat} {c : Nat} (h : l[i]? = some c) : atI (S l).cps.toList (i : Int) = some c := by
  exact atI_nat h
theorem lex1 (a b : Nat) : decide ([a] < [b]) = decide (a < b) := by
  by_cases h : a < b
  · rw [decide_eq_true h]; exact decide_eq_true (List.Lex.rel h)
  · rw [decide_eq_false h]
    refine decide_eq_false fun z => ?_
    cases z with
    | rel r => exact h r
    | cons r => cases r
theorem tw_step {l : List Nat} {k c : Nat} (h : l[k]? = some c) (d : isDig c = true) : k + ((l.drop k).takeWhile isDig).length = (k + 1) + ((l.drop (k + 1)).takeWhile isDig).length := by
  obtain ⟨hk, e⟩ := List.getElem?_eq_some_iff.mp h
  rw [List.drop_eq_getElem_cons hk, e, List.takeWhile_cons, if_pos d, List.length_cons]
  omega
theorem tw_stop {l : List Nat} {k c : Nat} (h : l[k]? = some c) (d : isDig c = false) : ((l.drop k).takeWhile isDig).length = 0 := by
  obtain ⟨hk, e⟩ := List.getElem?_eq_some_iff.mp h
  rw [List.drop_eq_getElem_cons hk, e, List.takeWhile_cons, if_neg (by rw [d]; exact Bool.false_ne_true)]
  rfl
section
variable {P : Program} {w : World} {K : PySem.W.Frag} {mg : Str → Option Value} {base : Heap}
theorem ok_is_digit (G : Gv K mg "is_digit" s_is_digit p_is_digit) : OkD P w K mg base CX0 1 "is_digit" p_is_digit spIsDigit := by
  refine G.ok sc_is_digit (fun vs H Q E h => ?_) (fun f cdv A outer s H vs Q E hr h => ?_)
  · obtain ⟨l, rfl, _⟩ := h; rfl
  obtain ⟨l, rfl, hl, q⟩ := h
  refine ⟨_, pss_one (ps_ret (pe_chain op_le_str op_le_str pe_str (pv 0) pe_str)), ?_⟩
  have e0 : (Str.ofString "0").cps.toList = [48] := by decide +kernel
  have e9 : (Str.ofString "9").cps.toList = [57] := by decide +kernel
  refine ⟨_, rfl, _, _, rfl, rfl, _, rfl, ite2 (fun c => ?_) (fun c => ?_)⟩
  · refine ⟨_, _, rfl, rfl, ?_⟩
    show Q (.bl (!decide ((Str.ofString "9").cps.toList < (S l).cps.toList))) H
    rw [e9]
    rw [e0] at c
    match l, hl, c, q with
    | [], _, c, q => exact absurd c (by decide)
    | [x], _, c, q =>
      have c' : (!decide ([x] < [48])) = true := c
      rw [lex1] at c'
      show Q (.bl (!decide ([57] < [x]))) H
      rw [lex1]
      have e : (!decide (57 < x)) = [x].any isDig := by
        show _ = (isDig x || false)
        unfold isDig
        have : ¬ x < 48 := by simpa using c'
        by_cases h : x ≤ 57
        · have h2 : ¬ 57 < x := by omega
          simp [h, h2]; omega
        · have h2 : 57 < x := by omega
          simp [h, h2]
      rw [e]; exact q
  · show Q (.bl false) H
    rw [e0] at c
    match l, hl, c, q with
    | [], _, c, q => exact q
    | [x], _, c, q =>
      have c' : ¬ (!decide ([x] < [48])) = true := c
      rw [lex1] at c'
      have h : x < 48 := by simpa using c'
      have e : [x].any isDig = false := by
        show (isDig x || false) = false
        unfold isDig
        have : ¬ 48 ≤ x := by omega
        simp [this]
      rw [← e]; exact q
theorem ok_digits_end (G : Gv K mg "digits_end" s_digits_end p_digits_end) (O1 : OkD P w K mg base CX0 1 "is_digit" p_is_digit spIsDigit) (zlen : mg "len" = none) : OkD P w K mg base CX0 2 "digits_end" p_digits_end spDigitsEnd := by
  refine G.ok sc_digits_end (fun vs H Q E h => ?_) (fun f cdv A outer s H vs Q E hr h => ?_)
  · obtain ⟨l, i, rfl, _⟩ := h; rfl
  obtain ⟨l, i, rfl, hl, hi, q⟩ := h
  refine ⟨_, pss_cons (ps_set (i := 2) sc_digits_end.nd rfl (.inl rfl) (pv 1))
    (pss_cons (ps_while PassesOwn.never (PW.pt (pw_and (pt_cmpR op_lt (pv 2) (pe_callB call_len_str (by rfl) zlen PySem.boot_len (pa_cons (pv 0) pa_nil)) (nomark _)) (pw_and1 (pt_val (pcall O1 hr (pa_cons (pe_ix ix_str (pv 0) (pv 2) (fun _ _ => rfl)) pa_nil))))))
      (pss_one (ps_aug (i := 2) sc_digits_end.nd rfl (.inl rfl) pe_int ip_add)))
    (pss_one (ps_ret (pv 2)))), ?_⟩
  refine ⟨_, rfl, fun m σ H' => ∃ k : Nat, σ = [some (.str (S l)), some (.int i), some (.int k)] ∧ H' = H ∧ m = l.length - k ∧ k ≤ l.length ∧ i + ((l.drop i).takeWhile isDig).length = k + ((l.drop k).takeWhile isDig).length,
    ⟨_, i, rfl, rfl, rfl, hi, rfl⟩, ?_⟩
  rintro m σ H' ⟨k, rfl, rfl, rfl, hk, e⟩
  refine ⟨_, rfl, _, rfl, _, rfl, S_line hl, _, _, rfl, rfl, _, rfl, ite2 (fun c => ?_) (fun c => ?_)⟩
  · have c' : (k : Int) < ((S l).length : Int) := of_decide_eq_true c
    rw [S_len] at c'
    have hk' : k < l.length := by omega
    have g : l[k]? = some l[k] := List.getElem?_eq_getElem hk'
    refine ⟨_, rfl, _, rfl, S l, k, _, rfl, rfl, S_line hl, at_S g, [l[k]], rfl, Nat.le_refl 1, _, rfl, ite2 (fun d => ?_) (fun d => ?_)⟩
    · have d' : isDig l[k] = true := by simpa using d
      refine ⟨_, fun _ _ h => h, ?_⟩
      refine ⟨_, rfl, _, _, rfl, rfl, ?_⟩
      exact ⟨_, by omega, k + 1, rfl, rfl, rfl, by omega, by rw [e]; exact tw_step g d'⟩
    · have d' : isDig l[k] = false := by simpa using d
      refine ⟨_, rfl, ?_⟩
      rw [e, tw_stop g d'] at q
      exact q
  · have c' : ¬ (k : Int) < ((S l).length : Int) := of_decide_eq_false (Bool.eq_false_iff.mpr c)
    rw [S_len] at c'
    have hk' : k = l.length := by omega
    refine ⟨_, rfl, ?_⟩
    rw [e, hk', List.drop_length] at q
    rw [hk']
    exact q
end
end D0
namespace D0
open PySem PySem.Spec PyProof.Rows L2 SX
/-- a character that a row may hold -/
def rowc (c : Nat) : Bool := decide (32 ≤ c ∧ c ≤ 126 ∧ c ≠ 37)
theorem same_new {H : Hp} {p : Addr} (h : H p = none) (o : HO) : Same H (upd H p o) := fun b u q => by rw [upd_ne (ne_of_none q h)]; exact q
theorem tl_S (l : List Nat) : (S l).cps.toList = l := rfl
def spIsRow : Sp := fun vs H Q _ => ∃ l : List Nat, vs = [.str (S l)] ∧ l.length ≤ big ∧ ∀ H', Same H H' → Q (.bl (l.all rowc)) H'
theorem asc_S (l : List Nat) : Txt.isascii (S l) = l.all (fun c => decide (c < 128)) := by
  show (S l).cps.all _ = _
  rw [← Array.all_toList]
theorem pri_S (l : List Nat) : Txt.isprintable (S l) = l.all Unicode.isPrintable := by
  show (S l).cps.all _ = _
  rw [← Array.all_toList]
theorem pri_lt {c : Nat} (h : c < 128) : Unicode.isPrintable c = decide (32 ≤ c ∧ c ≤ 126) := by
  have z : ∀ c, c < 128 → Unicode.isPrintable c = decide (32 ≤ c ∧ c ≤ 126) := by decide +kernel
  exact z c h
theorem row_no1 {l : List Nat} (h : l.all (fun c => decide (c < 128)) = false) : l.all rowc = false := by
  cases e : l.all rowc with
  | false => rfl
  | true =>
    rw [List.all_eq_true] at e
    have : l.all (fun c => decide (c < 128)) = true := List.all_eq_true.mpr fun c hc => by
      have := e c hc
      unfold rowc at this
      have := of_decide_eq_true this
      exact decide_eq_true (by omega)
    rw [this] at h; cases h
theorem row_no2 {l : List Nat} (h0 : l.all (fun c => decide (c < 128)) = true) (h : l.all Unicode.isPrintable = false) : l.all rowc = false := by
  cases e : l.all rowc with
  | false => rfl
  | true =>
    rw [List.all_eq_true] at e h0
    have : l.all Unicode.isPrintable = true := List.all_eq_true.mpr fun c hc => by
      have h1 := e c hc
      unfold rowc at h1
      have h1 := of_decide_eq_true h1
      rw [pri_lt (by omega)]
      exact decide_eq_true ⟨h1.1, h1.2.1⟩
    rw [this] at h; cases h
theorem row_in {l : List Nat} (h0 : l.all (fun c => decide (c < 128)) = true) (h : l.all Unicode.isPrintable = true) : l.all rowc = !inV (.int 37) (l.map fun c => V.int (c : Nat)) := by
  rw [List.all_eq_true] at h0 h
  have e : inV (.int 37) (l.map fun c => V.int (c : Nat)) = l.any (fun c => c == 37) := by
    unfold inV
    rw [List.any_map]
    congr 1
    funext c
    show decide ((c : Int) = 37) = _
    by_cases z : c = 37
    · subst z; rfl
    · have z2 : ¬ (c : Int) = 37 := by omega
      rw [decide_eq_false z2]; exact (beq_eq_false_iff_ne.mpr z).symm
  rw [e, List.not_any_eq_all_not]
  rw [Bool.eq_iff_iff, List.all_eq_true, List.all_eq_true]
  constructor
  · intro k c hc
    have k1 := of_decide_eq_true (show decide _ = true from k c hc)
    simp; omega
  · intro k c hc
    have k1 : ¬ c = 37 := by simpa using k c hc
    have h1 := h c hc
    rw [pri_lt (of_decide_eq_true (h0 c hc))] at h1
    have h2 := of_decide_eq_true h1
    exact decide_eq_true ⟨h2.1, h2.2, k1⟩
section
variable {P : Program} {w : World} {K : PySem.W.Frag} {mg : Str → Option Value} {base : Heap}
theorem ok_is_row (G : Gv K mg "is_row" s_is_row p_is_row) (zord : mg "ord" = none) (gP : ∃ t, mg "PERCENT" = some (.int 37 t)) : OkD P w K mg base CX0 1 "is_row" p_is_row spIsRow := by
  refine G.ok sc_is_row (fun vs H Q E h => ?_) (fun f cdv A outer s H vs Q E hr h => ?_)
  · obtain ⟨l, rfl, _⟩ := h; rfl
  obtain ⟨l, rfl, hl, q⟩ := h
  refine ⟨_, pss_cons (ps_if (PW.pt (pw_or (pt_not (pt_val (pe_bm0 PySem.F.plainAttrs_str PySem.F.slot_str_isascii PySem.F.type_str_isascii mt_isascii (pv 0))))
      (pw_or1 (pt_not (pt_val (pe_bm0 PySem.F.plainAttrs_str PySem.F.slot_str_isprintable PySem.F.type_str_isprintable mt_isprintable (pv 0)))))))
      (pss_one (ps_ret pe_bl)) pss_nil)
    (pss_one (ps_ret (pe_cmpR op_notIn_seq (pe_gI gP)
      (pe_lc (own := [("sign", 1)]) (g := gName 1) (tt := tYes) rfl sc_is_row.nd (pi_str (pv 0)) (blkOk_by (own := [("sign", 1)]) (N := n_is_row) (sc := defScope s_is_row) (by decide +kernel))
        (fun _ _ _ _ _ => pg_name (i := 1) sc_is_row.nd rfl (Or.inl rfl)) (fun _ _ _ _ _ => pts_nil) (fun _ _ _ _ _ => pe_callB call_ord (by rfl) zord (by decide +kernel) (pa_cons (pv 1) pa_nil))) (by rfl)))), ?_⟩
  refine ⟨_, rfl, rfl, _, rfl, rfl, trivial, _, rfl, ?_⟩
  rw [asc_S]
  cases ha : l.all (fun c => decide (c < 128)) with
  | false =>
    refine iteT (iteT ?_)
    have := q H (Same.refl H)
    rw [row_no1 ha] at this
    exact this
  | true =>
    refine iteF ⟨_, rfl, rfl, _, rfl, rfl, trivial, _, rfl, ?_⟩
    rw [pri_S]
    cases hp : l.all Unicode.isPrintable with
    | false =>
      refine iteT ?_
      have := q H (Same.refl H)
      rw [row_no2 ha hp] at this
      exact this
    | true =>
      refine iteF ?_
      refine ⟨_, rfl, S l, rfl, fun D hD => ?_⟩
      refine lc_it walk_str (fun i H' => Same H H' ∧ H' D = some (.lst ((l.take i).map fun c => V.int (c : Nat)))) ⟨same_new hD _, upd_same⟩ (fun _ _ _ _ => trivial) ?_ ?_
      · rintro i x H1 H2 hi ⟨sm, hl1⟩ ⟨rfl, c, hc, rfl⟩
        have hc' : l[i]? = some c := by simpa using hc
        refine ⟨rfl, iteT (B := True) (iteT ?_)⟩
        refine ⟨_, rfl, ⟨#[c]⟩, rfl, rfl, _, hl1, ?_, ?_, ?_⟩
        · rw [List.length_map, List.length_take]
          have : big < sizeLine := by decide
          omega
        · intro b o e
          rw [upd_ne (ne_of_none e hD)]
          exact sm _ _ e
        · rw [upd_same, List.take_add_one, hc', List.map_append]
          rfl
      · rintro H1 ⟨sm, hl1⟩
        have e : l.take (S l).cps.size = l := List.take_of_length_le (by simp)
        rw [e] at hl1
        refine ⟨D, _, rfl, .inl (SqL.of hl1), rfl, ?_, ?_⟩
        · rw [List.all_map]; exact List.all_eq_true.mpr fun _ _ => rfl
        · have := q H1 sm
          rw [row_in ha hp] at this
          exact this
end
end D0
namespace D0
open PySem PySem.Spec PyProof.Rows L2 SX
theorem PE.of {X : Cx} {e : Expr} {t t' : TE} (h : PE X e t) (f : ∀ σ H Q, t' σ H Q → t σ H Q) : PE X e t' := ⟨fun pins s σ H Q I q => h.run pins s σ H Q I (f σ H Q q)⟩
def letc (c : Nat) : Bool := decide (97 ≤ c ∧ c ≤ 122) || decide (65 ≤ c ∧ c ≤ 90) || c == 95
def spIsLetter : Sp := fun vs H Q _ => ∃ l : List Nat, vs = [.str (S l)] ∧ l.length ≤ 1 ∧ Q (.bl (l.any letc)) H
theorem le_of {a b : Str} {x y : Nat} {l : List Nat} (ea : a.cps.toList = [x]) (eb : b.cps.toList = [y]) (hl : l.length ≤ 1) :
    (if (!decide ((S l).cps.toList < a.cps.toList)) = true then (!decide (b.cps.toList < (S l).cps.toList)) else false) = l.any fun c => decide (x ≤ c ∧ c ≤ y) := by
  rw [ea, eb]
  show (if (!decide (l < [x])) = true then (!decide ([y] < l)) else false) = _
  match l, hl with
  | [], _ => rfl
  | [c], _ =>
    rw [lex1, lex1]
    show _ = (decide (x ≤ c ∧ c ≤ y) || false)
    by_cases h1 : c < x <;> by_cases h2 : y < c <;> simp [h1, h2] <;> omega
def tBtw (i x y : Nat) : TE := fun σ H Q => ∃ l : List Nat, σ[i]? = some (some (.str (S l))) ∧ l.length ≤ 1 ∧ Q (.bl (l.any fun c => decide (x ≤ c ∧ c ≤ y))) H
theorem ch_of {a b : Str} {x y : Nat} {l : List Nat} {H : Hp} {Q : VK} (ea : a.cps.toList = [x]) (eb : b.cps.toList = [y]) (hl : l.length ≤ 1) (q : Q (.bl (l.any fun c => decide (x ≤ c ∧ c ≤ y))) H) :
    if (!decide ((S l).cps.toList < a.cps.toList)) = true then Q (.bl (!decide (b.cps.toList < (S l).cps.toList))) H else Q (.bl false) H := by
  rw [← le_of ea eb hl] at q
  by_cases c : (!decide ((S l).cps.toList < a.cps.toList)) = true
  · rw [if_pos c] at q ⊢; exact q
  · rw [if_neg c] at q ⊢; exact q
section
variable {P : Program} {w : World} {K : PySem.W.Frag} {mg : Str → Option Value} {base : Heap}
theorem ok_is_letter (G : Gv K mg "is_letter" s_is_letter p_is_letter) : OkD P w K mg base CX0 1 "is_letter" p_is_letter spIsLetter := by
  refine G.ok sc_is_letter (fun vs H Q E h => ?_) (fun f cdv A outer s H vs Q E hr h => ?_)
  · obtain ⟨l, rfl, _⟩ := h; rfl
  obtain ⟨l, rfl, hl, q⟩ := h
  have ea : (Str.ofString "a").cps.toList = [97] ∧ (Str.ofString "z").cps.toList = [122] ∧ (Str.ofString "A").cps.toList = [65] ∧ (Str.ofString "Z").cps.toList = [90] ∧ Str.ofString "_" = S [95] := by decide +kernel
  refine ⟨_, pss_one (ps_ret (pe_or (PE.of (t' := tBtw 0 97 122) (pe_chain op_le_str op_le_str pe_str (pv 0) pe_str) ?a1) (pe_or (PE.of (t' := tBtw 0 65 90) (pe_chain op_le_str op_le_str pe_str (pv 0) pe_str) ?a2) (pe_one (pe_cmpR op_eq (pv 0) pe_str (nomark _)))))), ?_⟩
  case a1 =>
    intro σ H Q ⟨l, e, hl, q⟩
    refine ⟨_, e, _, _, rfl, rfl, _, rfl, ?_⟩
    have := ch_of ea.1 ea.2.1 hl q
    refine ite2 (fun c => ⟨_, _, rfl, rfl, ?_⟩) (fun c => ?_)
    · rw [if_pos c] at this; exact this
    · rw [if_neg c] at this; exact this
  case a2 =>
    intro σ H Q ⟨l, e, hl, q⟩
    refine ⟨_, e, _, _, rfl, rfl, _, rfl, ?_⟩
    have := ch_of ea.2.2.1 ea.2.2.2.1 hl q
    refine ite2 (fun c => ⟨_, _, rfl, rfl, ?_⟩) (fun c => ?_)
    · rw [if_pos c] at this; exact this
    · rw [if_neg c] at this; exact this
  have eq : l.any letc = (l.any (fun c => decide (97 ≤ c ∧ c ≤ 122)) || (l.any (fun c => decide (65 ≤ c ∧ c ≤ 90)) || decide (V.str (S l) = V.str (Str.ofString "_")))) := by
    rw [ea.2.2.2.2]
    match l, hl with
    | [], _ => rfl
    | [c], _ =>
      have e2 : decide (V.str (S [c]) = V.str (S [95])) = (c == 95) := by
        by_cases h : c = 95
        · subst h; rw [decide_eq_true rfl]; rfl
        · rw [decide_eq_false (fun z => h (by have := S_inj (V.str.inj z); simpa using this))]; exact (beq_eq_false_iff_ne.mpr h).symm
      rw [e2]
      simp [letc, Bool.or_assoc]
  refine ⟨l, rfl, hl, _, rfl, ite2 (fun c => ?_) (fun c => ?_)⟩
  · rw [eq, c, Bool.true_or] at q; exact q
  · rw [eq, Bool.eq_false_iff.mpr c, Bool.false_or] at q
    refine ⟨l, rfl, hl, _, rfl, ite2 (fun c2 => ?_) (fun c2 => ?_)⟩
    · rw [c2, Bool.true_or] at q; exact q
    · rw [Bool.eq_false_iff.mpr c2, Bool.false_or] at q
      exact ⟨_, rfl, rfl, q⟩
def namc (c : Nat) : Bool := letc c || isDig c
def twl (f : Nat → Bool) (l : List Nat) (i : Nat) : Nat := i + ((l.drop i).takeWhile f).length
theorem twl_step {f : Nat → Bool} {l : List Nat} {k c : Nat} (h : l[k]? = some c) (d : f c = true) : twl f l k = twl f l (k + 1) := by
  obtain ⟨hk, e⟩ := List.getElem?_eq_some_iff.mp h
  unfold twl
  rw [List.drop_eq_getElem_cons hk, e, List.takeWhile_cons, if_pos d, List.length_cons]
  omega
theorem twl_stop {f : Nat → Bool} {l : List Nat} {k c : Nat} (h : l[k]? = some c) (d : f c = false) : twl f l k = k := by
  obtain ⟨hk, e⟩ := List.getElem?_eq_some_iff.mp h
  unfold twl
  rw [List.drop_eq_getElem_cons hk, e, List.takeWhile_cons, if_neg (by rw [d]; exact Bool.false_ne_true)]
  rfl
theorem twl_end {f : Nat → Bool} {l : List Nat} : twl f l l.length = l.length := by unfold twl; rw [List.drop_length]; rfl
theorem twl_le {f : Nat → Bool} {l : List Nat} {i : Nat} (h : i ≤ l.length) : twl f l i ≤ l.length := by
  unfold twl
  have := (List.takeWhile_prefix (p := f) (l := l.drop i)).length_le
  rw [List.length_drop] at this; omega
def spEnd (f : Nat → Bool) : Sp := fun vs H Q _ => ∃ (l : List Nat) (i : Nat), vs = [.str (S l), .int i] ∧ l.length ≤ big ∧ i ≤ l.length ∧ Q (.int ((twl f l i : Nat) : Int)) H
theorem ok_name_end (G : Gv K mg "name_end" s_name_end p_name_end) (O1 : OkD P w K mg base CX0 1 "is_digit" p_is_digit spIsDigit) (O2 : OkD P w K mg base CX0 1 "is_letter" p_is_letter spIsLetter) (zlen : mg "len" = none) : OkD P w K mg base CX0 2 "name_end" p_name_end (spEnd namc) := by
  refine G.ok sc_name_end (fun vs H Q E h => ?_) (fun f cdv A outer s H vs Q E hr h => ?_)
  · obtain ⟨l, i, rfl, _⟩ := h; rfl
  obtain ⟨l, i, rfl, hl, hi, q⟩ := h
  refine ⟨_, pss_cons (ps_set (i := 2) sc_name_end.nd rfl (.inl rfl) (pv 1))
    (pss_cons (ps_while PassesOwn.never (PW.pt (pw_and (pt_cmpR op_lt (pv 2) (pe_callB call_len_str (by rfl) zlen PySem.boot_len (pa_cons (pv 0) pa_nil)) (nomark _)) (pw_and1 (PW.pt (pw_or (pt_val (pcall O2 hr (pa_cons (pe_ix ix_str (pv 0) (pv 2) (fun _ _ => rfl)) pa_nil))) (pw_or1 (pt_val (pcall O1 hr (pa_cons (pe_ix ix_str (pv 0) (pv 2) (fun _ _ => rfl)) pa_nil)))))))))
      (pss_one (ps_aug (i := 2) sc_name_end.nd rfl (.inl rfl) pe_int ip_add)))
    (pss_one (ps_ret (pv 2)))), ?_⟩
  refine ⟨_, rfl, fun m σ H' => ∃ k : Nat, σ = [some (.str (S l)), some (.int i), some (.int k)] ∧ H' = H ∧ m = l.length - k ∧ k ≤ l.length ∧ twl namc l i = twl namc l k,
    ⟨_, i, rfl, rfl, rfl, hi, rfl⟩, ?_⟩
  rintro m σ H' ⟨k, rfl, rfl, rfl, hk, e⟩
  refine ⟨_, rfl, _, rfl, _, rfl, S_line hl, _, _, rfl, rfl, _, rfl, ite2 (fun c => ?_) (fun c => ?_)⟩
  · have c' : (k : Int) < ((S l).length : Int) := of_decide_eq_true c
    rw [S_len] at c'
    have hk' : k < l.length := by omega
    have g : l[k]? = some l[k] := List.getElem?_eq_getElem hk'
    have stop : namc l[k] = false → Q (.int ((k : Nat) : Int)) H' := fun d => by rw [e, twl_stop g d] at q; exact q
    have go : namc l[k] = true → twl namc l i = twl namc l (k + 1) := fun d => by rw [e]; exact twl_step g d
    refine ⟨_, rfl, _, rfl, S l, k, _, rfl, rfl, S_line hl, at_S g, [l[k]], rfl, Nat.le_refl 1, _, rfl, ite2 (fun d => ?_) (fun d => ?_)⟩
    · have d' : letc l[k] = true := by simpa using d
      refine ⟨_, fun _ _ h => h, ?_⟩
      exact ⟨_, rfl, _, _, rfl, rfl, _, by omega, k + 1, rfl, rfl, rfl, by omega, go (by unfold namc; rw [d']; rfl)⟩
    · have d' : letc l[k] = false := by simpa using d
      refine ⟨_, rfl, _, rfl, S l, k, _, rfl, rfl, S_line hl, at_S g, [l[k]], rfl, Nat.le_refl 1, _, rfl, ite2 (fun d2 => ?_) (fun d2 => ?_)⟩
      · have d2' : isDig l[k] = true := by simpa using d2
        refine ⟨_, fun _ _ h => h, ?_⟩
        exact ⟨_, rfl, _, _, rfl, rfl, _, by omega, k + 1, rfl, rfl, rfl, by omega, go (by unfold namc; rw [d', d2']; rfl)⟩
      · have d2' : isDig l[k] = false := by simpa using d2
        exact ⟨_, rfl, stop (by unfold namc; rw [d', d2']; rfl)⟩
  · have c' : ¬ (k : Int) < ((S l).length : Int) := of_decide_eq_false (Bool.eq_false_iff.mpr c)
    rw [S_len] at c'
    have hk' : k = l.length := by omega
    refine ⟨_, rfl, ?_⟩
    rw [e, hk', twl_end] at q
    rw [hk']
    exact q
def spc (c : Nat) : Bool := c == 32
theorem ok_spaces_end (G : Gv K mg "spaces_end" s_spaces_end p_spaces_end) (zlen : mg "len" = none) : OkD P w K mg base CX0 1 "spaces_end" p_spaces_end (spEnd spc) := by
  refine G.ok sc_spaces_end (fun vs H Q E h => ?_) (fun f cdv A outer s H vs Q E hr h => ?_)
  · obtain ⟨l, i, rfl, _⟩ := h; rfl
  obtain ⟨l, i, rfl, hl, hi, q⟩ := h
  refine ⟨_, pss_cons (ps_set (i := 2) sc_spaces_end.nd rfl (.inl rfl) (pv 1))
    (pss_cons (ps_while PassesOwn.never (PW.pt (pw_and (pt_cmpR op_lt (pv 2) (pe_callB call_len_str (by rfl) zlen PySem.boot_len (pa_cons (pv 0) pa_nil)) (nomark _)) (pw_and1 (pt_cmpR op_eq (pe_ix ix_str (pv 0) (pv 2) (fun _ _ => rfl)) pe_str (nomark _)))))
      (pss_one (ps_aug (i := 2) sc_spaces_end.nd rfl (.inl rfl) pe_int ip_add)))
    (pss_one (ps_ret (pv 2)))), ?_⟩
  refine ⟨_, rfl, fun m σ H' => ∃ k : Nat, σ = [some (.str (S l)), some (.int i), some (.int k)] ∧ H' = H ∧ m = l.length - k ∧ k ≤ l.length ∧ twl spc l i = twl spc l k,
    ⟨_, i, rfl, rfl, rfl, hi, rfl⟩, ?_⟩
  rintro m σ H' ⟨k, rfl, rfl, rfl, hk, e⟩
  refine ⟨_, rfl, _, rfl, _, rfl, S_line hl, _, _, rfl, rfl, _, rfl, ite2 (fun c => ?_) (fun c => ?_)⟩
  · have c' : (k : Int) < ((S l).length : Int) := of_decide_eq_true c
    rw [S_len] at c'
    have hk' : k < l.length := by omega
    have g : l[k]? = some l[k] := List.getElem?_eq_getElem hk'
    have e1 : decide (V.str ⟨#[l[k]]⟩ = V.str (Str.ofString " ")) = spc l[k] := by
      have z : Str.ofString " " = S [32] := by decide +kernel
      rw [z]
      unfold spc
      by_cases h : l[k] = 32
      · rw [h]; exact decide_eq_true rfl
      · rw [decide_eq_false (fun z => h (by have := S_inj (a := [l[k]]) (b := [32]) (V.str.inj z); simpa using this))]; exact (beq_eq_false_iff_ne.mpr h).symm
    refine ⟨_, rfl, _, rfl, S l, k, _, rfl, rfl, S_line hl, at_S g, rfl, _, rfl, ite2 (fun d => ?_) (fun d => ?_)⟩
    · rw [e1] at d
      refine ⟨_, fun _ _ h => h, ?_⟩
      exact ⟨_, rfl, _, _, rfl, rfl, _, by omega, k + 1, rfl, rfl, rfl, by omega, by rw [e]; exact twl_step g d⟩
    · rw [e1] at d
      refine ⟨_, rfl, ?_⟩
      rw [e, twl_stop g (Bool.eq_false_iff.mpr d)] at q
      exact q
  · have c' : ¬ (k : Int) < ((S l).length : Int) := of_decide_eq_false (Bool.eq_false_iff.mpr c)
    rw [S_len] at c'
    have hk' : k = l.length := by omega
    refine ⟨_, rfl, ?_⟩
    rw [e, hk', twl_end] at q
    rw [hk']
    exact q
end
end D0
namespace D0
open PySem PySem.Spec PyProof.Rows L2 SX NumText
theorem str_dec (a b : List Nat) : decide (V.str (S a) = V.str (S b)) = decide (a = b) := by
  by_cases h : a = b
  · subst h; rw [decide_eq_true rfl, decide_eq_true rfl]
  · rw [decide_eq_false h, decide_eq_false]
    intro z; exact h (S_inj (V.str.inj z))
theorem one_dec (a b : Nat) : decide (V.str (S [a]) = V.str (S [b])) = decide (a = b) := by
  rw [str_dec]
  by_cases h : a = b
  · subst h; rw [decide_eq_true rfl, decide_eq_true rfl]
  · rw [decide_eq_false h, decide_eq_false]; intro z; exact h (List.cons.inj z).1
theorem drop_min {α : Type} (l : List α) (a : Nat) : l.drop (min a l.length) = l.drop a := by
  by_cases h : a ≤ l.length
  · rw [Nat.min_eq_left h]
  · rw [Nat.min_eq_right (by omega), List.drop_length, List.drop_eq_nil_of_le (by omega)]
theorem cut_nn (l : List Nat) (a b : Nat) (h : a ≤ b) : cutS (S l) (some (a : Int)) (some (b : Int)) = S ((l.drop a).take (b - a)) := by
  unfold cutS
  rw [HT.sIx_nat, HT.sIx_nat, S_len]
  show S _ = S _
  congr 1
  show (l.drop (min a l.length)).take (min b l.length - min a l.length) = _
  rw [drop_min]
  by_cases hb : b ≤ l.length
  · rw [Nat.min_eq_left hb, Nat.min_eq_left (by omega)]
  · rw [List.take_of_length_le (by rw [List.length_drop]; omega), List.take_of_length_le (by rw [List.length_drop]; omega)]
theorem cut_n (l : List Nat) (a : Nat) : cutS (S l) (some (a : Int)) none = S (l.drop a) := by
  unfold cutS
  rw [HT.sIx_nat, HT.sIx_none, S_len]
  show S _ = S _
  congr 1
  show (l.drop (min a l.length)).take (l.length - min a l.length) = _
  rw [drop_min, List.take_of_length_le (by rw [List.length_drop]; omega)]
theorem cut_0 (l : List Nat) (b : Nat) : cutS (S l) none (some (b : Int)) = S (l.take b) := by
  unfold cutS
  rw [HT.sIx_nat, HT.sIx_none, S_len]
  show S _ = S _
  congr 1
  show (l.drop 0).take (min b l.length - 0) = _
  rw [List.drop_zero, Nat.sub_zero]
  by_cases hb : b ≤ l.length
  · rw [Nat.min_eq_left hb]
  · rw [List.take_of_length_le (by omega), List.take_of_length_le (by omega)]
/-- the sign at i, or nothing -/
def at1 (l : List Nat) (i : Nat) : List Nat := (l.drop i).take 1
theorem at1_cut (l : List Nat) (i : Nat) : cutS (S l) (some (i : Int)) (some ((i : Int) + 1)) = S (at1 l i) := by
  have := cut_nn l i (i + 1) (by omega)
  rw [Nat.add_sub_cancel_left] at this
  exact this
theorem at1_eq (l : List Nat) (i c : Nat) : decide (V.str (S (at1 l i)) = V.str (S [c])) = decide ((l.drop i).head? = some c) := by
  rw [str_dec]
  unfold at1
  cases h : l.drop i with
  | nil => rfl
  | cons a t =>
    show decide ([a] = [c]) = decide (some a = some c)
    by_cases e : a = c
    · subst e; rw [decide_eq_true rfl, decide_eq_true rfl]
    · rw [decide_eq_false (fun z => e (List.cons.inj z).1), decide_eq_false (fun z => e (Option.some.inj z))]
theorem split_at {X : Cx} {body : List Stmt} (n : Nat) {F : TS → Prop} (G : TS → Prop) (h1 : ∃ t, PSs X (body.drop n) t ∧ G t) (h2 : ∀ t, PSs X (body.drop n) t → G t → ∃ u, PSs X body u ∧ F u) : ∃ u, PSs X body u ∧ F u := by
  obtain ⟨t, a, b⟩ := h1
  exact h2 t a b
theorem int_dec {a b : Nat} : decide (V.int (a : Int) = V.int (b : Int)) = decide (a = b) := by
  by_cases h : a = b
  · subst h; rw [decide_eq_true rfl, decide_eq_true rfl]
  · rw [decide_eq_false h, decide_eq_false (fun z => h (by have := V.int.inj z; omega))]
theorem lt_dec {a b : Nat} : decide ((a : Int) < (b : Int)) = decide (a < b) := by
  by_cases h : a < b
  · rw [decide_eq_true h, decide_eq_true (by omega)]
  · rw [decide_eq_false h, decide_eq_false (by omega)]
theorem at1_nil {l : List Nat} {i : Nat} (h : l.drop i = []) : at1 l i = [] := by unfold at1; rw [h]; rfl
theorem at1_cons {l : List Nat} {i c : Nat} {t : List Nat} (h : l.drop i = c :: t) : at1 l i = [c] := by unfold at1; rw [h]; rfl
theorem drop_next {l : List Nat} {i c : Nat} {t : List Nat} (h : l.drop i = c :: t) : l.drop (i + 1) = t ∧ i < l.length := by
  have h1 : l.drop (i + 1) = (l.drop i).tail := by rw [List.tail_drop]
  refine ⟨by rw [h1, h]; rfl, ?_⟩
  have := congrArg List.length h
  rw [List.length_drop] at this
  simp at this; omega
theorem join_one (l : List Nat) : Txt.join (S []) (l.map fun c => S [c]) = S l := by
  have e : (l.map fun c => S [c]) = (l.map fun c => [c]).map S := by rw [List.map_map]; rfl
  rw [e, join_S]
  congr 1
  induction l with
  | nil => rfl
  | cons a t ih =>
    cases t with
    | nil => rfl
    | cons b r =>
      have ih := ih (by rw [List.map_map]; rfl)
      show [a] ++ ([] ++ TL.joinL [] ([b] :: r.map fun c => [c])) = a :: b :: r
      show a :: (TL.joinL [] ([b] :: r.map fun c => [c])) = a :: b :: r
      have ih' : TL.joinL [] ([b] :: r.map fun c => [c]) = b :: r := ih
      rw [ih']
end D0
namespace D0
open PySem PySem.Spec PyProof.Rows L2 SX NumText
theorem flat_strs : ∀ ls : List (List Nat), (ls.map fun l => V.str (S l)).all flatV = true
  | [] => rfl
  | a :: r => by rw [List.map_cons, List.all_cons, flat_strs r]; rfl
theorem in_strs (l : List Nat) : ∀ ls : List (List Nat), inV (.str (S l)) (ls.map fun l => V.str (S l)) = decide (l ∈ ls)
  | [] => rfl
  | a :: r => by
    have ih := in_strs l r
    unfold inV at ih ⊢
    rw [List.map_cons, List.any_cons, ih]
    have e : eqV (.str (S a)) (.str (S l)) = decide (l = a) := by
      show (S a == S l) = _
      rw [S_beq_eq]
      by_cases h : l = a
      · subst h; rfl
      · rw [decide_eq_false h, decide_eq_false (fun z => h z.symm)]
    rw [e]
    by_cases h : l = a <;> by_cases h2 : l ∈ r <;> simp [h, h2]
inductive Kd | name | keyword | number | text | sign | newline | indent | dedent | fin
def Kd.cp : Kd → List Nat
  | .name => [110, 97, 109, 101] | .keyword => [107, 101, 121, 119, 111, 114, 100] | .number => [110, 117, 109, 98, 101, 114] | .text => [116, 101, 120, 116] | .sign => [115, 105, 103, 110]
  | .newline => [110, 101, 119, 108, 105, 110, 101] | .indent => [105, 110, 100, 101, 110, 116] | .dedent => [100, 101, 100, 101, 110, 116] | .fin => [101, 110, 100]
inductive Wd | s (l : List Nat) | n (k : Nat)
def Wd.v : Wd → V
  | .s l => .str (S l)
  | .n k => .int (k : Nat)
abbrev Tr := Kd × Wd × Nat
def Tr.v (t : Tr) : List V := [.str (S t.1.cp), t.2.1.v, .int (t.2.2 : Nat)]
/-- what a scanner leaves: a new tuple, or the error BadToken at (ln, c) -/
def Outs (ec : Er → Addr) (ln : Int) (H : Hp) (Q : VK) (E : XK) : Except Nat Tr → Prop
  | .ok t => ∀ H' p, Same H H' → H' p = some (.tup (Tr.v t)) → Q (.ref p) H'
  | .error c => Rz ec .token ln (c : Nat) H E
def spScan (ec : Er → Addr) (f : List Nat → Nat → Except Nat Tr) (pre : List Nat → Nat → Prop) : Sp := fun vs H Q E => ∃ (l : List Nat) (i : Nat) (ln : Int), vs = [.str (S l), .int i, .int ln] ∧ l.length ≤ big ∧ i < l.length ∧ pre l i ∧ Outs ec ln H Q E (f l i)
def word (l : List Nat) (i j : Nat) : List Nat := (l.drop i).take (j - i)
def scanName (l : List Nat) (i : Nat) : Except Nat Tr :=
  if 30 < (word l i (twl namc l i)).length then .error (i + 1) else .ok (if word l i (twl namc l i) ∈ KW then .keyword else .name, .s (word l i (twl namc l i)), twl namc l i)
def numBad (l : List Nat) (i : Nat) : Bool :=
  decide (40 < (word l i (twl isDig l i)).length) || (decide (1 < (word l i (twl isDig l i)).length) && decide ((word l i (twl isDig l i)).head? = some 48)) || (decide (twl isDig l i < l.length) && ((l.drop (twl isDig l i)).take 1).any letc)
def scanNumber (l : List Nat) (i : Nat) : Except Nat Tr :=
  if numBad l i = true then .error (i + 1) else .ok (.number, .n (digitsVal (word l i (twl isDig l i))), twl isDig l i)
theorem three : 3 ≤ sizeLine := by decide
theorem tw_digits (l : List Nat) : AllDigits (l.takeWhile isDig) := fun c hc => by
  have : ∀ l : List Nat, ∀ c ∈ l.takeWhile isDig, isDig c = true := by
    intro l
    induction l with
    | nil => intro c h; cases h
    | cons a t ih =>
      intro c h
      rw [List.takeWhile_cons] at h
      cases ha : isDig a with
      | true => rw [ha, if_pos rfl] at h; rcases List.mem_cons.mp h with rfl | h; exact ha; exact ih c h
      | false => rw [ha] at h; cases h
  have := this l c hc
  unfold isDig at this
  exact of_decide_eq_true this
theorem word_tw {f : Nat → Bool} (l : List Nat) (i : Nat) : word l i (twl f l i) = (l.drop i).takeWhile f := by
  unfold word twl
  rw [Nat.add_sub_cancel_left]
  have h := List.takeWhile_append_dropWhile (p := f) (l := l.drop i)
  generalize (l.drop i).takeWhile f = a at *
  rw [← h, List.take_left' rfl]
theorem twl_ge {f : Nat → Bool} (l : List Nat) (i : Nat) : i ≤ twl f l i := Nat.le_add_right _ _
theorem iteD {b : Bool} {A B : Prop} (h1 : b = true → A) (h2 : b = false → B) : if b = true then A else B := by
  cases b with
  | true => rw [if_pos rfl]; exact h1 rfl
  | false => rw [if_neg Bool.false_ne_true]; exact h2 rfl
theorem iteT' {b : Bool} {A B : Prop} (h : b = true) (a : A) : if b = true then A else B := by rw [if_pos h]; exact a
theorem iteF' {b : Bool} {A B : Prop} (h : b = false) (a : B) : if b = true then A else B := by rw [if_neg (by rw [h]; exact Bool.false_ne_true)]; exact a
section
variable {P : Program} {w : World} {K : PySem.W.Frag} {mg : Str → Option Value} {base : Heap} {ec : Er → Addr}
theorem ok_scan_name (T : Txt K w mg) (ER : ErrT P w K mg base ec) (On : OkD P w K mg base CX0 2 "name_end" p_name_end (spEnd namc)) :
    OkD P w K mg base (L2.CX P w) 3 "scan_name" p_scan_name (spScan ec scanName fun _ _ => True) := by
  obtain ⟨kA, kG, kT⟩ := T.c_KEYWORDS
  refine T.g_scan_name.okX sc_scan_name (fun vs H Q E h => ?_) (fun f cdv A outer s H vs Q E hr h => ?_)
  · obtain ⟨l, i, ln, rfl, _⟩ := h; rfl
  obtain ⟨l, i, ln, rfl, hl, hi, _, q⟩ := h
  refine ⟨_, (pss_cons (ps_set (i := 3) sc_scan_name.nd rfl (.inl rfl) (pcall On hr (pa_cons (pv 0) (pa_cons (pv 1) pa_nil))))
      (pss_cons (ps_set (i := 4) sc_scan_name.nd rfl (.inl rfl) (pe_slice sl_str (pv 0) (po_some (pv 1)) (po_some (pv 3))))
      (pss_cons (ps_if (pt_cmpR op_gt (pe_callB call_len_str (by rfl) T.z_len PySem.boot_len (pa_cons (pv 4) pa_nil)) (pe_gI T.c_NAME_LIMIT) (nomark _)) (pss_one (ps_raise rfl (takes_of rfl rfl rfl rfl) (pmk_err ER .token hr (pa_cons (pv 2) (pa_cons (pe_op op_add (pv 1) pe_int) pa_nil))))) pss_nil)
      (pss_cons (ps_if (pt_cmpR op_in_seq (pv 4) (pe_glob (v := .ref kA) rfl kG rfl) (by rfl)) (pss_one (ps_ret (pe_tup (pa_cons pe_str (pa_cons (pv 4) (pa_cons (pv 3) pa_nil)))))) pss_nil)
      (pss_one (ps_ret (pe_tup (pa_cons pe_str (pa_cons (pv 4) (pa_cons (pv 3) pa_nil)))))))))), ?_⟩
  have zk : Str.ofString "keyword" = S (Kd.cp .keyword) ∧ Str.ofString "name" = S (Kd.cp .name) := by decide +kernel
  have hw : (word l i (twl namc l i)).length ≤ l.length := by unfold word; rw [List.length_take, List.length_drop]; omega
  refine ⟨_, rfl, _, rfl, l, i, rfl, hl, Nat.le_of_lt hi, ?_⟩
  refine ⟨_, rfl, _, rfl, _, rfl, _, rfl, _, rfl, S l, rfl, S_line hl, ?_⟩
  rw [cut_nn l i _ (twl_ge l i)]
  have e1 : decide ((30 : Int) < ((S (word l i (twl namc l i))).length : Int)) = decide (30 < (word l i (twl namc l i)).length) := by rw [S_len]; exact lt_dec (a := 30)
  refine ⟨_, rfl, _, rfl, (by have := S_line (l := word l i (twl namc l i)) (by omega); exact this), _, _, rfl, rfl, _, rfl, ?_⟩
  unfold scanName at q
  by_cases c : 30 < (word l i (twl namc l i)).length
  · rw [if_pos c] at q
    refine iteT' (e1.trans (decide_eq_true c)) ?_
    refine ⟨_, rfl, _, rfl, _, _, rfl, rfl, rz_mk ER q⟩
  rw [if_neg c] at q
  refine iteF' (e1.trans (decide_eq_false c)) ?_
  refine ⟨_, rfl, kA, _, rfl, .inr (kT _), rfl, flat_strs KW, _, rfl, ?_⟩
  have e2 := in_strs (word l i (twl namc l i)) KW
  by_cases c2 : word l i (twl namc l i) ∈ KW
  · rw [if_pos c2] at q
    refine iteT' (e2.trans (decide_eq_true c2)) ?_
    refine ⟨_, rfl, _, rfl, three, fun p hp => q _ p (same_new hp _) ?_⟩
    rw [upd_same, zk.1]; rfl
  · rw [if_neg c2] at q
    refine iteF' (e2.trans (decide_eq_false c2)) ?_
    refine ⟨_, rfl, _, rfl, three, fun p hp => q _ p (same_new hp _) ?_⟩
    rw [upd_same, zk.2]; rfl
end
end D0
namespace D0
open PySem PySem.Spec PyProof.Rows L2 SX NumText
section
variable {P : Program} {w : World} {K : PySem.W.Frag} {mg : Str → Option Value} {base : Heap} {ec : Er → Addr}
theorem ok_scan_number (T : Txt K w mg) (ER : ErrT P w K mg base ec) (Od : OkD P w K mg base CX0 2 "digits_end" p_digits_end spDigitsEnd) (Ol : OkD P w K mg base CX0 1 "is_letter" p_is_letter spIsLetter) :
    OkD P w K mg base (L2.CX P w) 3 "scan_number" p_scan_number (spScan ec scanNumber fun l i => ∃ c, l[i]? = some c ∧ isDig c = true) := by
  refine T.g_scan_number.okX sc_scan_number (fun vs H Q E h => ?_) (fun f cdv A outer s H vs Q E hr h => ?_)
  · obtain ⟨l, i, ln, rfl, _⟩ := h; rfl
  obtain ⟨l, i, ln, rfl, hl, hi, ⟨c0, hc0, hd0⟩, q⟩ := h
  have zk : Str.ofString "number" = S (Kd.cp .number) ∧ Str.ofString "0" = S [48] := by decide +kernel
  have hw : (word l i (twl isDig l i)).length ≤ l.length := by unfold word; rw [List.length_take, List.length_drop]; omega
  have hne : word l i (twl isDig l i) ≠ [] := by
    rw [word_tw]
    obtain ⟨hk, e⟩ := List.getElem?_eq_some_iff.mp hc0
    rw [List.drop_eq_getElem_cons hk, e, List.takeWhile_cons, if_pos hd0]
    exact fun z => by cases z
  have hdg : AllDigits (word l i (twl isDig l i)) := by rw [word_tw]; exact tw_digits _
  have hge := twl_ge (f := isDig) l i
  have hle := twl_le (f := isDig) (Nat.le_of_lt hi)
  unfold scanNumber at q
  generalize hW : word l i (twl isDig l i) = W at *
  generalize hJ : twl isDig l i = J at *
  have nb : numBad l i = (decide (40 < W.length) || (decide (1 < W.length) && decide (W.head? = some 48)) || (decide (J < l.length) && ((l.drop J).take 1).any letc)) := by unfold numBad; rw [hJ, hW]
  have e1 : decide ((1 : Int) < ((S W).length : Int)) = decide (1 < W.length) := by rw [S_len]; exact lt_dec (a := 1)
  have e2 : decide ((J : Int) < ((S l).length : Int)) = decide (J < l.length) := by rw [S_len]; exact lt_dec
  have e3 : decide ((40 : Int) < ((S W).length : Int)) = decide (40 < W.length) := by rw [S_len]; exact lt_dec (a := 40)
  refine split_at 4 (fun t => ∀ p g : Bool, p = (decide (1 < W.length) && decide (W.head? = some 48)) → g = (decide (J < l.length) && ((l.drop J).take 1).any letc) →
    t { nx := fun _ H' => Q .non H', rt := Q } [some (.str (S l)), some (.int i), some (.int ln), some (.int J), some (.str (S W)), some (.bl p), some (.bl g)] H) ?_ (fun t ht hg => ?_)
  · refine ⟨_, (pss_cons (ps_if (PW.pt (pw_or (pt_cmpR op_gt (pe_callB call_len_str (by rfl) T.z_len PySem.boot_len (pa_cons (pv 4) pa_nil)) (pe_gI T.c_NUMBER_LIMIT) (nomark _)) (pw_or (pt_val (pv 5)) (pw_or1 (pt_val (pv 6)))))) (pss_one (ps_raise rfl (takes_of rfl rfl rfl rfl) (pmk_err ER .token hr (pa_cons (pv 2) (pa_cons (pe_op op_add (pv 1) pe_int) pa_nil))))) pss_nil)
      (pss_one (ps_ret (pe_tup (pa_cons pe_str (pa_cons (pe_callTy call_int_str (by rfl) T.z_int PyProof.Rows.boot_int (pa_cons (pv 4) pa_nil)) (pa_cons (pv 3) pa_nil))))))), ?_⟩
    intro p g hp hg
    rw [nb, ← hp, ← hg] at q
    have bad : (if true = true then Except.error (i + 1) else Except.ok (Kd.number, Wd.n (digitsVal W), J) : Except Nat Tr) = .error (i + 1) := rfl
    refine ⟨_, rfl, _, rfl, (by have := S_line (l := W) (by omega); exact this), _, _, rfl, rfl, _, rfl, ?_⟩
    by_cases c1 : 40 < W.length
    · refine iteT' (e3.trans (decide_eq_true c1)) ?_
      rw [decide_eq_true c1, Bool.true_or, Bool.true_or] at q
      exact ⟨_, rfl, _, rfl, _, _, rfl, rfl, rz_mk ER q⟩
    refine iteF' (e3.trans (decide_eq_false c1)) ?_
    rw [decide_eq_false c1, Bool.false_or] at q
    refine ⟨_, rfl, _, rfl, ?_⟩
    cases p with
    | true =>
      refine iteT ?_
      exact ⟨_, rfl, _, rfl, _, _, rfl, rfl, rz_mk ER q⟩
    | false =>
      refine iteF ⟨_, rfl, _, rfl, ?_⟩
      cases g with
      | true => exact ⟨_, rfl, _, rfl, _, _, rfl, rfl, rz_mk ER q⟩
      | false =>
        refine ⟨_, rfl, S W, _, rfl, intText_digits (x := S W) hdg hne (by rw [S_len]; omega), by rw [S_len]; omega, _, rfl, three, fun p hp => q _ p (same_new hp _) ?_⟩
        rw [upd_same, zk.1]; rfl
  · refine split_at 3 (fun t => ∀ p : Bool, p = (decide (1 < W.length) && decide (W.head? = some 48)) →
      t { nx := fun _ H' => Q .non H', rt := Q } [some (.str (S l)), some (.int i), some (.int ln), some (.int J), some (.str (S W)), some (.bl p), none] H)
      ⟨_, pss_cons (ps_set (i := 6) sc_scan_number.nd rfl (.inl rfl) (pe_and (pe_cmpR op_lt (pv 3) (pe_callB call_len_str (by rfl) T.z_len PySem.boot_len (pa_cons (pv 0) pa_nil)) (nomark _)) (pe_one (pcall Ol hr (pa_cons (pe_ix ix_str (pv 0) (pv 3) (fun _ _ => rfl)) pa_nil))))) ht, fun p hp => ?_⟩ (fun t ht hg3 => ?_)
    · refine ⟨_, rfl, _, rfl, _, rfl, S_line hl, _, _, rfl, rfl, _, rfl, iteD (b := decide ((J : Int) < ((S l).length : Int))) (fun c => ?_) (fun c => ?_)⟩
      · rw [e2] at c
        have hJl : J < l.length := of_decide_eq_true c
        have gJ : l[J]? = some l[J] := List.getElem?_eq_getElem hJl
        have eJ : (l.drop J).take 1 = [l[J]] := by rw [List.drop_eq_getElem_cons hJl]; rfl
        exact ⟨_, rfl, _, rfl, S l, J, _, rfl, rfl, S_line hl, at_S gJ, [l[J]], rfl, Nat.le_refl 1, hg p _ hp (by rw [c, eJ]; rfl)⟩
      · rw [e2] at c
        exact hg p false hp (by rw [c]; rfl)
    refine ⟨_, pss_cons (ps_set (i := 3) sc_scan_number.nd rfl (.inl rfl) (pcall Od hr (pa_cons (pv 0) (pa_cons (pv 1) pa_nil)))) (pss_cons (ps_set (i := 4) sc_scan_number.nd rfl (.inl rfl) (pe_slice sl_str (pv 0) (po_some (pv 1)) (po_some (pv 3)))) (pss_cons (ps_set (i := 5) sc_scan_number.nd rfl (.inl rfl) (pe_and (pe_cmpR op_gt (pe_callB call_len_str (by rfl) T.z_len PySem.boot_len (pa_cons (pv 4) pa_nil)) pe_int (nomark _)) (pe_one (pe_cmpR op_eq (pe_ix ix_str (pv 4) pe_int (fun _ _ => rfl)) pe_str (nomark _))))) ht)), ?_⟩
    refine ⟨_, rfl, _, rfl, l, i, rfl, hl, Nat.le_of_lt hi, ?_⟩
    show ∃ x, _
    have hJ' : i + (List.takeWhile isDig (List.drop i l)).length = J := hJ
    rw [hJ']
    refine ⟨_, rfl, _, rfl, _, rfl, _, rfl, _, rfl, S l, rfl, S_line hl, ?_⟩
    rw [cut_nn l i _ hge, show (l.drop i).take (J - i) = W from hW]
    refine ⟨_, rfl, _, rfl, (by have := S_line (l := W) (by omega); exact this), _, _, rfl, rfl, _, rfl, ?_⟩
    refine iteD (b := decide ((1 : Int) < ((S W).length : Int))) (fun c => ?_) (fun c => ?_)
    · obtain ⟨w0, t, rfl⟩ : ∃ w0 t, W = w0 :: t := by
        cases W with
        | nil => exact absurd rfl hne
        | cons a t => exact ⟨a, t, rfl⟩
      refine ⟨_, rfl, S (w0 :: t), 0, w0, rfl, rfl, (by have := S_line (l := w0 :: t) (by omega); exact this), at_S (l := w0 :: t) (i := 0) rfl, rfl, ?_⟩
      refine hg3 (decide (V.str (S [w0]) = V.str (Str.ofString "0"))) ?_
      rw [← e1, c, zk.2, one_dec, Bool.true_and]
      show _ = decide (some w0 = some 48)
      by_cases h : w0 = 48
      · subst h; rfl
      · rw [decide_eq_false h, decide_eq_false (fun z => h (Option.some.inj z))]
    · exact hg3 false (by rw [← e1, c]; rfl)
end
end D0
namespace D0
open PySem PySem.Spec PyProof.Rows L2 SX NumText
/-- behind an opening quote q at st; esc: a \ stands before -/
def scanT (q st : Nat) : Bool → List Nat → Nat → List Nat → Except Nat Tr
  | _, [], _, _ => .error (st + 1)
  | true, c :: r, at_, acc => match escV [c] with
    | none => .error at_
    | some m => scanT q st false r (at_ + 1) (acc ++ m)
  | false, c :: r, at_, acc =>
    if c = q then .ok (.text, .s acc, at_ + 1) else if c = 92 then scanT q st true r (at_ + 1) acc else scanT q st false r (at_ + 1) (acc ++ [c])
def scanText (l : List Nat) (i : Nat) : Except Nat Tr := scanT ((l.drop i).headD 0) i false (l.drop (i + 1)) (i + 1) []
theorem escV_one {c : Nat} {m : List Nat} (h : escV [c] = some m) : ∃ d, m = [d] := by
  unfold escV at h
  split at h <;> first | exact ⟨_, (Option.some.inj h).symm⟩ | cases h
theorem same_upd {H H' : Hp} {D : Addr} {o : HO} (s : Same H H') (h : H D = none) : Same H (upd H' D o) := fun b u e => by rw [upd_ne (ne_of_none e h)]; exact s b u e
section
variable {P : Program} {w : World} {K : PySem.W.Frag} {mg : Str → Option Value} {base : Heap} {ec : Er → Addr}
theorem ok_scan_text (T : Txt K w mg) (ER : ErrT P w K mg base ec) :
    OkD P w K mg base (L2.CX P w) 3 "scan_text" p_scan_text (spScan ec scanText fun _ _ => True) := by
  obtain ⟨dE, es, en, gE, KE, hE⟩ := T.c_ESCAPES
  refine T.g_scan_text.okX sc_scan_text (fun vs H Q E h => ?_) (fun f cdv A outer s H vs Q E hr h => ?_)
  · obtain ⟨l, i, ln, rfl, _⟩ := h; rfl
  obtain ⟨l, i, ln, rfl, hl, hi, _, q⟩ := h
  have hl' : l.length ≤ 1000000 := hl
  have lim : (1000000 : Nat) < sizeLine := by decide
  have zk : Str.ofString "text" = S (Kd.cp .text) ∧ Str.ofString "\\" = S [92] ∧ Str.ofString "" = S [] := by decide +kernel
  have gi : l[i]? = some l[i] := List.getElem?_eq_getElem hi
  have eR : scanText l i = scanT l[i] i false (l.drop (i + 1)) (i + 1) [] := by unfold scanText; rw [List.drop_eq_getElem_cons hi]; rfl
  generalize scanText l i = R at q eR
  generalize hqc : l[i] = qc at *
  have eL : ∀ k : Nat, decide (V.int (k : Int) = V.int ((S l).length : Int)) = decide (k = l.length) := fun k => by rw [S_len]; exact int_dec
  refine split_at 3 (fun t => ∀ (D : Addr) (k : Nat) (acc : List Nat) (H' : Hp), k ≤ l.length → acc.length ≤ k → Same H H' → H' D = some (.lst (acc.map fun c => V.str (S [c]))) →
    (k = l.length → R = .error (i + 1)) → (k < l.length → R = .ok (.text, .s acc, k + 1)) →
    t { nx := fun _ H' => Q .non H', rt := Q } [some (.str (S l)), some (.int i), some (.int ln), some (.ref D), some (.int k)] H') ?_ (fun t ht hg => ?_)
  · refine ⟨_, (pss_cons (ps_if (pt_cmpR op_eq (pv 4) (pe_callB call_len_str (by rfl) T.z_len PySem.boot_len (pa_cons (pv 0) pa_nil)) (nomark _)) (pss_one (ps_raise rfl (takes_of rfl rfl rfl rfl) (pmk_err ER .token hr (pa_cons (pv 2) (pa_cons (pe_op op_add (pv 1) pe_int) pa_nil))))) pss_nil)
      (pss_one (ps_ret (pe_tup (pa_cons pe_str (pa_cons (pe_join pe_str (pv 3)) (pa_cons (pe_op op_add (pv 4) pe_int) pa_nil))))))), ?_⟩
    intro D k acc H' hk ha sm hD h1 h2
    refine ⟨_, rfl, _, rfl, _, rfl, S_line hl, rfl, _, rfl, ?_⟩
    by_cases c : k = l.length
    · refine iteT' ((eL k).trans (decide_eq_true c)) ?_
      have e := h1 c
      rw [e] at q
      exact ⟨_, rfl, _, rfl, _, _, rfl, rfl, rz_mk ER fun d H2 s2 n2 => q d H2 (sm.trans s2) (sm.free n2)⟩
    · refine iteF' ((eL k).trans (decide_eq_false c)) ?_
      rw [h2 (by omega)] at q
      refine ⟨⟨S [], by rw [← zk.2.2]⟩, _, rfl, S [], D, acc.map fun c => S [c], by rw [← zk.2.2], rfl, .inl (SqL.of (by rw [hD, List.map_map]; rfl)), ?_, _, rfl, _, _, rfl, rfl, three, fun p hp => ?_⟩
      · have e : ((acc.map fun c => S [c]).map (·.length)).sum = acc.length := by
          clear hD h2 q h1 ha
          induction acc with
          | nil => rfl
          | cons a t ih => rw [List.map_cons, List.map_cons, List.sum_cons, ih, List.length_cons]; show 1 + _ = _; omega
        rw [e]
        show _ + _ * 0 ≤ _
        omega
      · refine q _ p (sm.trans (same_new hp _)) ?_
        rw [upd_same, join_one, zk.1]
        rfl
  refine ⟨_, pss_cons (ps_set (i := 3) sc_scan_text.nd rfl (.inl rfl) (pe_lst pa_nil)) (pss_cons (ps_set (i := 4) sc_scan_text.nd rfl (.inl rfl) (pe_op op_add (pv 1) pe_int)) (pss_cons
    (ps_while (passes_of rfl) (PW.pt (pw_and (pt_cmpR op_lt (pv 4) (pe_callB call_len_str (by rfl) T.z_len PySem.boot_len (pa_cons (pv 0) pa_nil)) (nomark _)) (pw_and1 (pt_cmpR op_ne (pe_ix ix_str (pv 0) (pv 4) (fun _ _ => rfl)) (pe_ix ix_str (pv 0) (pv 1) (fun _ _ => rfl)) (nomark _)))))
      (pss_cons (ps_if (pt_cmpR op_eq (pe_ix ix_str (pv 0) (pv 4) (fun _ _ => rfl)) pe_str (nomark _)) (pss_cons (ps_aug (i := 4) sc_scan_text.nd rfl (.inl rfl) pe_int ip_add)
      (pss_cons (ps_if (pt_cmpR op_eq (pv 4) (pe_callB call_len_str (by rfl) T.z_len PySem.boot_len (pa_cons (pv 0) pa_nil)) (nomark _)) (pss_one ps_break) pss_nil)
      (pss_cons (ps_if (pt_cmpR (op_notIn_kd KE) (pe_ix ix_str (pv 0) (pv 4) (fun _ _ => rfl)) (pe_glob (v := .ref dE) rfl gE rfl) (by rfl)) (pss_one (ps_raise rfl (takes_of rfl rfl rfl rfl) (pmk_err ER .token hr (pa_cons (pv 2) (pa_cons (pv 4) pa_nil))))) pss_nil)
      (pss_one (ps_expr (pe_bm PySem.F.plainAttrs_list PySem.F.slot_list_append PySem.F.type_list_append mt_append (pv 3) (pa_cons (pe_ix ix_kdict (pe_glob (v := .ref dE) rfl gE rfl) (pe_ix ix_str (pv 0) (pv 4) (fun _ _ => rfl)) (fun _ _ => rfl)) pa_nil))))))) (pss_one (ps_expr (pe_bm PySem.F.plainAttrs_list PySem.F.slot_list_append PySem.F.type_list_append mt_append (pv 3) (pa_cons (pe_ix ix_str (pv 0) (pv 4) (fun _ _ => rfl)) pa_nil)))))
      (pss_one (ps_aug (i := 4) sc_scan_text.nd rfl (.inl rfl) pe_int ip_add)))) ht)), ?_⟩
  refine ⟨Nat.zero_le _, fun D hD => ?_⟩
  refine ⟨_, rfl, _, _, rfl, rfl, ?_⟩
  refine ⟨fun m σ H' => ∃ (k : Nat) (acc : List Nat), σ = [some (.str (S l)), some (.int i), some (.int ln), some (.ref D), some (.int k)] ∧ m = l.length + 1 - k ∧ k ≤ l.length ∧ acc.length + (i + 1) ≤ k ∧ Same H H' ∧
      H' D = some (.lst (acc.map fun c => V.str (S [c]))) ∧ R = scanT qc i false (l.drop k) k acc,
    ⟨_, i + 1, [], rfl, rfl, by omega, by simp, same_new hD _, upd_same, eR⟩, ?_⟩
  rintro m σ H' ⟨k, acc, rfl, rfl, hk, hacc, sm, hD', he⟩
  have e2 : decide ((k : Int) < ((S l).length : Int)) = decide (k < l.length) := by rw [S_len]; exact lt_dec
  refine ⟨_, rfl, _, rfl, _, rfl, S_line hl, _, _, rfl, rfl, _, rfl, iteD (b := decide ((k : Int) < ((S l).length : Int))) (fun c => ?_) (fun c => ?_)⟩
  · rw [e2] at c
    have hkl : k < l.length := of_decide_eq_true c
    have gk : l[k]? = some l[k] := List.getElem?_eq_getElem hkl
    have hdr : l.drop k = l[k] :: l.drop (k + 1) := List.drop_eq_getElem_cons hkl
    generalize hck : l[k] = ck at *
    rw [hdr] at he
    refine ⟨_, rfl, _, rfl, S l, k, _, rfl, rfl, S_line hl, at_S gk, _, rfl, _, rfl, S l, i, _, rfl, rfl, S_line hl, at_S gi, rfl, _, rfl, ?_⟩
    have ed : (!decide (V.str (S [ck]) = V.str (S [qc]))) = !decide (ck = qc) := by rw [one_dec]
    by_cases cq : ck = qc
    · refine iteF' (ed.trans (by rw [decide_eq_true cq]; rfl)) ?_
      refine hg D k acc H' hk (by omega) sm hD' (fun z => by omega) (fun _ => ?_)
      rw [he]; unfold scanT; rw [if_pos cq]
    · refine iteT' (ed.trans (by rw [decide_eq_false cq]; rfl)) ?_
      refine ⟨_, fun _ _ h => h, ?_⟩
      unfold scanT at he
      rw [if_neg cq] at he
      refine ⟨_, rfl, _, rfl, S l, k, _, rfl, rfl, S_line hl, at_S gk, rfl, _, rfl, ?_⟩
      have e92 : decide (V.str (S [ck]) = V.str (Str.ofString "\\")) = decide (ck = 92) := by rw [zk.2.1, one_dec]
      by_cases c92 : ck = 92
      · refine iteT' (e92.trans (decide_eq_true c92)) ?_
        rw [if_pos c92] at he
        refine ⟨_, rfl, _, _, rfl, rfl, ?_⟩
        refine ⟨_, rfl, _, rfl, _, rfl, S_line hl, rfl, _, rfl, ?_⟩
        by_cases cl : k + 1 = l.length
        · refine iteT' ((eL (k + 1)).trans (decide_eq_true cl)) ?_
          refine hg D (k + 1) acc H' (by omega) (by omega) sm hD' (fun _ => ?_) (fun z => by omega)
          rw [he, cl, List.drop_length]; rfl
        · refine iteF' ((eL (k + 1)).trans (decide_eq_false cl)) ?_
          have hkl1 : k + 1 < l.length := by omega
          have gk1 : l[k + 1]? = some l[k + 1] := List.getElem?_eq_getElem hkl1
          have hdr1 : l.drop (k + 1) = l[k + 1] :: l.drop (k + 1 + 1) := List.drop_eq_getElem_cons hkl1
          generalize hc1 : l[k + 1] = c1 at *
          rw [hdr1] at he
          unfold scanT at he
          obtain ⟨r, hr1, hr2, hr3⟩ := hE [c1]
          refine ⟨_, rfl, _, rfl, S l, (k + 1 : Nat), _, rfl, rfl, S_line hl, at_S gk1, S [c1], r, rfl, rfl, hr1, _, rfl, ?_⟩
          cases hx : escV [c1] with
          | none =>
            refine iteT' (by rw [hr2, hx]; rfl) ?_
            rw [hx] at he
            rw [he] at q
            exact ⟨_, rfl, _, rfl, rz_mk ER fun d H2 s2 n2 => q d H2 (sm.trans s2) (sm.free n2)⟩
          | some m =>
            refine iteF' (by rw [hr2, hx]; rfl) ?_
            rw [hx] at he
            obtain ⟨u0, hu, ru⟩ := hr3 m hx
            obtain ⟨d, rfl⟩ := escV_one hx
            rw [hu] at hr1
            refine ⟨_, rfl, .inl ⟨rfl, _, SqL.of hD'⟩, _, rfl, _, rfl, S l, (k + 1 : Nat), _, rfl, rfl, S_line hl, at_S gk1, dE, S [c1], _, rfl, rfl, ⟨_, _, _, KE.at_, KE.lit, hr1, ru⟩, D, _, _, rfl, rfl, hD', by rw [List.length_map]; omega, ?_⟩
            refine ⟨_, rfl, _, _, rfl, rfl, ?_⟩
            refine ⟨_, by omega, k + 2, acc ++ [d], rfl, rfl, by omega, by rw [List.length_append]; simp; omega, ?_, ?_, ?_⟩
            · exact same_upd sm hD
            · rw [upd_same, List.map_append]; rfl
            · rw [he]
      · refine iteF' (e92.trans (decide_eq_false c92)) ?_
        rw [if_neg c92] at he
        refine ⟨_, rfl, .inl ⟨rfl, _, SqL.of hD'⟩, _, rfl, _, rfl, S l, (k : Nat), _, rfl, rfl, S_line hl, at_S gk, D, _, _, rfl, rfl, hD', by rw [List.length_map]; omega, ?_⟩
        refine ⟨_, rfl, _, _, rfl, rfl, ?_⟩
        refine ⟨_, by omega, k + 1, acc ++ [ck], rfl, rfl, by omega, by rw [List.length_append]; simp; omega, ?_, ?_, ?_⟩
        · exact same_upd sm hD
        · rw [upd_same, List.map_append]; rfl
        · rw [he]
  · rw [e2] at c
    have hkl : ¬ k < l.length := of_decide_eq_false c
    refine hg D k acc H' hk (by omega) sm hD' (fun z => ?_) (fun z => absurd z hkl)
    rw [he, z, List.drop_length]; rfl
end
end D0
namespace D0
open PySem PySem.Spec PyProof.Rows L2 SX NumText
theorem sw_S (l wd : List Nat) (i : Nat) (hw : wd ≠ []) : Txt.startswith3 (S l) (S wd) (i : Int) = decide ((l.drop i).take wd.length = wd) := by
  have e : fromIndex (S l).length (i : Int) = i := by
    unfold fromIndex
    rw [if_neg (by omega)]
    omega
  have hl : (S wd).length = wd.length := S_len wd
  have hp := List.length_pos_iff.mpr hw
  unfold Txt.startswith3
  rw [e]
  by_cases h : (l.drop i).take wd.length = wd
  · rw [decide_eq_true h]
    have a := PySem.StrLaws.take_at (x := S l) (y := S wd) (k := i) (by omega) h
    rw [Bool.and_eq_true]
    exact ⟨decide_eq_true a.1, a.2⟩
  · rw [decide_eq_false h]
    cases z : (decide (i + (S wd).length ≤ (S l).length) && PySem.Builtin.Str.subAt (S l) (S wd) i) with
    | false => rfl
    | true =>
      rw [Bool.and_eq_true] at z
      exact absurd (PySem.StrLaws.at_take (x := S l) (y := S wd) (k := i) ⟨of_decide_eq_true z.1, z.2⟩) h
def scanSign (l : List Nat) (i : Nat) : Except Nat Tr :=
  match SG.find? (fun s => decide ((l.drop i).take s.length = s)) with
  | some s => .ok (.sign, .s s, i + s.length)
  | none => .error (i + 1)
def scanTok (l : List Nat) (i : Nat) : Except Nat Tr :=
  if (l.drop i).headD 0 |> letc then scanName l i else if (l.drop i).headD 0 |> isDig then scanNumber l i else if (l.drop i).headD 0 = 34 ∨ (l.drop i).headD 0 = 39 then scanText l i else scanSign l i
theorem SG_len : ∀ s ∈ SG, s ≠ [] ∧ s.length ≤ 3 := by decide
theorem find_none {α : Type} {p : α → Bool} : ∀ {l : List α}, (∀ a ∈ l, p a = false) → l.find? p = none
  | [], _ => rfl
  | a :: r, h => by rw [List.find?_cons, h a (List.mem_cons_self)]; exact find_none fun b hb => h b (List.mem_cons_of_mem _ hb)
theorem find_at {α : Type} {p : α → Bool} : ∀ {l : List α} {j : Nat} {a : α}, l[j]? = some a → p a = true → (∀ b ∈ l.take j, p b = false) → l.find? p = some a
  | b :: r, 0, a, h, pa, _ => by
    have : b = a := by simpa using h
    subst this
    rw [List.find?_cons, pa]
  | b :: r, j + 1, a, h, pa, hn => by
    rw [List.take_succ_cons] at hn
    rw [List.find?_cons, hn b List.mem_cons_self]
    exact find_at (by simpa using h) pa fun c hc => hn c (List.mem_cons_of_mem _ hc)
section
variable {P : Program} {w : World} {K : PySem.W.Frag} {mg : Str → Option Value} {base : Heap} {ec : Er → Addr}
theorem ok_scan_sign (T : Txt K w mg) (ER : ErrT P w K mg base ec) :
    OkD P w K mg base (L2.CX P w) 3 "scan_sign" p_scan_sign (spScan ec scanSign fun _ _ => True) := by
  obtain ⟨sA, sG, sT⟩ := T.c_SIGNS
  refine T.g_scan_sign.okX sc_scan_sign (fun vs H Q E h => ?_) (fun f cdv A outer s H vs Q E hr h => ?_)
  · obtain ⟨l, i, ln, rfl, _⟩ := h; rfl
  obtain ⟨l, i, ln, rfl, hl, hi, _, q⟩ := h
  have zk : Str.ofString "sign" = S (Kd.cp .sign) := by decide +kernel
  refine ⟨_, (pss_cons (ps_for (passes_of rfl) rfl (pi_tup (pe_glob (v := .ref sA) rfl sG rfl)) (pg_name (i := 3) sc_scan_sign.nd rfl (Or.inl rfl))
      (pss_one (ps_if (pt_val (pe_bm PySem.F.plainAttrs_str PySem.F.slot_str_startswith PySem.F.type_str_startswith mt_startswith3 (pv 0) (pa_cons (pv 3) (pa_cons (pv 1) pa_nil)))) (pss_one (ps_ret (pe_tup (pa_cons pe_str (pa_cons (pv 3) (pa_cons (pe_op op_add (pv 1) (pe_callB call_len_str (by rfl) T.z_len PySem.boot_len (pa_cons (pv 3) pa_nil))) pa_nil)))))) pss_nil)))
      (pss_one (ps_raise rfl (takes_of rfl rfl rfl rfl) (pmk_err ER .token hr (pa_cons (pv 2) (pa_cons (pe_op op_add (pv 1) pe_int) pa_nil)))))), ?_⟩
  refine ⟨sA, rfl, ⟨_, sT _⟩, for_it (walk_tup (xs := SG.map fun l => V.str (S l))) (fun j σ H' => H' = H ∧ (∃ y, σ = [some (.str (S l)), some (.int i), some (.int ln), y]) ∧ ∀ s ∈ SG.take j, decide ((l.drop i).take s.length = s) = false)
    ⟨rfl, ⟨none, rfl⟩, fun s h => by cases h⟩ (fun j σ H' _ h => sT _) ?_ ?_⟩
  · rintro j x σ H1 H2 hj ⟨rfl, ⟨y, rfl⟩, hn⟩ ⟨rfl, hx⟩
    rw [List.getElem?_map] at hx
    obtain ⟨sg, hs, rfl⟩ := Option.map_eq_some_iff.mp hx
    have hsm : sg ∈ SG := List.mem_of_getElem? hs
    obtain ⟨s1, s2⟩ := SG_len sg hsm
    refine ⟨_, rfl, rfl, _, rfl, _, rfl, S l, S sg, i, rfl, rfl, _, rfl, ?_⟩
    rw [sw_S l sg i s1]
    refine iteD (fun c => ?_) (fun c => ?_)
    · refine ⟨_, rfl, _, rfl, _, rfl, _, rfl, (by show (S sg).length ≤ sizeLine; rw [S_len]; exact Nat.le_trans s2 three), _, _, rfl, rfl, three, fun p hp => ?_⟩
      unfold scanSign at q
      rw [find_at hs c hn] at q
      refine q _ p (same_new hp _) ?_
      rw [upd_same, zk, S_len]; rfl
    · refine ⟨rfl, ⟨_, rfl⟩, fun b hb => ?_⟩
      rw [List.take_add_one, hs] at hb
      rcases List.mem_append.mp hb with hb | hb
      · exact hn b hb
      · have : b = sg := by simpa using hb
        subst this; exact c
  · rintro σ H' ⟨rfl, ⟨y, rfl⟩, hn⟩
    rw [List.length_map, List.take_length] at hn
    unfold scanSign at q
    rw [find_none hn] at q
    exact ⟨_, rfl, _, rfl, _, _, rfl, rfl, rz_mk ER q⟩
theorem ok_scan_token (T : Txt K w mg) (ER : ErrT P w K mg base ec) (Od : OkD P w K mg base CX0 1 "is_digit" p_is_digit spIsDigit) (Ol : OkD P w K mg base CX0 1 "is_letter" p_is_letter spIsLetter)
    (O1 : OkD P w K mg base (L2.CX P w) 3 "scan_name" p_scan_name (spScan ec scanName fun _ _ => True))
    (O2 : OkD P w K mg base (L2.CX P w) 3 "scan_number" p_scan_number (spScan ec scanNumber fun l i => ∃ c, l[i]? = some c ∧ isDig c = true))
    (O3 : OkD P w K mg base (L2.CX P w) 3 "scan_text" p_scan_text (spScan ec scanText fun _ _ => True))
    (O4 : OkD P w K mg base (L2.CX P w) 3 "scan_sign" p_scan_sign (spScan ec scanSign fun _ _ => True)) :
    OkD P w K mg base (L2.CX P w) 4 "scan_token" p_scan_token (spScan ec scanTok fun _ _ => True) := by
  refine T.g_scan_token.okX sc_scan_token (fun vs H Q E h => ?_) (fun f cdv A outer s H vs Q E hr h => ?_)
  · obtain ⟨l, i, ln, rfl, _⟩ := h; rfl
  obtain ⟨l, i, ln, rfl, hl, hi, _, q⟩ := h
  have z : Str.ofString "\"" = S [34] ∧ Str.ofString "'" = S [39] := by decide +kernel
  have gi : l[i]? = some l[i] := List.getElem?_eq_getElem hi
  have hd : (l.drop i).headD 0 = l[i] := by rw [List.drop_eq_getElem_cons hi]; rfl
  unfold scanTok at q
  rw [hd] at q
  generalize hc : l[i] = c at *
  refine ⟨_, (pss_cons (ps_set (i := 3) sc_scan_token.nd rfl (.inl rfl) (pe_ix ix_str (pv 0) (pv 1) (fun _ _ => rfl)))
      (pss_cons (ps_if (pt_val (pcall Ol hr (pa_cons (pv 3) pa_nil))) (pss_one (ps_ret (pcallE O1 hr (passes_call (takes_of rfl rfl rfl rfl) (fun _ _ _ _ h => h)) (pa_cons (pv 0) (pa_cons (pv 1) (pa_cons (pv 2) pa_nil)))))) pss_nil)
      (pss_cons (ps_if (pt_val (pcall Od hr (pa_cons (pv 3) pa_nil))) (pss_one (ps_ret (pcallE O2 hr (passes_call (takes_of rfl rfl rfl rfl) (fun _ _ _ _ h => h)) (pa_cons (pv 0) (pa_cons (pv 1) (pa_cons (pv 2) pa_nil)))))) pss_nil)
      (pss_cons (ps_if (PW.pt (pw_or (pt_cmpR op_eq (pv 3) pe_str (nomark _)) (pw_or1 (pt_cmpR op_eq (pv 3) pe_str (nomark _))))) (pss_one (ps_ret (pcallE O3 hr (passes_call (takes_of rfl rfl rfl rfl) (fun _ _ _ _ h => h)) (pa_cons (pv 0) (pa_cons (pv 1) (pa_cons (pv 2) pa_nil)))))) pss_nil)
      (pss_one (ps_ret (pcallE O4 hr (passes_call (takes_of rfl rfl rfl rfl) (fun _ _ _ _ h => h)) (pa_cons (pv 0) (pa_cons (pv 1) (pa_cons (pv 2) pa_nil)))))))))), ?_⟩
  refine ⟨_, rfl, _, rfl, S l, i, _, rfl, rfl, S_line hl, at_S gi, _, rfl, [c], rfl, Nat.le_refl 1, _, rfl, ?_⟩
  have e1 : [c].any letc = letc c := by simp
  have e2 : [c].any isDig = isDig c := by simp
  cases c1 : letc c with
  | true =>
    rw [c1] at q
    refine iteT' (e1.trans c1) ⟨_, rfl, _, rfl, _, rfl, l, i, ln, rfl, hl, hi, trivial, q⟩
  | false =>
  rw [c1] at q
  refine iteF' (e1.trans c1) ⟨_, rfl, [c], rfl, Nat.le_refl 1, _, rfl, ?_⟩
  cases c2 : isDig c with
  | true =>
    rw [c2] at q
    refine iteT' (e2.trans c2) ⟨_, rfl, _, rfl, _, rfl, l, i, ln, rfl, hl, hi, ⟨c, gi, c2⟩, q⟩
  | false =>
  rw [c2] at q
  refine iteF' (e2.trans c2) ⟨_, rfl, rfl, _, rfl, ?_⟩
  have e3 : decide (V.str (S [c]) = V.str (Str.ofString "\"")) = decide (c = 34) := by rw [z.1, one_dec]
  have e4 : decide (V.str (S [c]) = V.str (Str.ofString "'")) = decide (c = 39) := by rw [z.2, one_dec]
  by_cases c3 : c = 34
  · rw [if_neg Bool.false_ne_true, if_neg Bool.false_ne_true, if_pos (.inl c3)] at q
    refine iteT' (e3.trans (decide_eq_true c3)) ⟨_, rfl, _, rfl, _, rfl, l, i, ln, rfl, hl, hi, trivial, q⟩
  refine iteF' (e3.trans (decide_eq_false c3)) ⟨_, rfl, rfl, _, rfl, ?_⟩
  by_cases c4 : c = 39
  · rw [if_neg Bool.false_ne_true, if_neg Bool.false_ne_true, if_pos (.inr c4)] at q
    refine iteT' (e4.trans (decide_eq_true c4)) ⟨_, rfl, _, rfl, _, rfl, l, i, ln, rfl, hl, hi, trivial, q⟩
  rw [if_neg Bool.false_ne_true, if_neg Bool.false_ne_true, if_neg (by rintro (h | h); exact c3 h; exact c4 h)] at q
  exact iteF' (e4.trans (decide_eq_false c4)) ⟨_, rfl, _, rfl, _, rfl, l, i, ln, rfl, hl, hi, trivial, q⟩
end
end D0
namespace D0
open PySem PySem.Spec PyProof.Rows L2 SX NumText
abbrev fM : Str := "marks"
abbrev fB : Str := "brackets"
abbrev fI : Str := "indents"
abbrev fN : Str := "many"
abbrev fH : Str := "behind"
theorem f_ne : fM ≠ fB ∧ fM ≠ fI ∧ fM ≠ fN ∧ fM ≠ fH ∧ fB ≠ fI ∧ fB ≠ fN ∧ fB ≠ fH ∧ fI ≠ fN ∧ fI ≠ fH ∧ fN ≠ fH := by decide +kernel
/-- the fields of a scanner -/
def pf (lm lb li : Addr) (m b : Int) : List (Str × V) := putF fH (.int b) (putF fN (.int m) (putF fI (.ref li) (putF fB (.ref lb) (putF fM (.ref lm) []))))
theorem pf_eq (lm lb li : Addr) (m b : Int) : pf lm lb li m b = [(fM, .ref lm), (fB, .ref lb), (fI, .ref li), (fN, .int m), (fH, .int b)] := by
  obtain ⟨h1, h2, h3, h4, h5, h6, h7, h8, h9, h10⟩ := f_ne
  unfold pf
  simp only [putF, if_neg h1, if_neg h2, if_neg h3, if_neg h4, if_neg h5, if_neg h6, if_neg h7, if_neg h8, if_neg h9, if_neg h10]
section
variable {lm lb li : Addr} {m b : Int}
theorem lk_M : (pf lm lb li m b).lookup fM = some (.ref lm) := by
  obtain ⟨h1, h2, h3, h4, h5, h6, h7, h8, h9, h10⟩ := f_ne
  unfold pf
  rw [lookup_putF, if_neg h4, lookup_putF, if_neg h3, lookup_putF, if_neg h2, lookup_putF, if_neg h1, lookup_putF, if_pos rfl]
theorem lk_B : (pf lm lb li m b).lookup fB = some (.ref lb) := by
  obtain ⟨h1, h2, h3, h4, h5, h6, h7, h8, h9, h10⟩ := f_ne
  unfold pf
  rw [lookup_putF, if_neg h7, lookup_putF, if_neg h6, lookup_putF, if_neg h5, lookup_putF, if_pos rfl]
theorem lk_I : (pf lm lb li m b).lookup fI = some (.ref li) := by
  obtain ⟨h1, h2, h3, h4, h5, h6, h7, h8, h9, h10⟩ := f_ne
  unfold pf
  rw [lookup_putF, if_neg h9, lookup_putF, if_neg h8, lookup_putF, if_pos rfl]
theorem lk_N : (pf lm lb li m b).lookup fN = some (.int m) := by
  obtain ⟨h1, h2, h3, h4, h5, h6, h7, h8, h9, h10⟩ := f_ne
  unfold pf
  rw [lookup_putF, if_neg h10, lookup_putF, if_pos rfl]
theorem lk_H : (pf lm lb li m b).lookup fH = some (.int b) := by
  unfold pf
  rw [lookup_putF, if_pos rfl]
theorem pf_N (c : Int) : putF fN (.int c) (pf lm lb li m b) = pf lm lb li c b := by
  obtain ⟨h1, h2, h3, h4, h5, h6, h7, h8, h9, h10⟩ := f_ne
  rw [pf_eq, pf_eq]
  simp only [putF, if_neg h3, if_neg h6, if_neg h8, if_pos]
theorem pf_H (c : Int) : putF fH (.int c) (pf lm lb li m b) = pf lm lb li m c := by
  obtain ⟨h1, h2, h3, h4, h5, h6, h7, h8, h9, h10⟩ := f_ne
  rw [pf_eq, pf_eq]
  simp only [putF, if_neg h4, if_neg h7, if_neg h9, if_neg h10, if_pos]
theorem pf_len : (pf lm lb li m b).length < 1000 := by rw [pf_eq]; show 5 < 1000; decide
theorem pf_no {x : Str} (h : x ≠ fM ∧ x ≠ fB ∧ x ≠ fI ∧ x ≠ fN ∧ x ≠ fH) : (pf lm lb li m b).lookup x = none := by
  obtain ⟨h1, h2, h3, h4, h5⟩ := h
  unfold pf
  rw [lookup_putF, if_neg h5, lookup_putF, if_neg h4, lookup_putF, if_neg h3, lookup_putF, if_neg h2, lookup_putF, if_neg h1]
  rfl
end
structure Mk where
  k : Kd
  w : Wd
  ln : Nat
  col : Nat
def Mk.vs (m : Mk) : List V := [.str (S m.k.cp), m.w.v, .int (m.ln : Nat), .int (m.col : Nat)]
structure Sc where
  marks : List Mk
  br : List Mk
  ind : List Nat
  many : Nat
  behind : Nat
/-- the values are the marks -/
def Mks (H : Hp) (vs : List V) (ms : List Mk) : Prop := vs.length = ms.length ∧ ∀ (i : Nat) (m : Mk), ms[i]? = some m → ∃ a : Addr, vs[i]? = some (V.ref a) ∧ H a = some (.tup m.vs)
theorem Mks.nil {H : Hp} : Mks H [] [] := ⟨rfl, fun i m h => by simp at h⟩
theorem Mks.snoc {H : Hp} {vs : List V} {ms : List Mk} {m : Mk} {a : Addr} (h : Mks H vs ms) (ha : H a = some (.tup m.vs)) : Mks H (vs ++ [V.ref a]) (ms ++ [m]) := by
  refine ⟨by simp [h.1], fun i x hx => ?_⟩
  by_cases c : i < ms.length
  · rw [List.getElem?_append_left c] at hx
    obtain ⟨b, h1, h2⟩ := h.2 i x hx
    exact ⟨b, by rw [List.getElem?_append_left (by rw [h.1]; exact c)]; exact h1, h2⟩
  · rw [List.getElem?_append_right (by omega)] at hx
    have e : i - ms.length = 0 := by
      have := (List.getElem?_eq_some_iff.mp hx).1
      simp at this; omega
    rw [e] at hx
    have : m = x := by simpa using hx
    subst this
    exact ⟨a, by rw [List.getElem?_append_right (by rw [h.1]; omega), h.1, e]; rfl, ha⟩
theorem Mks.pop {H : Hp} {vs : List V} {ms : List Mk} (h : Mks H vs ms) : Mks H vs.dropLast ms.dropLast := by
  refine ⟨by rw [List.length_dropLast, List.length_dropLast, h.1], fun i x hx => ?_⟩
  rw [List.getElem?_dropLast] at hx
  split at hx
  · rename_i c
    obtain ⟨b, h1, h2⟩ := h.2 i x hx
    exact ⟨b, by rw [List.getElem?_dropLast, if_pos (by rw [h.1]; exact c)]; exact h1, h2⟩
  · cases hx
theorem Mks.mono {H H' : Hp} {vs : List V} {ms : List Mk} (h : Mks H vs ms) (k : ∀ a t, H a = some (.tup t) → H' a = some (.tup t)) : Mks H' vs ms :=
  ⟨h.1, fun i m e => let ⟨a, h1, h2⟩ := h.2 i m e; ⟨a, h1, k _ _ h2⟩⟩
theorem keepL {H : Hp} {l : Addr} {xs : List V} {o : HO} (h : H l = some (.lst xs)) : ∀ a t, H a = some (.tup t) → upd H l o a = some (.tup t) := fun a t e => by
  rw [upd_ne (fun z => by rw [z, h] at e; cases e)]; exact e
theorem keepI {H : Hp} {l C dx : Addr} {fs : List (Str × V)} {o : HO} (h : H l = some (.ins C dx fs)) : ∀ a t, H a = some (.tup t) → upd H l o a = some (.tup t) := fun a t e => by
  rw [upd_ne (fun z => by rw [z, h] at e; cases e)]; exact e
theorem keepN {H : Hp} {l : Addr} {o : HO} (h : H l = none) : ∀ a t, H a = some (.tup t) → upd H l o a = some (.tup t) := fun a t e => by
  rw [upd_ne (fun z => by rw [z, h] at e; cases e)]; exact e
/-- behind H0 a scanner stands at p in the state s; dx, lm, lb, li: its dict and its lists -/
structure ScA (C : Addr) (H0 H : Hp) (p dx lm lb li : Addr) (s : Sc) : Prop where
  sm : Same H0 H
  p0 : H0 p = none
  m0 : H0 lm = none
  b0 : H0 lb = none
  i0 : H0 li = none
  nmb : lm ≠ lb
  nmi : lm ≠ li
  nbi : lb ≠ li
  hp : H p = some (.ins C dx (pf lm lb li s.many s.behind))
  hm : ∃ vs, H lm = some (.lst vs) ∧ Mks H vs s.marks
  hb : ∃ vs, H lb = some (.lst vs) ∧ Mks H vs s.br.reverse
  hi : H li = some (.lst (s.ind.reverse.map fun n => V.int (n : Nat)))
section
variable {C : Addr} {H0 H : Hp} {p dx lm lb li : Addr} {s : Sc}
/-- a new object -/
theorem ScA.fresh (A : ScA C H0 H p dx lm lb li s) {q : Addr} {o : HO} (h : H q = none) : ScA C H0 (upd H q o) p dx lm lb li s := by
  obtain ⟨vs, h1, h2⟩ := A.hm
  obtain ⟨ws, h3, h4⟩ := A.hb
  refine ⟨A.sm.trans (same_new h _), A.p0, A.m0, A.b0, A.i0, A.nmb, A.nmi, A.nbi, ?_, ⟨vs, ?_, h2.mono (keepN h)⟩, ⟨ws, ?_, h4.mono (keepN h)⟩, ?_⟩
  · rw [upd_ne (ne_of_none A.hp h)]; exact A.hp
  · rw [upd_ne (ne_of_none h1 h)]; exact h1
  · rw [upd_ne (ne_of_none h3 h)]; exact h3
  · rw [upd_ne (ne_of_none A.hi h)]; exact A.hi
theorem ScA.pm (A : ScA C H0 H p dx lm lb li s) : p ≠ lm := by obtain ⟨vs, h1, _⟩ := A.hm; exact ne_of A.hp h1 (by intro z; cases z)
theorem ScA.pb (A : ScA C H0 H p dx lm lb li s) : p ≠ lb := by obtain ⟨vs, h1, _⟩ := A.hb; exact ne_of A.hp h1 (by intro z; cases z)
theorem ScA.pi (A : ScA C H0 H p dx lm lb li s) : p ≠ li := ne_of A.hp A.hi (by intro z; cases z)
/-- the list of marks grows -/
theorem ScA.mark (A : ScA C H0 H p dx lm lb li s) {vs : List V} {a : Addr} {m : Mk} (h : H lm = some (.lst vs)) (ha : H a = some (.tup m.vs)) :
    ScA C H0 (upd H lm (.lst (vs ++ [V.ref a]))) p dx lm lb li { s with marks := s.marks ++ [m] } := by
  obtain ⟨us, h1, h2⟩ := A.hm
  obtain ⟨ws, h3, h4⟩ := A.hb
  have e : us = vs := by rw [h] at h1; cases h1; rfl
  subst e
  refine ⟨same_upd A.sm A.m0, A.p0, A.m0, A.b0, A.i0, A.nmb, A.nmi, A.nbi, ?_, ⟨_, upd_same, (h2.snoc ha).mono (keepL h)⟩, ⟨ws, ?_, h4.mono (keepL h)⟩, ?_⟩
  · rw [upd_ne A.pm]; exact A.hp
  · rw [upd_ne (Ne.symm A.nmb)]; exact h3
  · rw [upd_ne (Ne.symm A.nmi)]; exact A.hi
/-- the list of indents is another -/
theorem ScA.inds (A : ScA C H0 H p dx lm lb li s) {ns : List Nat} {vs : List V} (e : vs = ns.reverse.map fun n => V.int (n : Nat)) :
    ScA C H0 (upd H li (.lst vs)) p dx lm lb li { s with ind := ns } := by
  subst e
  obtain ⟨us, h1, h2⟩ := A.hm
  obtain ⟨ws, h3, h4⟩ := A.hb
  refine ⟨same_upd A.sm A.i0, A.p0, A.m0, A.b0, A.i0, A.nmb, A.nmi, A.nbi, ?_, ⟨us, ?_, h2.mono (keepL A.hi)⟩, ⟨ws, ?_, h4.mono (keepL A.hi)⟩, upd_same⟩
  · rw [upd_ne A.pi]; exact A.hp
  · rw [upd_ne A.nmi]; exact h1
  · rw [upd_ne A.nbi]; exact h3
/-- the list of brackets is another -/
theorem ScA.brs (A : ScA C H0 H p dx lm lb li s) {bs : List Mk} {vs vs0 : List V} (h0 : H lb = some (.lst vs0)) (e : Mks H vs bs.reverse) :
    ScA C H0 (upd H lb (.lst vs)) p dx lm lb li { s with br := bs } := by
  obtain ⟨us, h1, h2⟩ := A.hm
  refine ⟨same_upd A.sm A.b0, A.p0, A.m0, A.b0, A.i0, A.nmb, A.nmi, A.nbi, ?_, ⟨us, ?_, h2.mono (keepL h0)⟩, ⟨_, upd_same, e.mono (keepL h0)⟩, ?_⟩
  · rw [upd_ne A.pb]; exact A.hp
  · rw [upd_ne A.nmb]; exact h1
  · rw [upd_ne (Ne.symm A.nbi)]; exact A.hi
/-- a field is another -/
theorem ScA.flds (A : ScA C H0 H p dx lm lb li s) {n b : Nat} {fs : List (Str × V)} (e : fs = pf lm lb li n b) : ScA C H0 (upd H p (.ins C dx fs)) p dx lm lb li { s with many := n, behind := b } := by
  subst e
  obtain ⟨us, h1, h2⟩ := A.hm
  obtain ⟨ws, h3, h4⟩ := A.hb
  refine ⟨same_upd A.sm A.p0, A.p0, A.m0, A.b0, A.i0, A.nmb, A.nmi, A.nbi, upd_same, ⟨us, ?_, h2.mono (keepI A.hp)⟩, ⟨ws, ?_, h4.mono (keepI A.hp)⟩, ?_⟩
  · rw [upd_ne (Ne.symm A.pm)]; exact h1
  · rw [upd_ne (Ne.symm A.pb)]; exact h3
  · rw [upd_ne (Ne.symm A.pi)]; exact A.hi
end
def ScAt (C : Addr) (H0 H : Hp) (p : Addr) (s : Sc) : Prop := ∃ dx lm lb li, ScA C H0 H p dx lm lb li s
def sc0 : Sc := ⟨[], [], [0], 0, 1⟩
def spInit (C : Addr) : Sp := fun vs H Q _ => ∃ (H0 : Hp) (p dx : Addr), vs = [.ref p] ∧ Same H0 H ∧ H0 p = none ∧ H p = some (.ins C dx []) ∧ ∀ H' : Hp, ScAt C H0 H' p sc0 → Q .non H'
section
variable {P : Program} {w : World} {K : PySem.W.Frag} {mg : Str → Option Value} {base : Heap} {ec : Er → Addr} {C : Addr}
theorem ok_Scanner___init__ (SC0 : ScT K mg C) {f : Addr} {fd : FuncData} (F : Fun K "__init__" "Scanner.__init__" s_Scanner___init__ f fd) : FnOk P w K mg base CX0 1 f fd p_Scanner___init__ (spInit C) := by
  refine F.ok sc_Scanner___init__ (fun vs H Q E h => ?_) (fun cdv A outer s H vs Q E hr h => ?_)
  · obtain ⟨H0, p, dx, rfl, _⟩ := h; rfl
  obtain ⟨H0, p, dx, rfl, sm, p0, hp, q⟩ := h
  refine ⟨_, (pss_cons (ps_fld (pv 0) (pe_lst pa_nil) rfl)
      (pss_cons (ps_fld (pv 0) (pe_lst pa_nil) rfl)
      (pss_cons (ps_fld (pv 0) (pe_lst (pa_cons pe_int pa_nil)) rfl)
      (pss_cons (ps_fld (pv 0) pe_int rfl)
      (pss_one (ps_fld (pv 0) pe_int rfl)))))), ?_⟩
  refine ⟨Nat.zero_le _, fun lm hm => ?_⟩
  have npm : p ≠ lm := ne_of_none hp hm
  refine ⟨_, rfl, p, C, dx, [], rfl, (by rw [upd_ne npm]; exact hp), SC0.cl, SC0.n_marks, (by show 0 < 1000; decide), ?_⟩
  refine ⟨Nat.zero_le _, fun lb hb => ?_⟩
  have npb : p ≠ lb := fun z => by rw [z, upd_same] at hb; cases hb
  rw [upd_ne (Ne.symm npb)] at hb
  have nmb : lm ≠ lb := fun z => by rw [z, upd_same] at hb; cases hb
  rw [upd_ne (Ne.symm nmb)] at hb
  refine ⟨_, rfl, p, C, dx, _, rfl, (by rw [upd_ne npb, upd_same]), SC0.cl, SC0.n_brackets, (by show 1 < 1000; decide), ?_⟩
  refine ⟨(by show 1 ≤ sizeLine; decide), fun li hi => ?_⟩
  have npi : p ≠ li := fun z => by rw [z, upd_same] at hi; cases hi
  rw [upd_ne (Ne.symm npi)] at hi
  have nbi : lb ≠ li := fun z => by rw [z, upd_same] at hi; cases hi
  rw [upd_ne (Ne.symm nbi), upd_ne (Ne.symm npi)] at hi
  have nmi : lm ≠ li := fun z => by rw [z, upd_same] at hi; cases hi
  rw [upd_ne (Ne.symm nmi)] at hi
  refine ⟨_, rfl, p, C, dx, _, rfl, (by rw [upd_ne npi, upd_same]), SC0.cl, SC0.n_indents, (by rw [show putF "brackets" (V.ref lb) (putF "marks" (V.ref lm) []) = [(fM, .ref lm), (fB, .ref lb)] by simp only [putF, if_neg f_ne.1]]; show 2 < 1000; decide), ?_⟩
  have e3 : putF fI (V.ref li) (putF fB (V.ref lb) (putF fM (V.ref lm) [])) = [(fM, V.ref lm), (fB, V.ref lb), (fI, V.ref li)] := by
    obtain ⟨h1, h2, h3, h4, h5, h6, h7, h8, h9, h10⟩ := f_ne
    simp only [putF, if_neg h1, if_neg h2, if_neg h5]
  have e4 : putF fN (V.int 0) (putF fI (V.ref li) (putF fB (V.ref lb) (putF fM (V.ref lm) []))) = [(fM, V.ref lm), (fB, V.ref lb), (fI, V.ref li), (fN, V.int 0)] := by
    obtain ⟨h1, h2, h3, h4, h5, h6, h7, h8, h9, h10⟩ := f_ne
    rw [e3]; simp only [putF, if_neg h3, if_neg h6, if_neg h8]
  refine ⟨_, rfl, p, C, dx, _, rfl, upd_same, SC0.cl, SC0.n_many, (by show (putF fI (V.ref li) (putF fB (V.ref lb) (putF fM (V.ref lm) []))).length < 1000; rw [e3]; show 3 < 1000; decide), ?_⟩
  refine ⟨_, rfl, p, C, dx, _, rfl, upd_same, SC0.cl, SC0.n_behind, (by show (putF fN (V.int 0) (putF fI (V.ref li) (putF fB (V.ref lb) (putF fM (V.ref lm) [])))).length < 1000; rw [e4]; show 4 < 1000; decide), ?_⟩
  have hm0 : H0 lm = none := sm.free hm
  have hb0 : H0 lb = none := sm.free hb
  have hi0 : H0 li = none := sm.free hi
  refine q _ ⟨dx, lm, lb, li, ⟨fun b o e => ?_, p0, hm0, hb0, hi0, nmb, nmi, nbi, upd_same, ⟨[], ?_, Mks.nil⟩, ⟨[], ?_, Mks.nil⟩, ?_⟩⟩
  · have n1 := ne_of_none e p0
    have n2 := ne_of_none e hm0
    have n3 := ne_of_none e hb0
    have n4 := ne_of_none e hi0
    rw [upd_ne n1, upd_ne n1, upd_ne n1, upd_ne n4, upd_ne n1, upd_ne n3, upd_ne n1, upd_ne n2]
    exact sm _ _ e
  · rw [upd_ne (Ne.symm npm), upd_ne (Ne.symm npm), upd_ne (Ne.symm npm), upd_ne nmi, upd_ne (Ne.symm npm), upd_ne nmb, upd_ne (Ne.symm npm), upd_same]
  · rw [upd_ne (Ne.symm npb), upd_ne (Ne.symm npb), upd_ne (Ne.symm npb), upd_ne nbi, upd_ne (Ne.symm npb), upd_same]
  · rw [upd_ne (Ne.symm npi), upd_ne (Ne.symm npi), upd_ne (Ne.symm npi), upd_same]; rfl
end
end D0
namespace D0
open PySem PySem.Spec PyProof.Rows L2 SX NumText
theorem rz_up {ec : Er → Addr} {k : Er} {l c : Int} {H0 H : Hp} {E : XK} (s : Same H0 H) (h : Rz ec k l c H0 E) : Rz ec k l c H E := fun d H2 s2 n2 => h d H2 (s.trans s2) (s.free n2)
def OutS (ec : Er → Addr) (C : Addr) (H0 : Hp) (p : Addr) (Q : VK) (E : XK) : Except (Er × Nat × Nat) Sc → Prop
  | .ok s => ∀ H', ScAt C H0 H' p s → Q .non H'
  | .error e => Rz ec e.1 (e.2.1 : Nat) (e.2.2 : Nat) H0 E
def popW (n : Nat) : List Nat → List Nat
  | [] => []
  | t :: r => if n < t then popW n r else t :: r
def dedent (ln col : Nat) : Mk := ⟨.dedent, .s [], ln, col⟩
def finish (n ln col : Nat) (s : Sc) : Except (Er × Nat × Nat) Sc :=
  if (popW n s.ind).headD 0 < n then .error (.indent, ln, col) else .ok { s with ind := popW n s.ind, marks := s.marks ++ List.replicate (s.ind.length - (popW n s.ind).length) (dedent ln col) }
def beginLine (ln col : Nat) (s : Sc) : Except (Er × Nat × Nat) Sc :=
  if 0 < col - 1 ∧ s.marks = [] then .error (.indent, ln, col)
  else if s.ind.headD 0 < col - 1 then
    (if 11 < s.ind.length + 1 then .error (.deep, ln, col) else finish (col - 1) ln col { s with ind := (col - 1) :: s.ind, marks := s.marks ++ [⟨.indent, .s [], ln, col⟩] })
  else finish (col - 1) ln col s
theorem top_at {t : Nat} {r : List Nat} : atI ((t :: r).reverse.map fun n => V.int (n : Nat)) (-1) = some (V.int (t : Nat)) := by
  rw [List.reverse_cons, List.map_append]; exact atI_last _ _
/-- a stack of indents stands -/
def Ind (l : List Nat) : Prop := l.getLast? = some 0 ∧ l.length ≤ 12
theorem Ind.ne {l : List Nat} (h : Ind l) : l ≠ [] := fun z => by rw [z] at h; cases h.1
theorem Ind.tail {t : Nat} {r : List Nat} (h : Ind (t :: r)) (ht : 0 < t) : Ind r := by
  obtain ⟨a, b⟩ := h
  cases r with
  | nil => simp at a; omega
  | cons x y => exact ⟨by rw [List.getLast?_cons_cons] at a; exact a, by simp at b ⊢; omega⟩
def lim : Nat := 12000000
theorem lim_line : lim + 100 < sizeLine := by decide
def spBegin (ec : Er → Addr) (C : Addr) : Sp := fun vs H Q E => ∃ (H0 : Hp) (p : Addr) (s : Sc) (ln col : Nat), vs = [.ref p, .int ln, .int col] ∧ 1 ≤ col ∧ ScAt C H0 H p s ∧ Ind s.ind ∧ s.ind.length ≤ 11 ∧ s.marks.length ≤ lim ∧ OutS ec C H0 p Q E (beginLine ln col s)
theorem four : 4 ≤ sizeLine := by decide
section
variable {P : Program} {w : World} {K : PySem.W.Frag} {mg : Str → Option Value} {base : Heap} {ec : Er → Addr} {C : Addr}
theorem m_no : True := trivial
theorem ok_Scanner_begin_line (T : Txt K w mg) (ER : ErrT P w K mg base ec) (SC0 : ScT K mg C) :
    OkM P w K mg base C (L2.CX P w) 3 "begin_line" p_Scanner_begin_line (spBegin ec C) := by
  refine SC0.g_begin_line.okX sc_Scanner_begin_line (fun vs H Q E h => ?_) (fun f cdv A outer s H vs Q E hr h => ?_)
  · obtain ⟨H0, p, s, ln, col, rfl, _⟩ := h; rfl
  obtain ⟨H0, p, s, ln, col, rfl, hcol, ⟨dx, lm, lb, li, A⟩, hI, hI2, hM, q⟩ := h
  have zk : Str.ofString "indent" = S (Kd.cp .indent) ∧ Str.ofString "dedent" = S (Kd.cp .dedent) ∧ Str.ofString "" = S [] := by decide +kernel
  have hn : ((col : Int) - 1) = ((col - 1 : Nat) : Int) := by omega
  generalize hN : col - 1 = n at *
  refine split_at 3 (fun t => ∀ (s1 : Sc) (H1 : Hp), ScA C H0 H1 p dx lm lb li s1 → Ind s1.ind → s1.marks.length ≤ lim + 1 → OutS ec C H0 p Q E (finish n ln col s1) →
    t { nx := fun _ H' => Q .non H', rt := Q } [some (.ref p), some (.int ln), some (.int col), some (.int n)] H1) ?_ (fun t ht hg => ?_)
  · refine ⟨_, (pss_cons (ps_while (passes_of rfl) (pt_cmpR op_lt (pv 3) (pe_ix ix_list (pe_fld (pv 0) rfl) (pe_un un_neg pe_int) (fun _ _ => rfl)) (nomark _))
        (pss_cons (ps_expr (pe_bm0 PySem.F.plainAttrs_list PySem.F.slot_list_pop PySem.F.type_list_pop mt_pop (pe_fld (pv 0) rfl)))
      (pss_one (ps_expr (pe_bm PySem.F.plainAttrs_list PySem.F.slot_list_append PySem.F.type_list_append mt_append (pe_fld (pv 0) rfl) (pa_cons (pe_tup (pa_cons pe_str (pa_cons pe_str (pa_cons (pv 1) (pa_cons (pv 2) pa_nil))))) pa_nil))))))
      (pss_one (ps_if (pt_cmpR op_gt (pv 3) (pe_ix ix_list (pe_fld (pv 0) rfl) (pe_un un_neg pe_int) (fun _ _ => rfl)) (nomark _)) (pss_one (ps_raise rfl (takes_of rfl rfl rfl rfl) (pmk_err ER .indent hr (pa_cons (pv 1) (pa_cons (pv 2) pa_nil))))) pss_nil))), ?_⟩
    intro s1 H1 A1 hI1 hM1 q1
    refine ⟨fun m σ H' => ∃ (st : List Nat), σ = [some (.ref p), some (.int ln), some (.int col), some (.int n)] ∧ m = st.length ∧ Ind st ∧ st.length ≤ s1.ind.length ∧ popW n s1.ind = popW n st ∧
      ScA C H0 H' p dx lm lb li { s1 with ind := st, marks := s1.marks ++ List.replicate (s1.ind.length - st.length) (dedent ln col) },
      ⟨_, s1.ind, rfl, rfl, hI1, Nat.le_refl _, rfl, by rw [Nat.sub_self]; show ScA C H0 H1 p dx lm lb li { s1 with ind := s1.ind, marks := s1.marks ++ [] }; rw [List.append_nil]; exact A1⟩, ?_⟩
    rintro m σ H' ⟨st, rfl, rfl, hI2, hle, he, A2⟩
    cases st with
    | nil => exact absurd rfl hI2.ne
    | cons t r =>
    refine ⟨_, rfl, _, rfl, p, C, dx, _, _, rfl, A2.hp, SC0.cl, SC0.n_indents, lk_I, 1, rfl, li, _, -1, _, rfl, rfl, SqL.of A2.hi, top_at, _, _, rfl, rfl, _, rfl, iteD (b := decide ((n : Int) < (t : Int))) (fun c => ?_) (fun c => ?_)⟩
    · have c' : n < t := by have := of_decide_eq_true c; omega
      refine ⟨_, fun _ _ h => h, ?_⟩
      have hi3 := A2.hi
      refine ⟨_, rfl, p, C, dx, _, _, rfl, A2.hp, SC0.cl, SC0.n_indents, lk_I, .inl ⟨rfl, _, SqL.of hi3⟩, li, _, .int (t : Nat), rfl, rfl, hi3, ?_, ?_⟩
      · show (((t :: r).reverse.map fun n => V.int (n : Nat)))[((t :: r).reverse.map fun n => V.int (n : Nat)).length - 1]? = some (V.int (t : Nat))
        rw [List.reverse_cons, List.map_append, List.length_append, List.getElem?_append_right (by simp)]
        simp
      have A3 : ScA C H0 (upd H' li (.lst ((t :: r).reverse.map fun n => V.int (n : Nat)).dropLast)) p dx lm lb li { s1 with ind := r, marks := s1.marks ++ List.replicate (s1.ind.length - (t :: r).length) (dedent ln col) } :=
        A2.inds (ns := r) (by rw [List.reverse_cons, List.map_append]; simp)
      obtain ⟨vs, hv, hvm⟩ := A3.hm
      refine ⟨_, rfl, p, C, dx, _, _, rfl, A3.hp, SC0.cl, SC0.n_marks, lk_M, .inl ⟨rfl, _, SqL.of hv⟩, _, rfl, _, rfl, four, fun q hq => ?_⟩
      have A4 := A3.fresh (o := .tup [.str (Str.ofString "dedent"), .str (Str.ofString ""), .int ln, .int col]) hq
      obtain ⟨vs', hv', hvm'⟩ := A4.hm
      refine ⟨lm, _, _, rfl, rfl, hv', ?_, ?_⟩
      · rw [hvm'.1]
        have := lim_line
        show (s1.marks ++ List.replicate _ _).length < _
        rw [List.length_append, List.length_replicate]
        have := hI1.2
        omega
      · have A5 := A4.mark (m := dedent ln col) hv' (by rw [upd_same, zk.2.1, zk.2.2]; rfl)
        refine ⟨_, Nat.lt_succ_self _, r, rfl, rfl, hI2.tail (by omega), by simp at hle; omega, ?_, ?_⟩
        · rw [he]; show (if n < t then popW n r else t :: r) = _; rw [if_pos c']
        · have e : (s1.marks ++ List.replicate (s1.ind.length - (t :: r).length) (dedent ln col)) ++ [dedent ln col] = s1.marks ++ List.replicate (s1.ind.length - r.length) (dedent ln col) := by
            rw [List.append_assoc, ← List.replicate_succ']
            congr 2
            simp only [List.length_cons] at hle ⊢
            omega
          rw [← e]
          exact A5
    · have c' : ¬ n < t := by have := of_decide_eq_false c; omega
      have hp : popW n s1.ind = t :: r := by rw [he]; show (if n < t then popW n r else t :: r) = _; rw [if_neg c']
      unfold finish at q1
      rw [hp] at q1
      refine ⟨_, rfl, _, rfl, p, C, dx, _, _, rfl, A2.hp, SC0.cl, SC0.n_indents, lk_I, 1, rfl, li, _, -1, _, rfl, rfl, SqL.of A2.hi, top_at, _, _, rfl, rfl, _, rfl, iteD (b := decide ((t : Int) < (n : Int))) (fun c => ?_) (fun c => ?_)⟩
      · have c2 : t < n := by have := of_decide_eq_true c; omega
        rw [if_pos (show (t :: r).headD 0 < n from c2)] at q1
        exact ⟨_, rfl, _, rfl, rz_mk ER (rz_up A2.sm q1)⟩
      · have c2 : ¬ t < n := by have := of_decide_eq_false c; omega
        rw [if_neg (show ¬ (t :: r).headD 0 < n from c2)] at q1
        exact q1 _ ⟨dx, lm, lb, li, A2⟩
  · refine split_at 1 (fun t => t { nx := fun _ H' => Q .non H', rt := Q } [some (.ref p), some (.int ln), some (.int col), some (.int n)] H) ?_ (fun t ht hg => ?_)
    rotate_left
    · refine ⟨_, pss_cons (ps_set (i := 3) sc_Scanner_begin_line.nd rfl (.inl rfl) (pe_op op_sub (pv 2) pe_int)) ht, ?_⟩
      rw [← hn] at hg
      exact ⟨_, rfl, _, _, rfl, rfl, hg⟩
    obtain ⟨vs, hv, hvm⟩ := A.hm
    unfold beginLine at q
    rw [hN] at q
    refine split_at 1 (fun t => ¬ (0 < n ∧ s.marks = []) → t { nx := fun _ H' => Q .non H', rt := Q } [some (.ref p), some (.int ln), some (.int col), some (.int n)] H) ⟨_, pss_cons
      (ps_if (pt_cmpR op_gt (pv 3) (pe_ix ix_list (pe_fld (pv 0) rfl) (pe_un un_neg pe_int) (fun _ _ => rfl)) (nomark _)) (pss_cons (ps_expr (pe_bm PySem.F.plainAttrs_list PySem.F.slot_list_append PySem.F.type_list_append mt_append (pe_fld (pv 0) rfl) (pa_cons (pv 3) pa_nil)))
      (pss_cons (ps_if (pt_cmpR op_gt (pe_callB call_len_seq (by rfl) T.z_len PySem.boot_len (pa_cons (pe_fld (pv 0) rfl) pa_nil)) (pe_gI T.c_INDENT_LIMIT) (nomark _)) (pss_one (ps_raise rfl (takes_of rfl rfl rfl rfl) (pmk_err ER .deep hr (pa_cons (pv 1) (pa_cons (pv 2) pa_nil))))) pss_nil)
      (pss_one (ps_expr (pe_bm PySem.F.plainAttrs_list PySem.F.slot_list_append PySem.F.type_list_append mt_append (pe_fld (pv 0) rfl) (pa_cons (pe_tup (pa_cons pe_str (pa_cons pe_str (pa_cons (pv 1) (pa_cons (pv 2) pa_nil))))) pa_nil)))))) pss_nil) ht, fun hno => ?_⟩ (fun t ht2 rest => ?_)
    rotate_left
    · refine ⟨_, (pss_cons
        (ps_if (PW.pt (pw_and (pt_cmpR op_gt (pv 3) pe_int (nomark _)) (pw_and1 (pt_not (pt_truth (pe_fld (pv 0) rfl) (fun _ => rfl)))))) (pss_one (ps_raise rfl (takes_of rfl rfl rfl rfl) (pmk_err ER .indent hr (pa_cons (pv 1) (pa_cons (pv 2) pa_nil))))) pss_nil) ht2), ?_⟩
      refine ⟨_, rfl, _, _, rfl, rfl, _, rfl, iteD (b := decide ((0 : Int) < (n : Int))) (fun c => ?_) (fun c => ?_)⟩
      · have c' : 0 < n := by have := of_decide_eq_true c; omega
        refine ⟨_, rfl, p, C, dx, _, _, rfl, A.hp, SC0.cl, SC0.n_marks, lk_M, _, .inl ⟨vs, SqL.of hv, rfl⟩, ?_⟩
        cases hms : vs with
        | nil =>
          have hm0 : s.marks = [] := List.eq_nil_of_length_eq_zero (by rw [← hvm.1, hms]; rfl)
          rw [if_pos ⟨c', hm0⟩] at q
          exact iteT ⟨_, rfl, _, rfl, rz_mk ER (rz_up A.sm q)⟩
        | cons x y =>
          have hm0 : s.marks ≠ [] := fun z => by rw [hms, z] at hvm; have := hvm.1; simp at this
          exact iteF (rest fun z => hm0 z.2)
      · have c' : ¬ 0 < n := by have := of_decide_eq_false c; omega
        exact iteF (rest fun z => c' z.1)
    rw [if_neg hno] at q
    have hIs := A.hi
    obtain ⟨t0, r0, e0⟩ : ∃ t0 r0, s.ind = t0 :: r0 := by
      cases h : s.ind with
      | nil => exact absurd h hI.ne
      | cons a b => exact ⟨a, b, rfl⟩
    have htop : atI (s.ind.reverse.map fun n => V.int (n : Nat)) (-1) = some (V.int (t0 : Nat)) := by rw [e0]; exact top_at
    have hd0 : s.ind.headD 0 = t0 := by rw [e0]; rfl
    rw [hd0] at q
    refine ⟨_, rfl, _, rfl, p, C, dx, _, _, rfl, A.hp, SC0.cl, SC0.n_indents, lk_I, 1, rfl, li, _, -1, _, rfl, rfl, SqL.of hIs, htop, _, _, rfl, rfl, _, rfl, iteD (b := decide ((t0 : Int) < (n : Int))) (fun c => ?_) (fun c => ?_)⟩
    · have c' : t0 < n := by have := of_decide_eq_true c; omega
      rw [if_pos c'] at q
      have A1 := A.inds (ns := n :: s.ind) (vs := (s.ind.reverse.map fun n => V.int (n : Nat)) ++ [V.int (n : Nat)]) (by rw [List.reverse_cons, List.map_append]; rfl)
      refine ⟨_, rfl, p, C, dx, _, _, rfl, A.hp, SC0.cl, SC0.n_indents, lk_I, .inl ⟨rfl, _, SqL.of hIs⟩, _, rfl, li, _, _, rfl, rfl, hIs, ?_, ?_⟩
      · rw [List.length_map, List.length_reverse]
        have : 12 < sizeLine := by decide
        omega
      have e2 : decide ((11 : Int) < ((((s.ind.reverse.map fun n => V.int (n : Nat)) ++ [V.int (n : Nat)]).length : Nat) : Int)) = decide (11 < s.ind.length + 1) := by
        rw [List.length_append, List.length_map, List.length_reverse]; exact lt_dec (a := 11)
      refine ⟨_, rfl, p, C, dx, _, _, rfl, A1.hp, SC0.cl, SC0.n_indents, lk_I, li, _, rfl, .inl (SqL.of upd_same), _, _, rfl, rfl, _, rfl, ?_⟩
      by_cases c2 : 11 < s.ind.length + 1
      · rw [if_pos c2] at q
        refine iteT' (e2.trans (decide_eq_true c2)) ?_
        exact ⟨_, rfl, _, rfl, rz_mk ER (rz_up A1.sm q)⟩
      rw [if_neg c2] at q
      refine iteF' (e2.trans (decide_eq_false c2)) ?_
      refine ⟨_, rfl, p, C, dx, _, _, rfl, A1.hp, SC0.cl, SC0.n_marks, lk_M, .inl ⟨rfl, vs, SqL.of (by rw [upd_ne A.nmi]; exact hv)⟩, _, rfl, _, rfl, four, fun u hu => ?_⟩
      have A2 := A1.fresh (o := .tup [.str (Str.ofString "indent"), .str (Str.ofString ""), .int ln, .int col]) hu
      obtain ⟨vs', hv', hvm'⟩ := A2.hm
      refine ⟨lm, _, _, rfl, rfl, hv', ?_, ?_⟩
      · rw [hvm'.1]
        have := lim_line
        show s.marks.length < _
        omega
      · have A5 := A2.mark (m := ⟨.indent, .s [], ln, col⟩) hv' (by rw [upd_same, zk.1, zk.2.2]; rfl)
        refine hg _ _ A5 ⟨?_, ?_⟩ ?_ q
        · show (n :: s.ind).getLast? = some 0
          rw [e0, List.getLast?_cons_cons, ← e0]; exact hI.1
        · show s.ind.length + 1 ≤ 12; omega
        · show (s.marks ++ [_]).length ≤ lim + 1
          rw [List.length_append]; show s.marks.length + 1 ≤ _; omega
    · have c' : ¬ t0 < n := by have := of_decide_eq_false c; omega
      rw [if_neg c'] at q
      exact hg s H A hI (by omega) q
end
end D0
namespace D0
open PySem PySem.Spec PyProof.Rows L2 SX NumText
theorem at_last {α : Type} {vs : List α} {n : Nat} {v : α} (h : vs[n]? = some v) (e : vs.length = n + 1) : atI vs (-1) = some v ∧ vs[vs.length - 1]? = some v := by
  have h2 : vs[vs.length - 1]? = some v := by rw [e]; exact h
  refine ⟨?_, h2⟩
  have h3 : vs.getLast? = some v := by rw [List.getLast?_eq_getElem?]; exact h2
  obtain ⟨ys, rfl⟩ := List.getLast?_eq_some_iff.mp h3
  exact atI_last ys v
theorem Mks.top {H : Hp} {vs : List V} {b : Mk} {r : List Mk} (h : Mks H vs (b :: r).reverse) : ∃ a, atI vs (-1) = some (V.ref a) ∧ vs[vs.length - 1]? = some (V.ref a) ∧ H a = some (.tup b.vs) := by
  have e : (b :: r).reverse[r.length]? = some b := by
    rw [List.reverse_cons, List.getElem?_append_right (by simp)]; simp
  obtain ⟨a, h1, h2⟩ := h.2 r.length b e
  have hl : vs.length = r.length + 1 := by rw [h.1]; simp
  have := at_last h1 hl
  exact ⟨a, this.1, this.2, h2⟩
theorem Mks.last {H : Hp} {vs : List V} {b : Mk} {ms : List Mk} (h : Mks H vs ms) (hb : ms.getLast? = some b) : ∃ a, atI vs (-1) = some (V.ref a) ∧ H a = some (.tup b.vs) := by
  obtain ⟨ys, rfl⟩ := List.getLast?_eq_some_iff.mp hb
  obtain ⟨a, h1, h2⟩ := h.2 ys.length b (by simp)
  have hl : vs.length = ys.length + 1 := by rw [h.1]; simp
  exact ⟨a, (at_last h1 hl).1, h2⟩
def wl : Wd → List Nat
  | .s l => l
  | .n _ => []
def isS : Wd → Bool
  | .s _ => true
  | .n _ => false
theorem isS_v {x : Wd} (h : isS x = true) : x.v = .str (S (wl x)) := by cases x with
  | s l => rfl
  | n k => cases h
def matchBr (m : Mk) (s : Sc) : Except (Er × Nat × Nat) Sc :=
  if wl m.w ∈ OPN then .ok { s with br := m :: s.br } else
  match cloV (wl m.w) with
  | none => .ok s
  | some o => match s.br with
    | [] => .error (.token, m.ln, m.col)
    | b :: r => if wl b.w = o then .ok { s with br := r } else .error (.token, m.ln, m.col)
def BrOk (s : Sc) : Prop := (∀ b ∈ s.br, isS b.w = true) ∧ s.br.length ≤ 1000
def spMatch (ec : Er → Addr) (C : Addr) : Sp := fun vs H Q E => ∃ (H0 : Hp) (p a : Addr) (s : Sc) (m : Mk), vs = [.ref p, .ref a] ∧ H a = some (.tup m.vs) ∧ isS m.w = true ∧ ScAt C H0 H p s ∧ BrOk s ∧ OutS ec C H0 p Q E (matchBr m s)
section
variable {P : Program} {w : World} {K : PySem.W.Frag} {mg : Str → Option Value} {base : Heap} {ec : Er → Addr} {C : Addr}
theorem ok_Scanner_match_bracket (T : Txt K w mg) (ER : ErrT P w K mg base ec) (SC0 : ScT K mg C) :
    OkM P w K mg base C (L2.CX P w) 3 "match_bracket" p_Scanner_match_bracket (spMatch ec C) := by
  obtain ⟨oA, oG, oT⟩ := T.c_OPENING
  obtain ⟨dC, es, en, gC, KC, hC⟩ := T.c_CLOSING
  refine SC0.g_match_bracket.okX sc_Scanner_match_bracket (fun vs H Q E h => ?_) (fun f cdv A outer s H vs Q E hr h => ?_)
  · obtain ⟨H0, p, a, s, m, rfl, _⟩ := h; rfl
  obtain ⟨H0, p, a, s, m, rfl, ha, hw, ⟨dx, lm, lb, li, A⟩, ⟨hB1, hB2⟩, q⟩ := h
  have a1 : atI m.vs (1 : Int) = some (.str (S (wl m.w))) := by rw [← isS_v hw]; exact atI_nat (j := 1) rfl
  have a2 : atI m.vs (2 : Int) = some (.int (m.ln : Nat)) := atI_nat (j := 2) rfl
  have a3 : atI m.vs (3 : Int) = some (.int (m.col : Nat)) := atI_nat (j := 3) rfl
  unfold matchBr at q
  generalize hwl : wl m.w = W at *
  obtain ⟨vb, hvb, hvm⟩ := A.hb
  refine ⟨_, (pss_cons (ps_set (i := 2) sc_Scanner_match_bracket.nd rfl (.inl rfl) (pe_ix ix_tup (pv 1) pe_int (fun _ _ => rfl)))
      (pss_one (ps_if (pt_cmpR op_in_seq (pv 2) (pe_glob (v := .ref oA) rfl oG rfl) (by rfl)) (pss_one (ps_expr (pe_bm PySem.F.plainAttrs_list PySem.F.slot_list_append PySem.F.type_list_append mt_append (pe_fld (pv 0) rfl) (pa_cons (pv 1) pa_nil)))) (pss_one (ps_if (pt_cmpR (op_in_kd KC) (pv 2) (pe_glob (v := .ref dC) rfl gC rfl) (by rfl)) (pss_cons (ps_if (PW.pt (pw_or (pt_not (pt_truth (pe_fld (pv 0) rfl) (fun _ => rfl))) (pw_or1 (pt_cmpR op_ne (pe_ix ix_tup (pe_ix ix_list (pe_fld (pv 0) rfl) (pe_un un_neg pe_int) (fun _ _ => rfl)) pe_int (fun _ _ => rfl)) (pe_ix ix_kdict (pe_glob (v := .ref dC) rfl gC rfl) (pv 2) (fun _ _ => rfl)) (nomark _))))) (pss_one (ps_raise rfl (takes_of rfl rfl rfl rfl) (pmk_err ER .token hr (pa_cons (pe_ix ix_tup (pv 1) pe_int (fun _ _ => rfl)) (pa_cons (pe_ix ix_tup (pv 1) pe_int (fun _ _ => rfl)) pa_nil))))) pss_nil)
      (pss_one (ps_expr (pe_bm0 PySem.F.plainAttrs_list PySem.F.slot_list_pop PySem.F.type_list_pop mt_pop (pe_fld (pv 0) rfl))))) pss_nil))))), ?_⟩
  refine ⟨_, rfl, a, _, 1, _, rfl, rfl, SqT.of ha, a1, ?_⟩
  refine ⟨_, rfl, oA, _, rfl, .inr (oT _), rfl, flat_strs OPN, _, rfl, ?_⟩
  have e2 := in_strs W OPN
  by_cases c : W ∈ OPN
  · rw [if_pos c] at q
    refine iteT' (e2.trans (decide_eq_true c)) ?_
    refine ⟨_, rfl, p, C, dx, _, _, rfl, A.hp, SC0.cl, SC0.n_brackets, lk_B, .inl ⟨rfl, _, SqL.of hvb⟩, _, rfl, lb, _, _, rfl, rfl, hvb, ?_, ?_⟩
    · rw [hvm.1, List.length_reverse]
      have : 1000 < sizeLine := by decide
      omega
    · exact q _ ⟨dx, lm, lb, li, A.brs hvb (by rw [List.reverse_cons]; exact hvm.snoc ha)⟩
  rw [if_neg c] at q
  refine iteF' (e2.trans (decide_eq_false c)) ?_
  obtain ⟨r, hr1, hr2, hr3⟩ := hC W
  refine ⟨_, rfl, S W, r, rfl, rfl, hr1, _, rfl, ?_⟩
  cases hx : cloV W with
  | none =>
    rw [hx] at q
    exact iteF' (by rw [hr2, hx]; rfl) (q _ ⟨dx, lm, lb, li, A⟩)
  | some o =>
    rw [hx] at q
    obtain ⟨u0, hu, ru⟩ := hr3 o hx
    rw [hu] at hr1
    refine iteT' (by rw [hr2, hx]; rfl) ?_
    refine ⟨_, rfl, p, C, dx, _, _, rfl, A.hp, SC0.cl, SC0.n_brackets, lk_B, _, .inl ⟨vb, SqL.of hvb, rfl⟩, ?_⟩
    cases hbr : s.br with
    | nil =>
      rw [hbr] at q hvm
      have : vb = [] := List.eq_nil_of_length_eq_zero (by rw [hvm.1]; rfl)
      subst this
      exact iteT (iteT ⟨_, rfl, a, _, 2, _, rfl, rfl, SqT.of ha, a2, _, rfl, a, _, 3, _, rfl, rfl, SqT.of ha, a3, rz_mk ER (rz_up A.sm q)⟩)
    | cons b r =>
      rw [hbr] at q
      have hvm' := hvm
      rw [hbr] at hvm'
      obtain ⟨ab, t1, t2, t3⟩ := hvm'.top
      have hne : vb ≠ [] := fun z => by rw [z, hbr] at hvm; have := hvm.1; simp at this
      have hem : (!!vb.isEmpty) = false := by cases vb with
        | nil => exact absurd rfl hne
        | cons x y => rfl
      have hbw : isS b.w = true := hB1 b (by rw [hbr]; exact List.mem_cons_self)
      have b1 : atI b.vs (1 : Int) = some (.str (S (wl b.w))) := by rw [← isS_v hbw]; exact atI_nat (j := 1) rfl
      refine iteF' hem ?_
      refine ⟨_, rfl, p, C, dx, _, _, rfl, A.hp, SC0.cl, SC0.n_brackets, lk_B, 1, rfl, lb, _, -1, _, rfl, rfl, SqL.of hvb, t1, ab, _, 1, _, rfl, rfl, SqT.of t3, b1, _, rfl, dC, S W, _, rfl, rfl, ⟨_, _, _, KC.at_, KC.lit, hr1, ru⟩, rfl, _, rfl, ?_⟩
      have e5 : (!decide (V.str (S (wl b.w)) = V.str (S o))) = !decide (wl b.w = o) := by rw [str_dec]
      by_cases c5 : wl b.w = o
      · have q : OutS ec C H0 p Q E (if wl b.w = o then .ok { s with br := r } else .error (.token, m.ln, m.col)) := q
        rw [if_pos c5] at q
        refine iteF' (e5.trans (by rw [decide_eq_true c5]; rfl)) ?_
        refine ⟨_, rfl, p, C, dx, _, _, rfl, A.hp, SC0.cl, SC0.n_brackets, lk_B, .inl ⟨rfl, _, SqL.of hvb⟩, lb, _, _, rfl, rfl, hvb, t2, ?_⟩
        exact q _ ⟨dx, lm, lb, li, A.brs hvb (by have := hvm'.pop; rw [List.reverse_cons, List.dropLast_concat] at this; exact this)⟩
      · have q : OutS ec C H0 p Q E (if wl b.w = o then .ok { s with br := r } else .error (.token, m.ln, m.col)) := q
        rw [if_neg c5] at q
        refine iteT' (e5.trans (by rw [decide_eq_false c5]; rfl)) ?_
        exact ⟨_, rfl, a, _, 2, _, rfl, rfl, SqT.of ha, a2, _, rfl, a, _, 3, _, rfl, rfl, SqT.of ha, a3, rz_mk ER (rz_up A.sm q)⟩
end
end D0
namespace D0
open PySem PySem.Spec PyProof.Rows L2 SX NumText
def isSg : Kd → Bool
  | .sign => true
  | _ => false
def addM (m : Mk) (s : Sc) : Sc := { s with marks := s.marks ++ [m] }
def gatherP (m : Mk) (s : Sc) : Except (Er × Nat × Nat) Sc :=
  if 120 < s.many + 1 then .error (.long, m.ln, m.col) else
  if isSg m.k = true then (matchBr m { s with many := s.many + 1 }).map (addM m) else .ok (addM m { s with many := s.many + 1 })
theorem sg_dec (k : Kd) : decide (V.str (S k.cp) = V.str (Str.ofString "sign")) = isSg k := by
  have z : Str.ofString "sign" = S (Kd.cp .sign) := by decide +kernel
  rw [z, str_dec]
  cases k <;> rfl
def spGather (ec : Er → Addr) (C : Addr) : Sp := fun vs H Q E => ∃ (H0 : Hp) (p a : Addr) (s : Sc) (m : Mk), vs = [.ref p, .ref a] ∧ H a = some (.tup m.vs) ∧ (isSg m.k = true → isS m.w = true) ∧ ScAt C H0 H p s ∧ BrOk s ∧ s.marks.length ≤ lim + 20 ∧ OutS ec C H0 p Q E (gatherP m s)
def endLine (ln : Nat) (s : Sc) : Sc := { s with marks := s.marks ++ [⟨.newline, .s [], ln, s.behind⟩], many := 0 }
def spEndLine (C : Addr) : Sp := fun vs H Q _ => ∃ (H0 : Hp) (p : Addr) (s : Sc) (ln : Nat), vs = [.ref p, .int ln] ∧ ScAt C H0 H p s ∧ s.marks.length ≤ lim + 20 ∧ ∀ H', ScAt C H0 H' p (endLine ln s) → Q .non H'
theorem no_match : ("match_bracket" : Str) ≠ fM ∧ ("match_bracket" : Str) ≠ fB ∧ ("match_bracket" : Str) ≠ fI ∧ ("match_bracket" : Str) ≠ fN ∧ ("match_bracket" : Str) ≠ fH := by decide +kernel
theorem ScA.hold {C : Addr} {H0 H : Hp} {p dx lm lb li a : Addr} {s : Sc} {t : List V} (A : ScA C H0 H p dx lm lb li s) (ha : H a = some (.tup t)) : ScA C (upd H0 a (.tup t)) H p dx lm lb li s ∧ Same H0 (upd H0 a (.tup t)) := by
  obtain ⟨vs, h1, h2⟩ := A.hm
  obtain ⟨ws, h3, h4⟩ := A.hb
  have np : p ≠ a := ne_of A.hp ha (by intro z; cases z)
  have nm : lm ≠ a := ne_of h1 ha (by intro z; cases z)
  have nb : lb ≠ a := ne_of h3 ha (by intro z; cases z)
  have ni : li ≠ a := ne_of A.hi ha (by intro z; cases z)
  refine ⟨⟨fun b u e => ?_, by rw [upd_ne np]; exact A.p0, by rw [upd_ne nm]; exact A.m0, by rw [upd_ne nb]; exact A.b0, by rw [upd_ne ni]; exact A.i0, A.nmb, A.nmi, A.nbi, A.hp, ⟨vs, h1, h2⟩, ⟨ws, h3, h4⟩, A.hi⟩, fun b u e => ?_⟩
  · by_cases z : b = a
    · rw [z, upd_same] at e; rw [z, ha]; exact e
    · rw [upd_ne z] at e; exact A.sm _ _ e
  · by_cases z : b = a
    · have := A.sm _ _ e; rw [z, ha] at this; rw [z, upd_same]; exact this
    · rw [upd_ne z]; exact e
theorem ScAt.weak {C : Addr} {H0 H0' H : Hp} {p : Addr} {s : Sc} (A : ScAt C H0' H p s) (h : Same H0 H0') : ScAt C H0 H p s := by
  obtain ⟨dx, lm, lb, li, A⟩ := A
  exact ⟨dx, lm, lb, li, ⟨h.trans A.sm, h.free A.p0, h.free A.m0, h.free A.b0, h.free A.i0, A.nmb, A.nmi, A.nbi, A.hp, A.hm, A.hb, A.hi⟩⟩
section
variable {P : Program} {w : World} {K : PySem.W.Frag} {mg : Str → Option Value} {base : Heap} {ec : Er → Addr} {C : Addr}
theorem matchBr_marks {m : Mk} {s s' : Sc} (h : matchBr m s = .ok s') : s'.marks = s.marks ∧ s'.many = s.many ∧ s'.ind = s.ind ∧ s'.behind = s.behind := by
  unfold matchBr at h
  split at h
  · cases h; exact ⟨rfl, rfl, rfl, rfl⟩
  · split at h
    · cases h; exact ⟨rfl, rfl, rfl, rfl⟩
    · split at h
      · cases h
      · split at h
        · cases h; exact ⟨rfl, rfl, rfl, rfl⟩
        · cases h
theorem ok_Scanner_gather (T : Txt K w mg) (ER : ErrT P w K mg base ec) (SC0 : ScT K mg C) (OM : OkM P w K mg base C (L2.CX P w) 3 "match_bracket" p_Scanner_match_bracket (spMatch ec C)) :
    OkM P w K mg base C (L2.CX P w) 4 "gather" p_Scanner_gather (spGather ec C) := by
  refine SC0.g_gather.okX sc_Scanner_gather (fun vs H Q E h => ?_) (fun f cdv A outer s H vs Q E hr h => ?_)
  · obtain ⟨H0, p, a, s, m, rfl, _⟩ := h; rfl
  obtain ⟨H0, p, a, s, m, rfl, ha, hw, ⟨dx, lm, lb, li, A⟩, hB, hM, q⟩ := h
  have a0 : atI m.vs (0 : Int) = some (.str (S m.k.cp)) := atI_nat (j := 0) rfl
  have a2 : atI m.vs (2 : Int) = some (.int (m.ln : Nat)) := atI_nat (j := 2) rfl
  have a3 : atI m.vs (3 : Int) = some (.int (m.col : Nat)) := atI_nat (j := 3) rfl
  refine split_at 3 (fun t => ∀ (s2 : Sc) (H2 : Hp), ScAt C H0 H2 p s2 → s2.marks.length ≤ lim + 20 → H2 a = some (.tup m.vs) → (∀ H', ScAt C H0 H' p (addM m s2) → Q .non H') →
    t { nx := fun _ H' => Q .non H', rt := Q } [some (.ref p), some (.ref a)] H2) ?_ (fun t ht hg => ?_)
  · refine ⟨_, pss_one (ps_expr (pe_bm PySem.F.plainAttrs_list PySem.F.slot_list_append PySem.F.type_list_append mt_append (pe_fld (pv 0) rfl) (pa_cons (pv 1) pa_nil))), ?_⟩
    rintro s2 H2 ⟨dx, lm, lb, li, A2⟩ hM2 ha2 q2
    obtain ⟨vs, hv, hvm⟩ := A2.hm
    refine ⟨_, rfl, p, C, dx, _, _, rfl, A2.hp, SC0.cl, SC0.n_marks, lk_M, .inl ⟨rfl, _, SqL.of hv⟩, _, rfl, lm, _, _, rfl, rfl, hv, ?_, ?_⟩
    · rw [hvm.1]
      have := lim_line
      omega
    · exact q2 _ ⟨dx, lm, lb, li, A2.mark hv ha2⟩
  · refine ⟨_, pss_cons (ps_fldaug (pv 0) pe_int ip_add) (pss_cons (ps_if (pt_cmpR op_gt (pe_fld (pv 0) rfl) (pe_gI T.c_TOKEN_LIMIT) (nomark _)) (pss_one (ps_raise rfl (takes_of rfl rfl rfl rfl) (pmk_err ER .long hr (pa_cons (pe_ix ix_tup (pv 1) pe_int (fun _ _ => rfl)) (pa_cons (pe_ix ix_tup (pv 1) pe_int (fun _ _ => rfl)) pa_nil))))) pss_nil)
      (pss_cons (ps_if (pt_cmpR op_eq (pe_ix ix_tup (pv 1) pe_int (fun _ _ => rfl)) pe_str (nomark _)) (pss_one (ps_expr (pmethE OM SC0.cl hr (passes_call (takes_of rfl rfl rfl rfl) (fun _ _ _ _ h => h)) (pv 0) (pa_cons (pv 1) pa_nil)))) pss_nil) ht)), ?_⟩
    have A1 := A.flds (n := s.many + 1) (b := s.behind) (fs := putF fN (.int ((s.many : Int) + 1)) (pf lm lb li s.many s.behind)) (pf_N _)
    have ha1 : upd H p (.ins C dx (putF fN (.int ((s.many : Int) + 1)) (pf lm lb li s.many s.behind))) a = some (.tup m.vs) := keepI A.hp _ _ ha
    refine ⟨_, rfl, p, C, dx, _, _, rfl, A.hp, SC0.cl, SC0.n_many, lk_N, _, _, rfl, rfl, dx, _, A.hp, pf_len, ?_⟩
    have e1 : decide ((120 : Int) < ((s.many + 1 : Nat) : Int)) = decide (120 < s.many + 1) := lt_dec (a := 120)
    refine ⟨_, rfl, p, C, dx, _, _, rfl, A1.hp, SC0.cl, SC0.n_many, lk_N, _, _, rfl, rfl, _, rfl, ?_⟩
    unfold gatherP at q
    by_cases c : 120 < s.many + 1
    · rw [if_pos c] at q
      refine iteT' (e1.trans (decide_eq_true c)) ?_
      exact ⟨_, rfl, a, _, 2, _, rfl, rfl, SqT.of ha1, a2, _, rfl, a, _, 3, _, rfl, rfl, SqT.of ha1, a3, rz_mk ER (rz_up A1.sm q)⟩
    rw [if_neg c] at q
    refine iteF' (e1.trans (decide_eq_false c)) ?_
    refine ⟨_, rfl, a, _, 0, _, rfl, rfl, SqT.of ha1, a0, rfl, _, rfl, ?_⟩
    have e2 := sg_dec m.k
    cases hk : isSg m.k with
    | true =>
      rw [hk, if_pos rfl] at q
      refine iteT' (e2.trans hk) ?_
      obtain ⟨A2, sm2⟩ := A1.hold ha1
      refine ⟨_, rfl, p, dx, _, rfl, A1.hp, pf_no no_match, _, rfl, _, p, a, _, m, rfl, ha1, hw hk, ⟨dx, lm, lb, li, A2⟩, hB, ?_⟩
      cases hr1 : matchBr m { s with many := s.many + 1 } with
      | error e => rw [hr1] at q; exact rz_up sm2 q
      | ok s2 =>
        rw [hr1] at q
        intro H2 A3
        have A3w := A3.weak sm2
        obtain ⟨_, _, _, _, A3'⟩ := A3
        exact hg s2 H2 A3w (by rw [(matchBr_marks hr1).1]; exact hM) (A3'.sm _ _ upd_same) q
    | false =>
      rw [hk, if_neg Bool.false_ne_true] at q
      exact iteF' (e2.trans hk) (hg _ _ ⟨dx, lm, lb, li, A1⟩ hM ha1 q)
theorem ok_Scanner_end_line (SC0 : ScT K mg C) : OkM P w K mg base C CX0 1 "end_line" p_Scanner_end_line (spEndLine C) := by
  refine SC0.g_end_line.ok sc_Scanner_end_line (fun vs H Q E h => ?_) (fun f cdv A outer s H vs Q E hr h => ?_)
  · obtain ⟨H0, p, s, ln, rfl, _⟩ := h; rfl
  obtain ⟨H0, p, s, ln, rfl, ⟨dx, lm, lb, li, A⟩, hM, q⟩ := h
  have zk : Str.ofString "newline" = S (Kd.cp .newline) ∧ Str.ofString "" = S [] := by decide +kernel
  refine ⟨_, (pss_cons (ps_expr (pe_bm PySem.F.plainAttrs_list PySem.F.slot_list_append PySem.F.type_list_append mt_append (pe_fld (pv 0) rfl) (pa_cons (pe_tup (pa_cons pe_str (pa_cons pe_str (pa_cons (pv 1) (pa_cons (pe_fld (pv 0) rfl) pa_nil))))) pa_nil)))
      (pss_one (ps_fld (pv 0) pe_int rfl))), ?_⟩
  obtain ⟨vs, hv, hvm⟩ := A.hm
  refine ⟨_, rfl, p, C, dx, _, _, rfl, A.hp, SC0.cl, SC0.n_marks, lk_M, .inl ⟨rfl, _, SqL.of hv⟩, _, rfl, _, rfl, p, C, dx, _, _, rfl, A.hp, SC0.cl, SC0.n_behind, lk_H, four, fun u hu => ?_⟩
  have A2 := A.fresh (o := .tup [.str (Str.ofString "newline"), .str (Str.ofString ""), .int ln, .int s.behind]) hu
  obtain ⟨vs', hv', hvm'⟩ := A2.hm
  refine ⟨lm, _, _, rfl, rfl, hv', ?_, ?_⟩
  · rw [hvm'.1]
    have := lim_line
    omega
  have A3 := A2.mark (m := ⟨.newline, .s [], ln, s.behind⟩) hv' (by rw [upd_same, zk.1, zk.2]; rfl)
  refine ⟨_, rfl, p, C, dx, _, rfl, A3.hp, SC0.cl, SC0.n_many, pf_len, ?_⟩
  exact q _ ⟨dx, lm, lb, li, A3.flds (n := 0) (b := s.behind) (pf_N 0)⟩
end
end D0
namespace D0
open PySem PySem.Spec PyProof.Rows L2 SX NumText
/-! ### what a token and a line do to the state -/
theorem scanT_ok {q st : Nat} : ∀ {e : Bool} {l : List Nat} {at_ : Nat} {acc : List Nat} {t : Tr}, scanT q st e l at_ acc = .ok t → at_ + 1 ≤ t.2.2 ∧ t.2.2 ≤ at_ + l.length ∧ t.1 = .text
  | e, [], at_, acc, t, h => by cases e <;> (unfold scanT at h; cases h)
  | true, c :: r, at_, acc, t, h => by
    unfold scanT at h
    split at h
    · cases h
    · have := scanT_ok h; simp only [List.length_cons]; exact ⟨by omega, by omega, this.2.2⟩
  | false, c :: r, at_, acc, t, h => by
    unfold scanT at h
    split at h
    · cases h; simp only [List.length_cons]; exact ⟨Nat.le_refl _, by omega, by first | rfl | trivial⟩
    · split at h
      · have := scanT_ok h; simp only [List.length_cons]; exact ⟨by omega, by omega, this.2.2⟩
      · have := scanT_ok h; simp only [List.length_cons]; exact ⟨by omega, by omega, this.2.2⟩
theorem twl_gt {f : Nat → Bool} {l : List Nat} {i : Nat} (hi : i < l.length) (h : f l[i] = true) : i + 1 ≤ twl f l i := by
  have g : l[i]? = some l[i] := List.getElem?_eq_getElem hi
  rw [twl_step g h]
  exact twl_ge l (i + 1)
theorem scanTok_ok {l : List Nat} {i : Nat} {t : Tr} (hi : i < l.length) (h : scanTok l i = .ok t) : i + 1 ≤ t.2.2 ∧ t.2.2 ≤ l.length ∧ (isSg t.1 = true → isS t.2.1 = true) := by
  have hd : (l.drop i).headD 0 = l[i] := by rw [List.drop_eq_getElem_cons hi]; rfl
  unfold scanTok at h
  rw [hd] at h
  by_cases c1 : letc l[i] = true
  · rw [if_pos c1] at h
    unfold scanName at h
    split at h
    · cases h
    · cases h
      refine ⟨twl_gt hi (by unfold namc; rw [c1]; rfl), twl_le (Nat.le_of_lt hi), fun z => ?_⟩
      rfl
  rw [if_neg c1] at h
  by_cases c2 : isDig l[i] = true
  · rw [if_pos c2] at h
    unfold scanNumber at h
    split at h
    · cases h
    · cases h
      exact ⟨twl_gt hi c2, twl_le (Nat.le_of_lt hi), fun z => by cases z⟩
  rw [if_neg c2] at h
  split at h
  · unfold scanText at h
    have := scanT_ok h
    rw [List.length_drop] at this
    exact ⟨by omega, by omega, fun z => by rw [this.2.2] at z; cases z⟩
  · unfold scanSign at h
    cases hf : SG.find? (fun s => decide ((l.drop i).take s.length = s)) with
    | none => rw [hf] at h; cases h
    | some s =>
      rw [hf] at h
      cases h
      have hm := List.mem_of_find?_eq_some hf
      have hp' := List.find?_some hf
      have hp := of_decide_eq_true (show decide ((l.drop i).take s.length = s) = true from hp')
      have hs := (SG_len s hm).1
      have hl := congrArg List.length hp
      rw [List.length_take, List.length_drop] at hl
      have : 0 < s.length := List.length_pos_iff.mpr hs
      exact ⟨by show i + 1 ≤ i + s.length; omega, by show i + s.length ≤ l.length; omega, fun _ => rfl⟩
structure SI (s : Sc) : Prop where
  ind : Ind s.ind
  il : s.ind.length ≤ 11
  brw : ∀ b ∈ s.br, isS b.w = true
  brl : s.br.length ≤ s.many
  my : s.many ≤ 120
theorem popW_suf (n : Nat) : ∀ l : List Nat, popW n l <:+ l
  | [] => List.suffix_refl _
  | t :: r => by
    unfold popW
    split
    · exact (popW_suf n r).trans (List.suffix_cons t r)
    · exact List.suffix_refl _
theorem Ind.pop {n : Nat} : ∀ {l : List Nat}, Ind l → Ind (popW n l)
  | [], h => h
  | t :: r, h => by
    unfold popW
    split
    · rename_i c
      exact Ind.pop (h.tail (by omega))
    · exact h
theorem finish_ok {n ln col : Nat} {s s' : Sc} (h : finish n ln col s = .ok s') (hI : Ind s.ind) : Ind s'.ind ∧ s'.ind.length ≤ s.ind.length ∧ s'.marks.length ≤ s.marks.length + s.ind.length ∧ s'.br = s.br ∧ s'.many = s.many ∧ s'.behind = s.behind := by
  unfold finish at h
  split at h
  · cases h
  · cases h
    refine ⟨hI.pop, (popW_suf n s.ind).length_le, ?_, rfl, rfl, rfl⟩
    show (s.marks ++ List.replicate _ _).length ≤ _
    rw [List.length_append, List.length_replicate]; omega
theorem begin_ok {ln col : Nat} {s s' : Sc} (h : beginLine ln col s = .ok s') (hs : SI s) : SI s' ∧ s'.marks.length ≤ s.marks.length + 13 ∧ s'.br = s.br ∧ s'.many = s.many ∧ s'.behind = s.behind := by
  have hi := hs.il
  unfold beginLine at h
  split at h
  · cases h
  split at h
  · split at h
    · cases h
    · rename_i c1 c2 c3
      have hI2 : Ind ((col - 1) :: s.ind) := by
        obtain ⟨t0, r0, e0⟩ : ∃ t0 r0, s.ind = t0 :: r0 := by
          cases h : s.ind with
          | nil => exact absurd h hs.ind.ne
          | cons a b => exact ⟨a, b, rfl⟩
        exact ⟨by rw [e0, List.getLast?_cons_cons, ← e0]; exact hs.ind.1, by simp; omega⟩
      obtain ⟨h1, h2, h3, h4, h5, h6⟩ := finish_ok h hI2
      have h2 : s'.ind.length ≤ s.ind.length + 1 := h2
      have h3 : s'.marks.length ≤ (s.marks ++ [_]).length + (s.ind.length + 1) := h3
      have h4 : s'.br = s.br := h4
      have h5 : s'.many = s.many := h5
      rw [List.length_append] at h3
      simp only [List.length_cons, List.length_nil] at h3
      exact ⟨⟨h1, by omega, by rw [h4]; exact hs.brw, by rw [h4, h5]; exact hs.brl, by rw [h5]; exact hs.my⟩, by omega, h4, h5, h6⟩
  · obtain ⟨h1, h2, h3, h4, h5, h6⟩ := finish_ok h hs.ind
    exact ⟨⟨h1, by omega, by rw [h4]; exact hs.brw, by rw [h4, h5]; exact hs.brl, by rw [h5]; exact hs.my⟩, by omega, h4, h5, h6⟩
theorem matchBr_br {m : Mk} {s s' : Sc} (h : matchBr m s = .ok s') (hm : isS m.w = true) (hb : ∀ b ∈ s.br, isS b.w = true) : (∀ b ∈ s'.br, isS b.w = true) ∧ s'.br.length ≤ s.br.length + 1 := by
  unfold matchBr at h
  split at h
  · cases h; exact ⟨fun b hb' => by rcases List.mem_cons.mp hb' with rfl | h; exact hm; exact hb b h, Nat.le_refl _⟩
  · split at h
    · cases h; exact ⟨hb, by omega⟩
    · split at h
      · cases h
      · rename_i heq
        split at h
        · cases h
          rw [heq] at hb
          exact ⟨fun b hb' => hb b (List.mem_cons_of_mem _ hb'), by rw [heq]; simp; omega⟩
        · cases h
theorem gather_ok {m : Mk} {s s' : Sc} (h : gatherP m s = .ok s') (hs : SI s) (hm : isSg m.k = true → isS m.w = true) : SI s' ∧ s'.marks.length = s.marks.length + 1 ∧ s'.behind = s.behind := by
  unfold gatherP at h
  split at h
  · cases h
  rename_i c
  split at h
  · rename_i hk
    cases hr : matchBr m { s with many := s.many + 1 } with
    | error e => rw [hr] at h; cases h
    | ok s2 =>
      rw [hr] at h
      cases h
      obtain ⟨e1, e2, e3, e4⟩ := matchBr_marks hr
      obtain ⟨b1, b2⟩ := matchBr_br hr (hm hk) hs.brw
      have e2 : s2.many = s.many + 1 := e2
      have e3 : s2.ind = s.ind := e3
      have e1 : s2.marks = s.marks := e1
      have b2 : s2.br.length ≤ s.br.length + 1 := b2
      have := hs.brl
      refine ⟨⟨by show Ind s2.ind; rw [e3]; exact hs.ind, by show s2.ind.length ≤ 11; rw [e3]; exact hs.il, b1, by show s2.br.length ≤ s2.many; omega, by show s2.many ≤ 120; omega⟩, ?_, e4⟩
      show (s2.marks ++ [m]).length = _
      rw [e1, List.length_append]; rfl
  · cases h
    have := hs.brl
    refine ⟨⟨hs.ind, hs.il, hs.brw, by show s.br.length ≤ s.many + 1; omega, by show s.many + 1 ≤ 120; omega⟩, ?_, rfl⟩
    show (s.marks ++ [m]).length = _
    rw [List.length_append]; rfl
end D0
namespace D0
open PySem PySem.Spec PyProof.Rows L2 SX NumText
theorem ScA.same {C : Addr} {H0 H H' : Hp} {p dx lm lb li : Addr} {s : Sc} (A : ScA C H0 H p dx lm lb li s) (k : Same H H') : ScA C H0 H' p dx lm lb li s := by
  obtain ⟨vs, h1, h2⟩ := A.hm
  obtain ⟨ws, h3, h4⟩ := A.hb
  exact ⟨A.sm.trans k, A.p0, A.m0, A.b0, A.i0, A.nmb, A.nmi, A.nbi, k _ _ A.hp, ⟨vs, k _ _ h1, h2.mono fun a t e => k _ _ e⟩, ⟨ws, k _ _ h3, h4.mono fun a t e => k _ _ e⟩, k _ _ A.hi⟩
abbrev Er3 := Er × Nat × Nat
def liftE (ln : Nat) : Except Nat Tr → Except Er3 Tr
  | .ok t => .ok t
  | .error c => .error (.token, ln, c)
def beg (ln at_ : Nat) (s : Sc) : Except Er3 Sc := if s.many = 0 then beginLine ln (at_ + 1) s else .ok s
def tokS (l : List Nat) (ln at_ : Nat) (s : Sc) : Except Er3 (Nat × Sc) :=
  (liftE ln (scanTok l at_)).bind fun t => (gatherP ⟨t.1, t.2.1, ln, at_ + 1⟩ s).map fun s2 => (twl spc l t.2.2, { s2 with behind := t.2.2 + 1 })
def stepR (l : List Nat) (ln at_ : Nat) (s : Sc) : Except Er3 (Nat × Sc) := (beg ln at_ s).bind (tokS l ln at_)
/-- is there a token at at -/
def here (l : List Nat) (at_ : Nat) : Bool := decide (at_ < l.length) && !decide ((l.drop at_).headD 0 = 35)
def runRow (l : List Nat) (ln : Nat) : Nat → Nat → Sc → Except Er3 Sc
  | 0, _, s => .ok s
  | f + 1, at_, s => if here l at_ = true then (stepR l ln at_ s).bind fun r => runRow l ln f r.1 r.2 else .ok s
def fin (ln : Nat) (s : Sc) : Sc := if 0 < s.many ∧ s.br = [] then endLine ln s else s
def scanRow (l : List Nat) (ln : Nat) (s : Sc) : Except Er3 Sc := (runRow l ln (l.length + 1) (twl spc l 0) s).map (fin ln)
theorem runRow_stop {l : List Nat} {ln : Nat} {f at_ : Nat} {s : Sc} (h : here l at_ = false) : runRow l ln f at_ s = .ok s := by
  cases f with
  | zero => rfl
  | succ f => unfold runRow; rw [h]; rfl
theorem tokS_ok {l : List Nat} {ln at_ : Nat} {s : Sc} {r : Nat × Sc} (hat : at_ < l.length) (hs : SI s) (h : tokS l ln at_ s = .ok r) : at_ + 1 ≤ r.1 ∧ r.1 ≤ l.length ∧ SI r.2 ∧ r.2.marks.length = s.marks.length + 1 := by
  unfold tokS at h
  cases ht : scanTok l at_ with
  | error c => rw [ht] at h; cases h
  | ok t =>
    rw [ht] at h
    obtain ⟨h1, h2, h3⟩ := scanTok_ok hat ht
    have h : (gatherP ⟨t.1, t.2.1, ln, at_ + 1⟩ s).map (fun s2 => (twl spc l t.2.2, { s2 with behind := t.2.2 + 1 })) = .ok r := h
    cases hg : gatherP ⟨t.1, t.2.1, ln, at_ + 1⟩ s with
    | error e => rw [hg] at h; cases h
    | ok s2 =>
      rw [hg] at h
      cases h
      obtain ⟨g1, g2, g3⟩ := gather_ok hg hs h3
      have := twl_ge (f := spc) l t.2.2
      exact ⟨by show at_ + 1 ≤ twl spc l t.2.2; omega, twl_le h2, ⟨g1.ind, g1.il, g1.brw, g1.brl, g1.my⟩, g2⟩
def wb : Stmt → List Stmt
  | .While _ b _ _ => b
  | _ => []
def spScanRow (ec : Er → Addr) (C : Addr) : Sp := fun vs H Q E => ∃ (H0 : Hp) (p : Addr) (s : Sc) (l : List Nat) (ln : Nat), vs = [.ref p, .str (S l), .int ln] ∧ l.length ≤ 120 ∧ ScAt C H0 H p s ∧ SI s ∧ s.marks.length + 2000 ≤ lim ∧ OutS ec C H0 p Q E (scanRow l ln s)
theorem no_names : (("begin_line" : Str) ≠ fM ∧ ("begin_line" : Str) ≠ fB ∧ ("begin_line" : Str) ≠ fI ∧ ("begin_line" : Str) ≠ fN ∧ ("begin_line" : Str) ≠ fH) ∧
  (("gather" : Str) ≠ fM ∧ ("gather" : Str) ≠ fB ∧ ("gather" : Str) ≠ fI ∧ ("gather" : Str) ≠ fN ∧ ("gather" : Str) ≠ fH) ∧
  (("end_line" : Str) ≠ fM ∧ ("end_line" : Str) ≠ fB ∧ ("end_line" : Str) ≠ fI ∧ ("end_line" : Str) ≠ fN ∧ ("end_line" : Str) ≠ fH) ∧
  (("scan_row" : Str) ≠ fM ∧ ("scan_row" : Str) ≠ fB ∧ ("scan_row" : Str) ≠ fI ∧ ("scan_row" : Str) ≠ fN ∧ ("scan_row" : Str) ≠ fH) ∧
  (("end_text" : Str) ≠ fM ∧ ("end_text" : Str) ≠ fB ∧ ("end_text" : Str) ≠ fI ∧ ("end_text" : Str) ≠ fN ∧ ("end_text" : Str) ≠ fH) := by decide +kernel
section
variable {P : Program} {w : World} {K : PySem.W.Frag} {mg : Str → Option Value} {base : Heap} {ec : Er → Addr} {C : Addr}
theorem ok_Scanner_scan_row (T : Txt K w mg) (ER : ErrT P w K mg base ec) (SC0 : ScT K mg C) (Os : OkD P w K mg base CX0 1 "spaces_end" p_spaces_end (spEnd spc))
    (Ot : OkD P w K mg base (L2.CX P w) 4 "scan_token" p_scan_token (spScan ec scanTok fun _ _ => True))
    (OB : OkM P w K mg base C (L2.CX P w) 3 "begin_line" p_Scanner_begin_line (spBegin ec C))
    (OG : OkM P w K mg base C (L2.CX P w) 4 "gather" p_Scanner_gather (spGather ec C))
    (OE : OkM P w K mg base C CX0 1 "end_line" p_Scanner_end_line (spEndLine C)) :
    OkM P w K mg base C (L2.CX P w) 5 "scan_row" p_Scanner_scan_row (spScanRow ec C) := by
  refine SC0.g_scan_row.okX sc_Scanner_scan_row (fun vs H Q E h => ?_) (fun f cdv A outer sh H vs Q E hr h => ?_)
  · obtain ⟨H0, p, s, l, ln, rfl, _⟩ := h; rfl
  obtain ⟨H0, p, s, l, ln, rfl, hl, hA, hs, hM, q⟩ := h
  have hl' : l.length ≤ 1000000 := by omega
  have limv : lim = 12000000 := rfl
  unfold scanRow at q
  generalize hR0 : runRow l ln (l.length + 1) (twl spc l 0) s = R0 at q
  -- what follows the begin of a line
  obtain ⟨t, ht, hg⟩ : ∃ t, PSs (cxOf (L2.CX P w) P w K mg base n_Scanner_scan_row "Scanner.scan_row" (defScope s_Scanner_scan_row) f cdv A outer sh H E) (List.drop 1 (wb ((defBody s_Scanner_scan_row).getD 1 (.Pass ⟨0, 0, 0, 0⟩)))) t ∧
      ∀ (D : Ends) (at_ : Nat) (s1 : Sc) (H1 : Hp) (y4 y5 y6 : Option V), at_ < l.length → ScAt C H0 H1 p s1 → SI s1 → s1.marks.length ≤ lim →
        (∀ e, tokS l ln at_ s1 = .error e → Rz ec e.1 (e.2.1 : Nat) (e.2.2 : Nat) H0 E) →
        (∀ r H2 z4 z5 z6, tokS l ln at_ s1 = .ok r → ScAt C H0 H2 p r.2 → D.nx [some (.ref p), some (.str (S l)), some (.int ln), some (.int (r.1 : Nat)), z4, z5, z6] H2) →
        t D [some (.ref p), some (.str (S l)), some (.int ln), some (.int at_), y4, y5, y6] H1 := by
    refine ⟨_, (pss_cons (ps_asg (pcallE Ot hr (passes_call (takes_of rfl rfl rfl rfl) (fun _ _ _ _ h => h)) (pa_cons (pv 1) (pa_cons (pv 3) (pa_cons (pv 2) pa_nil)))) (pg_tup (by rfl) (pgs_cons (pg_name (i := 4) sc_Scanner_scan_row.nd rfl (Or.inl rfl)) (pgs_cons (pg_name (i := 5) sc_Scanner_scan_row.nd rfl (Or.inl rfl)) (pgs_cons (pg_name (i := 6) sc_Scanner_scan_row.nd rfl (Or.inl rfl)) pgs_nil)))))
      (pss_cons (ps_expr (pmethE OG SC0.cl hr (passes_call (takes_of rfl rfl rfl rfl) (fun _ _ _ _ h => h)) (pv 0) (pa_cons (pe_tup (pa_cons (pv 4) (pa_cons (pv 5) (pa_cons (pv 2) (pa_cons (pe_op op_add (pv 3) pe_int) pa_nil))))) pa_nil)))
      (pss_cons (ps_fld (pv 0) (pe_op op_add (pv 6) pe_int) rfl)
      (pss_one (ps_set (i := 3) sc_Scanner_scan_row.nd rfl (.inl rfl) (pcall Os hr (pa_cons (pv 1) (pa_cons (pv 6) pa_nil)))))))), ?_⟩
    rintro D at_ s1 H1 y4 y5 y6 hat ⟨dx, lm, lb, li, A1⟩ hs1 hM1 hE hO
    refine ⟨_, rfl, _, rfl, _, rfl, l, at_, (ln : Int), rfl, hl', hat, trivial, ?_⟩
    unfold tokS at hE hO
    cases hst : scanTok l at_ with
    | error c =>
      rw [hst] at hE
      exact rz_up A1.sm (hE _ rfl)
    | ok tr =>
      obtain ⟨k, wd, j⟩ := tr
      rw [hst] at hE hO
      obtain ⟨hj1, hj2, hsg⟩ := scanTok_ok hat hst
      intro H2 q2 sm2 hq2
      have A2 := A1.same sm2
      refine ⟨q2, _, rfl, SqT.of hq2, rfl, _, _, rfl, _, _, rfl, _, [], rfl, rfl, ?_⟩
      refine ⟨_, rfl, p, dx, _, rfl, A2.hp, pf_no no_names.2.1, _, rfl, _, rfl, _, rfl, _, rfl, _, _, rfl, rfl, four, fun u hu => ?_⟩
      have A3 := A2.fresh (o := .tup [.str (S k.cp), wd.v, .int (ln : Nat), .int ((at_ : Int) + 1)]) hu
      refine ⟨H0, p, u, s1, ⟨k, wd, ln, at_ + 1⟩, rfl, upd_same, hsg, ⟨dx, lm, lb, li, A3⟩, ⟨hs1.brw, by have := hs1.brl; have := hs1.my; omega⟩, by omega, ?_⟩
      have hE' : ∀ e, gatherP ⟨k, wd, ln, at_ + 1⟩ s1 = .error e → Rz ec e.1 (e.2.1 : Nat) (e.2.2 : Nat) H0 E := fun e he => hE e (by show (gatherP ⟨k, wd, ln, at_ + 1⟩ s1).map _ = _; rw [he]; rfl)
      cases hgp : gatherP ⟨k, wd, ln, at_ + 1⟩ s1 with
      | error e => exact hE' e hgp
      | ok s2 =>
        rintro H3 ⟨dx', lm', lb', li', A4⟩
        refine ⟨_, rfl, _, _, rfl, rfl, ?_⟩
        refine ⟨_, rfl, p, C, dx', _, rfl, A4.hp, SC0.cl, SC0.n_behind, pf_len, ?_⟩
        have A5 := A4.flds (n := s2.many) (b := j + 1) (fs := putF fH (.int ((j : Int) + 1)) (pf lm' lb' li' s2.many s2.behind)) (pf_H _)
        refine ⟨_, rfl, _, rfl, l, j, rfl, hl', hj2, ?_⟩
        exact hO (twl spc l j, { s2 with behind := j + 1 }) _ _ _ _ (by show (gatherP ⟨k, wd, ln, at_ + 1⟩ s1).map _ = _; rw [hgp]; rfl) ⟨_, _, _, _, A5⟩
  have zh : Str.ofString "#" = S [35] := by decide +kernel
  refine split_at 2 (fun t => ∀ (s2 : Sc) (H2 : Hp) (y3 y4 y5 y6 : Option V), ScAt C H0 H2 p s2 → SI s2 → s2.marks.length ≤ lim → OutS ec C H0 p Q E (.ok (fin ln s2)) →
    t { nx := fun _ H' => Q .non H', rt := Q } [some (.ref p), some (.str (S l)), some (.int ln), y3, y4, y5, y6] H2) ?_ (fun t2 ht2 hg2 => ?_)
  · refine ⟨_, pss_one (ps_if (PW.pt (pw_and (pt_cmpR op_gt (pe_fld (pv 0) rfl) pe_int (nomark _)) (pw_and1 (pt_not (pt_truth (pe_fld (pv 0) rfl) (fun _ => rfl)))))) (pss_one (ps_expr (pmethE OE SC0.cl hr pass0 (pv 0) (pa_cons (pv 2) pa_nil)))) pss_nil), ?_⟩
    rintro s2 H2 y3 y4 y5 y6 ⟨dx, lm, lb, li, A2⟩ hs2 hM2 q2
    obtain ⟨vb, hvb, hvm⟩ := A2.hb
    refine ⟨_, rfl, p, C, dx, _, _, rfl, A2.hp, SC0.cl, SC0.n_many, lk_N, _, _, rfl, rfl, _, rfl, iteD (b := decide ((0 : Int) < (s2.many : Int))) (fun c => ?_) (fun c => ?_)⟩
    · have c' : 0 < s2.many := by have := of_decide_eq_true c; omega
      refine ⟨_, rfl, p, C, dx, _, _, rfl, A2.hp, SC0.cl, SC0.n_brackets, lk_B, _, .inl ⟨vb, SqL.of hvb, rfl⟩, ?_⟩
      cases hvv : vb with
      | nil =>
        have hm0 : s2.br = [] := by
          have := hvm.1
          rw [hvv, List.length_reverse] at this
          exact List.eq_nil_of_length_eq_zero this.symm
        refine iteT ⟨_, rfl, p, dx, _, rfl, A2.hp, pf_no no_names.2.2.1, _, rfl, H0, p, s2, ln, rfl, ⟨dx, lm, lb, li, A2⟩, by omega, ?_⟩
        have e : fin ln s2 = endLine ln s2 := by unfold fin; rw [if_pos ⟨c', hm0⟩]
        rw [← e]
        exact q2
      | cons x y =>
        have hm0 : s2.br ≠ [] := fun z => by
          have := hvm.1
          rw [hvv, z] at this
          simp at this
        have e : fin ln s2 = s2 := by unfold fin; rw [if_neg (fun z => hm0 z.2)]
        rw [e] at q2
        exact iteF (q2 _ ⟨dx, lm, lb, li, A2⟩)
    · have c' : ¬ 0 < s2.many := by have := of_decide_eq_false c; omega
      have e : fin ln s2 = s2 := by unfold fin; rw [if_neg (fun z => c' z.1)]
      rw [e] at q2
      exact iteF (q2 _ ⟨dx, lm, lb, li, A2⟩)
  refine ⟨_, pss_cons (ps_set (i := 3) sc_Scanner_scan_row.nd rfl (.inl rfl) (pcall Os hr (pa_cons (pv 1) (pa_cons pe_int pa_nil)))) (pss_cons
    (ps_while (passes_of rfl) (PW.pt (pw_and (pt_cmpR op_lt (pv 3) (pe_callB call_len_str (by rfl) T.z_len PySem.boot_len (pa_cons (pv 1) pa_nil)) (nomark _)) (pw_and1 (pt_cmpR op_ne (pe_ix ix_str (pv 1) (pv 3) (fun _ _ => rfl)) pe_str (nomark _)))))
      (pss_cons (ps_if (pt_cmpR op_eq (pe_fld (pv 0) rfl) pe_int (nomark _)) (pss_one (ps_expr (pmethE OB SC0.cl hr (passes_call (takes_of rfl rfl rfl rfl) (fun _ _ _ _ h => h)) (pv 0) (pa_cons (pv 2) (pa_cons (pe_op op_add (pv 3) pe_int) pa_nil))))) pss_nil) ht)) ht2), ?_⟩
  refine ⟨_, rfl, l, 0, rfl, hl', Nat.zero_le _, ?_⟩
  have h0l := twl_le (f := spc) (l := l) (i := 0) (Nat.zero_le _)
  refine ⟨fun m σ H' => ∃ (at_ : Nat) (s1 : Sc) (y4 y5 y6 : Option V), σ = [some (.ref p), some (.str (S l)), some (.int ln), some (.int at_), y4, y5, y6] ∧ m + at_ ≥ l.length + 1 ∧ at_ ≤ l.length ∧ ScAt C H0 H' p s1 ∧ SI s1 ∧
      s1.marks.length ≤ s.marks.length + 14 * at_ ∧ R0 = runRow l ln m at_ s1,
    ⟨l.length + 1, twl spc l 0, s, none, none, none, rfl, by omega, h0l, hA, hs, by omega, hR0.symm⟩, ?_⟩
  rintro m σ H' ⟨at_, s1, y4, y5, y6, rfl, hm, hat, ⟨dx, lm, lb, li, A1⟩, hs1, hM1, he⟩
  have e2 : decide ((at_ : Int) < ((S l).length : Int)) = decide (at_ < l.length) := by rw [S_len]; exact lt_dec
  have stop : here l at_ = false → _ := fun hh => hg2 s1 H' (some (.int at_)) y4 y5 y6 ⟨dx, lm, lb, li, A1⟩ hs1 (by omega) (by rw [he, runRow_stop hh] at q; exact q)
  refine ⟨_, rfl, _, rfl, _, rfl, S_line hl', _, _, rfl, rfl, _, rfl, iteD (b := decide ((at_ : Int) < ((S l).length : Int))) (fun c => ?_) (fun c => ?_)⟩
  · rw [e2] at c
    have hlt : at_ < l.length := of_decide_eq_true c
    have ga : l[at_]? = some l[at_] := List.getElem?_eq_getElem hlt
    have hd : (l.drop at_).headD 0 = l[at_] := by rw [List.drop_eq_getElem_cons hlt]; rfl
    refine ⟨_, rfl, _, rfl, S l, at_, _, rfl, rfl, S_line hl', at_S ga, rfl, _, rfl, ?_⟩
    have e3 : (!decide (V.str (S [l[at_]]) = V.str (Str.ofString "#"))) = here l at_ := by
      unfold here
      rw [zh, one_dec, hd, decide_eq_true hlt, Bool.true_and]
    cases hh : here l at_ with
    | false => exact iteF' (e3.trans hh) (stop hh)
    | true =>
      refine iteT' (e3.trans hh) ?_
      refine ⟨_, fun _ _ h => h, ?_⟩
      obtain ⟨m', rfl⟩ : ∃ m', m = m' + 1 := ⟨m - 1, by omega⟩
      unfold runRow at he
      rw [hh, if_pos rfl] at he
      have errs : ∀ s1', beg ln at_ s1 = .ok s1' → ∀ e, tokS l ln at_ s1' = .error e → Rz ec e.1 (e.2.1 : Nat) (e.2.2 : Nat) H0 E := fun s1' hb e ht' => by
        have h1 : stepR l ln at_ s1 = .error e := by unfold stepR; rw [hb]; exact ht'
        rw [h1] at he
        rw [he] at q
        exact q
      have oks : ∀ (s1' : Sc) (r : Nat × Sc) (H2 : Hp) (z4 z5 z6 : Option V), beg ln at_ s1 = .ok s1' → SI s1' → s1'.marks.length ≤ s.marks.length + 14 * at_ + 13 → tokS l ln at_ s1' = .ok r → ScAt C H0 H2 p r.2 →
          ∃ m'', m'' < m' + 1 ∧ ∃ (at2 : Nat) (s2 : Sc) (y4 y5 y6 : Option V), [some (.ref p), some (.str (S l)), some (.int ln), some (.int (r.1 : Nat)), z4, z5, z6] = [some (.ref p), some (.str (S l)), some (.int ln), some (.int at2), y4, y5, y6] ∧ m'' + at2 ≥ l.length + 1 ∧ at2 ≤ l.length ∧ ScAt C H0 H2 p s2 ∧ SI s2 ∧
            s2.marks.length ≤ s.marks.length + 14 * at2 ∧ R0 = runRow l ln m'' at2 s2 := fun s1' r H2 z4 z5 z6 hb hs1' hm1 ht' hA2 => by
        obtain ⟨h1, h2, h3, h4⟩ := tokS_ok hlt hs1' ht'
        refine ⟨m', Nat.lt_succ_self _, r.1, r.2, z4, z5, z6, rfl, by omega, h2, hA2, h3, by omega, ?_⟩
        rw [he]
        unfold stepR
        rw [hb]
        show (tokS l ln at_ s1').bind _ = _
        rw [ht']
        rfl
      refine ⟨_, rfl, p, C, dx, _, _, rfl, A1.hp, SC0.cl, SC0.n_many, lk_N, rfl, _, rfl, ?_⟩
      have e4 : decide (V.int (s1.many : Int) = V.int 0) = decide (s1.many = 0) := int_dec (b := 0)
      by_cases c0 : s1.many = 0
      · refine iteT' (e4.trans (decide_eq_true c0)) ?_
        have hbeg : beg ln at_ s1 = beginLine ln (at_ + 1) s1 := by unfold beg; rw [if_pos c0]
        refine ⟨_, rfl, p, dx, _, rfl, A1.hp, pf_no no_names.1, _, rfl, _, rfl, _, _, rfl, rfl, H0, p, s1, ln, at_ + 1, rfl, by omega, ⟨dx, lm, lb, li, A1⟩, hs1.ind, hs1.il, by omega, ?_⟩
        cases hbl : beginLine ln (at_ + 1) s1 with
        | error e =>
          have h1 : stepR l ln at_ s1 = .error e := by unfold stepR; rw [hbeg, hbl]; rfl
          rw [h1] at he
          rw [he] at q
          exact q
        | ok s1' =>
          obtain ⟨g1, g2, _⟩ := begin_ok hbl hs1
          intro H1 hA1
          exact hg _ at_ s1' H1 y4 y5 y6 hlt hA1 g1 (by omega) (errs s1' (hbeg.trans hbl)) (fun r H2 z4 z5 z6 hr' hA2 => oks s1' r H2 z4 z5 z6 (hbeg.trans hbl) g1 (by omega) hr' hA2)
      · refine iteF' (e4.trans (decide_eq_false c0)) ?_
        have hbeg : beg ln at_ s1 = .ok s1 := by unfold beg; rw [if_neg c0]
        exact hg _ at_ s1 H' y4 y5 y6 hlt ⟨dx, lm, lb, li, A1⟩ hs1 (by omega) (errs s1 hbeg) (fun r H2 z4 z5 z6 hr' hA2 => oks s1 r H2 z4 z5 z6 hbeg hs1 (by omega) hr' hA2)
  · rw [e2] at c
    exact stop (by unfold here; rw [c]; rfl)
end
end D0
namespace D0
open PySem PySem.Spec PyProof.Rows L2 SX NumText
theorem walk_enumC {K : PySem.W.Frag} {c : Int} {a : Addr} {xs : List V} : Walk (IteC K c a) xs.length (fun H => SqL K H a xs) (fun i H v H' => ∃ T x, v = .ref T ∧ H T = none ∧ H' = upd H T (.tup [.int (c + (i : Nat)), x]) ∧ xs[i]? = some x) :=
  ⟨fun i _ hi q => ⟨xs, xs[i], q, by simp [hi]⟩, fun _ q => ⟨xs, q, rfl⟩, fun _ _ _ _ _ q ⟨T, x, a1, a2, a3, a4⟩ => ⟨T, x, a1, a2, a3, a4 _ q⟩⟩
theorem walk_enumS {c : Int} {x : Str} : Walk (ItsC c x) x.cps.size (fun _ => True) (fun i H v H' => ∃ T d, v = .ref T ∧ H T = none ∧ H' = upd H T (.tup [.int (c + (i : Nat)), .str ⟨#[d]⟩]) ∧ x.cps[i]? = some d) :=
  ⟨fun _ _ hi _ => hi, fun _ _ => rfl, fun _ _ _ _ _ _ y => y⟩
def rowBad (l : List Nat) : Option Nat := l.findIdx? fun c => !rowc c
def spLetters (ec : Er → Addr) : Sp := fun vs H Q E => ∃ (l : List Nat) (ln : Nat), vs = [.str (S l), .int ln] ∧ l.length ≤ big ∧ (rowBad l = none → ∀ H', Same H H' → Q .non H') ∧ (∀ j, rowBad l = some j → Rz ec .sign ln ((j + 1 : Nat) : Int) H E)
theorem idx_none {α : Type} {p : α → Bool} {l : List α} (h : ∀ a ∈ l, p a = false) : l.findIdx? p = none := by
  rw [List.findIdx?_eq_none_iff]; exact fun x hx => h x hx
theorem idx_at {α : Type} {p : α → Bool} {l : List α} {j : Nat} {a : α} (h : l[j]? = some a) (pa : p a = true) (hn : ∀ b ∈ l.take j, p b = false) : l.findIdx? p = some j := by
  obtain ⟨hj, e⟩ := List.getElem?_eq_some_iff.mp h
  rw [List.findIdx?_eq_some_iff_getElem]
  refine ⟨hj, by rw [e]; exact pa, fun k hk => ?_⟩
  have : l[k] ∈ l.take j := by
    rw [List.mem_take_iff_getElem]
    exact ⟨k, by omega, rfl⟩
  rw [hn _ this]; exact Bool.false_ne_true
section
variable {P : Program} {w : World} {K : PySem.W.Frag} {mg : Str → Option Value} {base : Heap} {ec : Er → Addr} {C : Addr}
theorem ok_check_letters (T : Txt K w mg) (ER : ErrT P w K mg base ec) (Orw : OkD P w K mg base CX0 1 "is_row" p_is_row spIsRow) :
    OkD P w K mg base (L2.CX P w) 3 "check_letters" p_check_letters (spLetters ec) := by
  refine T.g_check_letters.okX sc_check_letters (fun vs H Q E h => ?_) (fun f cdv A outer s H vs Q E hr h => ?_)
  · obtain ⟨l, ln, rfl, _⟩ := h; rfl
  obtain ⟨l, ln, rfl, hl, q1, q2⟩ := h
  refine ⟨_, pss_one (ps_for (passes_of rfl) rfl (pi_enumS (by rfl) T.z_enumerate (pa_cons (pv 0) pa_nil) pe_int) (pg_tup (by rfl) (pgs_cons (pg_name (i := 2) sc_check_letters.nd rfl (Or.inl rfl)) (pgs_cons (pg_name (i := 3) sc_check_letters.nd rfl (Or.inl rfl)) pgs_nil)))
    (pss_one (ps_if (pt_not (pt_val (pcall Orw hr (pa_cons (pv 3) pa_nil)))) (pss_one (ps_raise rfl (takes_of rfl rfl rfl rfl) (pmk_err ER .sign hr (pa_cons (pv 1) (pa_cons (pv 2) pa_nil))))) pss_nil))), ?_⟩
  have hsz : (S l).cps.size = l.length := S_len l
  refine ⟨_, rfl, S l, rfl, for_it walk_enumS (fun j σ H' => Same H H' ∧ (∃ y z, σ = [some (.str (S l)), some (.int ln), y, z]) ∧ ∀ c ∈ l.take j, rowc c = true)
    ⟨Same.refl H, ⟨none, none, rfl⟩, fun c hc => by cases hc⟩ (fun j σ H' _ h => trivial) ?_ ?_⟩
  · rintro j x σ H1 H2 hj ⟨sm, ⟨y, z, rfl⟩, hn⟩ ⟨T', d, rfl, hT, rfl, hd⟩
    have hld : l[j]? = some d := by
      have h2 : (S l).cps.toList[j]? = some d := by rw [← hd]; exact Array.getElem?_toList
      exact h2
    have sm2 : Same H (upd H1 T' (.tup [.int (1 + (j : Nat)), .str ⟨#[d]⟩])) := sm.trans (same_new hT _)
    refine ⟨T', _, rfl, SqT.of upd_same, rfl, _, _, rfl, _, [], rfl, rfl, ?_⟩
    refine ⟨_, rfl, [d], rfl, by show 1 ≤ 1000000; decide, fun H3 sm3 => ⟨_, rfl, ?_⟩⟩
    have e1 : (!([d].all rowc)) = !rowc d := by simp
    cases hr0 : rowc d with
    | false =>
      refine iteT' (e1.trans (by rw [hr0]; rfl)) ?_
      have hb : rowBad l = some j := idx_at hld (by rw [hr0]; rfl) (fun c hc => by rw [hn c hc]; rfl)
      have hz := q2 j hb
      rw [show ((j + 1 : Nat) : Int) = 1 + (j : Nat) by omega] at hz
      exact ⟨_, rfl, _, rfl, rz_mk ER (rz_up (sm2.trans sm3) hz)⟩
    | true =>
      refine iteF' (e1.trans (by rw [hr0]; rfl)) ⟨sm2.trans sm3, ⟨_, _, rfl⟩, fun c hc => ?_⟩
      rw [List.take_add_one, hld] at hc
      rcases List.mem_append.mp hc with hc | hc
      · exact hn c hc
      · have : c = d := by simpa using hc
        subst this; exact hr0
  · rintro σ H' ⟨sm, ⟨y, z, rfl⟩, hn⟩
    rw [hsz, List.take_length] at hn
    exact q1 (idx_none fun c hc => by rw [hn c hc]; rfl) H' sm
def rowsOf (l : List Nat) : List (List Nat) := TL.spl [10] 0 [] l
theorem spl_count : ∀ (l acc : List Nat), (TL.spl [10] 0 acc l).length ≤ l.length + 1 ∧ ∀ r ∈ TL.spl [10] 0 acc l, r.length ≤ acc.length + l.length
  | [], acc => ⟨Nat.le_refl _, fun r hr => by
      have : r = acc := by simpa [TL.spl] using hr
      subst this; simp⟩
  | c :: t, acc => by
    unfold TL.spl
    split
    · obtain ⟨h1, h2⟩ := spl_count t []
      refine ⟨by simp only [List.length_cons] at h1 ⊢; exact Nat.succ_le_succ h1, fun r hr => ?_⟩
      rcases List.mem_cons.mp hr with rfl | hr
      · omega
      · have := h2 r hr; simp only [List.length_cons, List.length_nil] at this ⊢; omega
    · obtain ⟨h1, h2⟩ := spl_count t (acc ++ [c])
      refine ⟨by simp only [List.length_cons]; omega, fun r hr => ?_⟩
      have := h2 r hr
      rw [List.length_append] at this
      simp only [List.length_cons, List.length_nil] at this ⊢; omega
/-- the first row, and the sign in it, that no row may hold -/
def badAt : List (List Nat) → Nat → Option (Nat × Nat)
  | [], _ => none
  | r :: rs, ln => match rowBad r with
    | some j => some (ln, j + 1)
    | none => badAt rs (ln + 1)
def longAt : List (List Nat) → Nat → Option Nat
  | [], _ => none
  | r :: rs, ln => if 120 < r.length then some ln else longAt rs (ln + 1)
def checkRows (l : List Nat) : Except Er3 (List (List Nat)) :=
  if 6000 < l.length then .error (.long, 1, 1) else
  match badAt (rowsOf l) 1 with
  | some e => .error (.sign, e.1, e.2)
  | none => match longAt (rowsOf l) 1 with
    | some n => .error (.long, n, 121)
    | none => .ok (rowsOf l)
def spRows (ec : Er → Addr) : Sp := fun vs H Q E => ∃ (l : List Nat), vs = [.str (S l)] ∧ l.length ≤ big ∧
  (∀ e, checkRows l = .error e → Rz ec e.1 (e.2.1 : Nat) (e.2.2 : Nat) H E) ∧ (∀ rs, checkRows l = .ok rs → ∀ H' p, Same H H' → H p = none → H' p = some (.lst (rs.map fun r => V.str (S r))) → Q (.ref p) H')
theorem badAt_none : ∀ {rs : List (List Nat)} {n : Nat}, (∀ r ∈ rs, rowBad r = none) → badAt rs n = none
  | [], _, _ => rfl
  | r :: rs, n, h => by unfold badAt; rw [h r List.mem_cons_self]; exact badAt_none fun x hx => h x (List.mem_cons_of_mem _ hx)
theorem badAt_at : ∀ {rs : List (List Nat)} {n j c : Nat} {r : List Nat}, rs[j]? = some r → rowBad r = some c → (∀ x ∈ rs.take j, rowBad x = none) → badAt rs n = some (n + j, c + 1)
  | x :: rs, n, 0, c, r, h, hc, _ => by
    have : x = r := by simpa using h
    subst this
    unfold badAt; rw [hc]; rfl
  | x :: rs, n, j + 1, c, r, h, hc, hn => by
    rw [List.take_succ_cons] at hn
    unfold badAt; rw [hn x List.mem_cons_self]
    have := badAt_at (n := n + 1) (by simpa using h) hc fun y hy => hn y (List.mem_cons_of_mem _ hy)
    rw [show n + (j + 1) = n + 1 + j by omega]
    exact this
theorem longAt_none : ∀ {rs : List (List Nat)} {n : Nat}, (∀ r ∈ rs, ¬ 120 < r.length) → longAt rs n = none
  | [], _, _ => rfl
  | r :: rs, n, h => by unfold longAt; rw [if_neg (h r List.mem_cons_self)]; exact longAt_none fun x hx => h x (List.mem_cons_of_mem _ hx)
theorem longAt_at : ∀ {rs : List (List Nat)} {n j : Nat} {r : List Nat}, rs[j]? = some r → 120 < r.length → (∀ x ∈ rs.take j, ¬ 120 < x.length) → longAt rs n = some (n + j)
  | x :: rs, n, 0, r, h, hc, _ => by
    have : x = r := by simpa using h
    subst this
    unfold longAt; rw [if_pos hc]; rfl
  | x :: rs, n, j + 1, r, h, hc, hn => by
    rw [List.take_succ_cons] at hn
    unfold longAt; rw [if_neg (hn x List.mem_cons_self)]
    have := longAt_at (n := n + 1) (by simpa using h) hc fun y hy => hn y (List.mem_cons_of_mem _ hy)
    rw [show n + (j + 1) = n + 1 + j by omega]
    exact this
end
end D0
namespace D0
open PySem PySem.Spec PyProof.Rows L2 SX NumText
section
variable {P : Program} {w : World} {K : PySem.W.Frag} {mg : Str → Option Value} {base : Heap} {ec : Er → Addr} {C : Addr}
theorem ok_checked_rows (T : Txt K w mg) (ER : ErrT P w K mg base ec) (Ocl : OkD P w K mg base (L2.CX P w) 3 "check_letters" p_check_letters (spLetters ec)) :
    OkD P w K mg base (L2.CX P w) 4 "checked_rows" p_checked_rows (spRows ec) := by
  refine T.g_checked_rows.okX sc_checked_rows (fun vs H Q E h => ?_) (fun f cdv A outer s H vs Q E hr h => ?_)
  · obtain ⟨l, rfl, _⟩ := h; rfl
  obtain ⟨l, rfl, hl, q1, q2⟩ := h
  have hl' : l.length ≤ 1000000 := hl
  have zn : Str.ofString "\n" = S [10] := by decide +kernel
  refine ⟨_, (pss_cons (ps_if (pt_cmpR op_gt (pe_callB call_len_str (by rfl) T.z_len PySem.boot_len (pa_cons (pv 0) pa_nil)) (pe_gI T.c_TEXT_LIMIT) (nomark _)) (pss_one (ps_raise rfl (takes_of rfl rfl rfl rfl) (pmk_err ER .long hr (pa_cons pe_int (pa_cons pe_int pa_nil))))) pss_nil)
      (pss_cons (ps_set (i := 1) sc_checked_rows.nd rfl (.inl rfl) (pe_split (pv 0) pe_str))
      (pss_cons (ps_for (passes_of rfl) rfl (pi_enumC (by rfl) T.z_enumerate (pa_cons (pv 1) pa_nil) pe_int) (pg_tup (by rfl) (pgs_cons (pg_name (i := 2) sc_checked_rows.nd rfl (Or.inl rfl)) (pgs_cons (pg_name (i := 3) sc_checked_rows.nd rfl (Or.inl rfl)) pgs_nil))) (pss_one (ps_expr (pcallE Ocl hr (passes_call (takes_of rfl rfl rfl rfl) (fun _ _ _ _ h => h)) (pa_cons (pv 3) (pa_cons (pv 2) pa_nil))))))
      (pss_cons (ps_for (passes_of rfl) rfl (pi_enumC (by rfl) T.z_enumerate (pa_cons (pv 1) pa_nil) pe_int) (pg_tup (by rfl) (pgs_cons (pg_name (i := 2) sc_checked_rows.nd rfl (Or.inl rfl)) (pgs_cons (pg_name (i := 3) sc_checked_rows.nd rfl (Or.inl rfl)) pgs_nil))) (pss_one (ps_if (pt_cmpR op_gt (pe_callB call_len_str (by rfl) T.z_len PySem.boot_len (pa_cons (pv 3) pa_nil)) (pe_gI T.c_ROW_LIMIT) (nomark _)) (pss_one (ps_raise rfl (takes_of rfl rfl rfl rfl) (pmk_err ER .long hr (pa_cons (pv 2) (pa_cons (pe_op op_add (pe_gI T.c_ROW_LIMIT) pe_int) pa_nil))))) pss_nil)))
      (pss_one (ps_ret (pv 1))))))), ?_⟩
  have e1 : decide ((6000 : Int) < ((S l).length : Int)) = decide (6000 < l.length) := by rw [S_len]; exact lt_dec (a := 6000)
  refine ⟨_, rfl, _, rfl, S_line hl, _, _, rfl, rfl, _, rfl, ?_⟩
  unfold checkRows at q1 q2
  by_cases c : 6000 < l.length
  · rw [if_pos c] at q1
    exact iteT' (e1.trans (decide_eq_true c)) (rz_mk ER (q1 _ rfl))
  rw [if_neg c] at q1 q2
  refine iteF' (e1.trans (decide_eq_false c)) ?_
  refine ⟨_, rfl, ⟨_, rfl⟩, S l, S [10], rfl, (by rw [zn]), rfl, ?_, fun p hp => ?_⟩
  · rw [S_len]; have : 7000 ≤ sizeLine := by decide
    omega
  rw [split_S (by decide) (by decide)]
  show gName 1 _ _ _ _
  have ers : TL.spl [10] 0 [] l = rowsOf l := rfl
  rw [ers]
  obtain ⟨hcount, hlen⟩ := spl_count l []
  rw [ers] at hcount hlen
  generalize rowsOf l = rs at *
  have em : (rs.map S).map V.str = rs.map fun r => V.str (S r) := by rw [List.map_map]; rfl
  rw [em]
  have sm0 : Same H (upd H p (.lst (rs.map fun r => V.str (S r)))) := same_new hp _
  have hrl : (rs.map fun r => V.str (S r)).length = rs.length := List.length_map ..
  refine ⟨_, rfl, p, _, rfl, SqL.of upd_same, for_it walk_enumC (fun j σ H' => Same H H' ∧ H' p = some (.lst (rs.map fun r => V.str (S r))) ∧ (∃ y z, σ = [some (.str (S l)), some (.ref p), y, z]) ∧ ∀ r ∈ rs.take j, rowBad r = none)
    ⟨sm0, upd_same, ⟨none, none, rfl⟩, fun c hc => by cases hc⟩ (fun j σ H' _ h => SqL.of h.2.1) ?_ ?_⟩
  · rintro j x σ H1 H2 hj ⟨sm, hp1, ⟨y, z, rfl⟩, hn⟩ ⟨T', x1, rfl, hT, rfl, hx⟩
    rw [List.getElem?_map] at hx
    obtain ⟨r, hrj, rfl⟩ := Option.map_eq_some_iff.mp hx
    have hrm : r ∈ rs := List.mem_of_getElem? hrj
    have hrl := hlen r hrm
    have sm2 : Same H (upd H1 T' (.tup [.int (1 + (j : Nat)), .str (S r)])) := sm.trans (same_new hT _)
    have hp2 : upd H1 T' (.tup [.int (1 + (j : Nat)), .str (S r)]) p = some (.lst (rs.map fun r => V.str (S r))) := (same_new hT _) _ _ hp1
    refine ⟨T', _, rfl, SqT.of upd_same, rfl, _, _, rfl, _, [], rfl, rfl, ?_⟩
    refine ⟨_, rfl, _, rfl, r, j + 1, ?_, ?_, fun hb H3 sm3 => ⟨sm2.trans sm3, sm3 _ _ hp2, ⟨_, _, rfl⟩, fun r' hr' => ?_⟩, fun c hc => ?_⟩
    · rw [show ((j + 1 : Nat) : Int) = 1 + (j : Nat) by omega]; rfl
    · show r.length ≤ 1000000; simp only [List.length_nil] at hrl; omega
    · rw [List.take_add_one, hrj] at hr'
      rcases List.mem_append.mp hr' with hr' | hr'
      · exact hn r' hr'
      · have : r' = r := by simpa using hr'
        subst this; exact hb
    · have hba := badAt_at (n := 1) hrj hc hn
      rw [hba] at q1
      have := q1 _ rfl
      rw [show 1 + j = j + 1 by omega] at this
      exact rz_up sm2 this
  · rintro σ H1 ⟨sm, hp1, ⟨y, z, rfl⟩, hn⟩
    rw [hrl, List.take_length] at hn
    rw [badAt_none hn] at q1 q2
    refine ⟨_, rfl, p, _, rfl, SqL.of hp1, for_it walk_enumC (fun j σ H' => Same H H' ∧ H' p = some (.lst (rs.map fun r => V.str (S r))) ∧ (∃ y z, σ = [some (.str (S l)), some (.ref p), y, z]) ∧ ∀ r ∈ rs.take j, ¬ 120 < r.length)
      ⟨sm, hp1, ⟨_, _, rfl⟩, fun c hc => by cases hc⟩ (fun j σ H' _ h => SqL.of h.2.1) ?_ ?_⟩
    · rintro j x σ H1 H2 hj ⟨sm, hp1, ⟨y, z, rfl⟩, hn⟩ ⟨T', x1, rfl, hT, rfl, hx⟩
      rw [List.getElem?_map] at hx
      obtain ⟨r, hrj, rfl⟩ := Option.map_eq_some_iff.mp hx
      have hrm : r ∈ rs := List.mem_of_getElem? hrj
      have hrl := hlen r hrm
      have sm2 : Same H (upd H1 T' (.tup [.int (1 + (j : Nat)), .str (S r)])) := sm.trans (same_new hT _)
      have hp2 : upd H1 T' (.tup [.int (1 + (j : Nat)), .str (S r)]) p = some (.lst (rs.map fun r => V.str (S r))) := (same_new hT _) _ _ hp1
      refine ⟨T', _, rfl, SqT.of upd_same, rfl, _, _, rfl, _, [], rfl, rfl, ?_⟩
      have e3 : decide ((120 : Int) < ((S r).length : Int)) = decide (120 < r.length) := by rw [S_len]; exact lt_dec (a := 120)
      refine ⟨_, rfl, _, rfl, S_line (show r.length ≤ 1000000 by simp only [List.length_nil] at hrl; omega), _, _, rfl, rfl, _, rfl, ?_⟩
      by_cases c3 : 120 < r.length
      · refine iteT' (e3.trans (decide_eq_true c3)) ?_
        have hla := longAt_at (n := 1) hrj c3 hn
        rw [hla] at q1
        exact ⟨_, rfl, _, _, rfl, rfl, rz_mk ER (rz_up sm2 (q1 _ rfl))⟩
      · refine iteF' (e3.trans (decide_eq_false c3)) ⟨sm2, hp2, ⟨_, _, rfl⟩, fun r' hr' => ?_⟩
        rw [List.take_add_one, hrj] at hr'
        rcases List.mem_append.mp hr' with hr' | hr'
        · exact hn r' hr'
        · have : r' = r := by simpa using hr'
          subst this; exact c3
    · rintro σ H1 ⟨sm, hp1, ⟨y, z, rfl⟩, hn⟩
      rw [hrl, List.take_length] at hn
      rw [longAt_none hn] at q2
      exact ⟨_, rfl, q2 _ rfl H1 p sm hp hp1⟩
end
end D0
namespace D0
open PySem PySem.Spec PyProof.Rows L2 SX NumText
theorem cutV_len (xs : List V) : (cutV xs (some (1 : Int)) none).length = xs.length - 1 := by
  have e : cutV xs (some ((1 : Nat) : Int)) none = xs.drop 1 := by
    unfold cutV
    rw [HT.sIx_nat, HT.sIx_none]
    show (xs.drop (min 1 xs.length)).take (xs.length - min 1 xs.length) = _
    rw [drop_min, List.take_of_length_le (by rw [List.length_drop]; omega)]
  have e2 : cutV xs (some (1 : Int)) none = xs.drop 1 := e
  rw [e2, List.length_drop]
def lastLn (s : Sc) : Nat := match s.marks.getLast? with
  | none => 1
  | some m => m.ln + 1
def endText (s : Sc) : Except Er3 Sc := match s.br with
  | b :: _ => .error (.token, b.ln, b.col)
  | [] => .ok { s with marks := (s.marks ++ List.replicate (s.ind.length - 1) (dedent (lastLn s) 1)) ++ [⟨.fin, .s [], lastLn s, 1⟩] }
def spEndText (ec : Er → Addr) (C : Addr) : Sp := fun vs H Q E => ∃ (H0 : Hp) (p : Addr) (s : Sc), vs = [.ref p] ∧ ScAt C H0 H p s ∧ SI s ∧ s.marks.length ≤ lim ∧ OutS ec C H0 p Q E (endText s)
section
variable {P : Program} {w : World} {K : PySem.W.Frag} {mg : Str → Option Value} {base : Heap} {ec : Er → Addr} {C : Addr}
theorem ok_Scanner_end_text (T : Txt K w mg) (ER : ErrT P w K mg base ec) (SC0 : ScT K mg C) :
    OkM P w K mg base C (L2.CX P w) 3 "end_text" p_Scanner_end_text (spEndText ec C) := by
  refine SC0.g_end_text.okX sc_Scanner_end_text (fun vs H Q E h => ?_) (fun f cdv A outer sh H vs Q E hr h => ?_)
  · obtain ⟨H0, p, s, rfl, _⟩ := h; rfl
  obtain ⟨H0, p, s, rfl, ⟨dx, lm, lb, li, A⟩, hs, hM, q⟩ := h
  have zk : Str.ofString "end" = S (Kd.cp .fin) ∧ Str.ofString "dedent" = S (Kd.cp .dedent) ∧ Str.ofString "" = S [] := by decide +kernel
  have ll := lim_line
  obtain ⟨vb, hvb, hvm⟩ := A.hb
  obtain ⟨vm, hv, hvv⟩ := A.hm
  have nt : ∀ (s2 : Sc) (H2 : Hp) (u : Addr), ScA C H0 H2 p dx lm lb li s2 → True := fun _ _ _ _ => trivial
  refine split_at 3 (fun t => s.br = [] → t { nx := fun _ H' => Q .non H', rt := Q } [some (.ref p), some (.int (lastLn s : Nat)), none] H) ?_ (fun t ht hg => ?_)
  · refine ⟨_, (pss_cons (ps_for (passes_of rfl) rfl (pi_list (pe_slice sl_list (pe_fld (pv 0) rfl) (po_some pe_int) po_none)) (pg_name (i := 2) sc_Scanner_end_text.nd rfl (Or.inl rfl)) (pss_one (ps_expr (pe_bm PySem.F.plainAttrs_list PySem.F.slot_list_append PySem.F.type_list_append mt_append (pe_fld (pv 0) rfl) (pa_cons (pe_tup (pa_cons pe_str (pa_cons pe_str (pa_cons (pv 1) (pa_cons pe_int pa_nil))))) pa_nil)))))
      (pss_one (ps_expr (pe_bm PySem.F.plainAttrs_list PySem.F.slot_list_append PySem.F.type_list_append mt_append (pe_fld (pv 0) rfl) (pa_cons (pe_tup (pa_cons pe_str (pa_cons pe_str (pa_cons (pv 1) (pa_cons pe_int pa_nil))))) pa_nil))))), ?_⟩
    intro hbr
    have ee : endText s = .ok { s with marks := (s.marks ++ List.replicate (s.ind.length - 1) (dedent (lastLn s) 1)) ++ [⟨.fin, .s [], lastLn s, 1⟩] } := by
      unfold endText
      split
      · rename_i h; rw [hbr] at h; cases h
      · rfl
    rw [ee] at q
    have q : ∀ H', ScAt C H0 H' p { s with marks := (s.marks ++ List.replicate (s.ind.length - 1) (dedent (lastLn s) 1)) ++ [⟨.fin, .s [], lastLn s, 1⟩] } → Q .non H' := q
    refine ⟨_, rfl, p, C, dx, _, _, rfl, A.hp, SC0.cl, SC0.n_indents, lk_I, ?_⟩
    refine ⟨1, rfl, li, _, rfl, SqL.of A.hi, fun D hD => ?_⟩
    have hcl := cutV_len (s.ind.reverse.map fun n => V.int (n : Nat))
    rw [List.length_map, List.length_reverse] at hcl
    generalize cutV (s.ind.reverse.map fun n => V.int (n : Nat)) (some (1 : Int)) none = ys at *
    have A1 := A.fresh (o := .lst ys) hD
    refine ⟨D, rfl, ⟨ys, SqL.of upd_same⟩, for_it (walk_list (xs := ys)) (fun j σ H' => (∃ y, σ = [some (.ref p), some (.int (lastLn s : Nat)), y]) ∧ H' D = some (.lst ys) ∧ ScA C H0 H' p dx lm lb li { s with marks := s.marks ++ List.replicate j (dedent (lastLn s) 1) })
      ⟨⟨none, rfl⟩, upd_same, by show ScA C H0 _ p dx lm lb li { s with marks := s.marks ++ [] }; rw [List.append_nil]; exact A1⟩ (fun j σ H' _ h => SqL.of h.2.1) ?_ ?_⟩
    · rintro j x σ H1 H2 hj ⟨⟨y, rfl⟩, hD1, A2⟩ ⟨rfl, hx⟩
      obtain ⟨vs, hvs, hvms⟩ := A2.hm
      refine ⟨_, rfl, p, C, dx, _, _, rfl, A2.hp, SC0.cl, SC0.n_marks, lk_M, .inl ⟨rfl, _, SqL.of hvs⟩, _, rfl, four, fun u hu => ?_⟩
      have A3 := A2.fresh (o := .tup [.str (Str.ofString "dedent"), .str (Str.ofString ""), .int (lastLn s : Nat), .int 1]) hu
      obtain ⟨vs', hv', hvm'⟩ := A3.hm
      refine ⟨lm, _, _, rfl, rfl, hv', ?_, ?_⟩
      · rw [hvm'.1]
        show (s.marks ++ List.replicate j _).length < _
        rw [List.length_append, List.length_replicate]
        have := hs.il
        omega
      · have A5 := A3.mark (m := dedent (lastLn s) 1) hv' (by rw [upd_same, zk.2.1, zk.2.2]; rfl)
        refine ⟨⟨_, rfl⟩, ?_, ?_⟩
        · have nd : D ≠ lm := fun z => by rw [z, hv] at hD; cases hD
          rw [upd_ne nd]; exact (same_new hu _) _ _ hD1
        · have e : (s.marks ++ List.replicate j (dedent (lastLn s) 1)) ++ [dedent (lastLn s) 1] = s.marks ++ List.replicate (j + 1) (dedent (lastLn s) 1) := by rw [List.append_assoc, ← List.replicate_succ']
          rw [← e]
          exact A5
    · rintro σ H1 ⟨⟨y, rfl⟩, hD1, A2⟩
      rw [hcl] at A2
      obtain ⟨vs, hvs, hvms⟩ := A2.hm
      refine ⟨_, rfl, p, C, dx, _, _, rfl, A2.hp, SC0.cl, SC0.n_marks, lk_M, .inl ⟨rfl, _, SqL.of hvs⟩, _, rfl, four, fun u hu => ?_⟩
      have A3 := A2.fresh (o := .tup [.str (Str.ofString "end"), .str (Str.ofString ""), .int (lastLn s : Nat), .int 1]) hu
      obtain ⟨vs', hv', hvm'⟩ := A3.hm
      refine ⟨lm, _, _, rfl, rfl, hv', ?_, ?_⟩
      · rw [hvm'.1]
        show (s.marks ++ List.replicate _ _).length < _
        rw [List.length_append, List.length_replicate]
        have := hs.il
        omega
      · exact q _ ⟨dx, lm, lb, li, A3.mark (m := ⟨.fin, .s [], lastLn s, 1⟩) hv' (by rw [upd_same, zk.1, zk.2.2]; rfl)⟩
  · refine ⟨_, pss_cons (ps_if (pt_truth (pe_fld (pv 0) rfl) (fun _ => rfl)) (pss_one (ps_raise rfl (takes_of rfl rfl rfl rfl) (pmk_err ER .token hr (pa_cons (pe_ix ix_tup (pe_ix ix_list (pe_fld (pv 0) rfl) (pe_un un_neg pe_int) (fun _ _ => rfl)) pe_int (fun _ _ => rfl)) (pa_cons (pe_ix ix_tup (pe_ix ix_list (pe_fld (pv 0) rfl) (pe_un un_neg pe_int) (fun _ _ => rfl)) pe_int (fun _ _ => rfl)) pa_nil))))) pss_nil) (pss_cons (ps_set (i := 1) sc_Scanner_end_text.nd rfl (.inl rfl) pe_int) (pss_cons
      (ps_if (pt_truth (pe_fld (pv 0) rfl) (fun _ => rfl)) (pss_one (ps_set (i := 1) sc_Scanner_end_text.nd rfl (.inl rfl) (pe_op op_add (pe_ix ix_tup (pe_ix ix_list (pe_fld (pv 0) rfl) (pe_un un_neg pe_int) (fun _ _ => rfl)) pe_int (fun _ _ => rfl)) pe_int))) pss_nil) ht)), ?_⟩
    refine ⟨_, rfl, p, C, dx, _, _, rfl, A.hp, SC0.cl, SC0.n_brackets, lk_B, _, .inl ⟨vb, SqL.of hvb, rfl⟩, ?_⟩
    cases hbr : s.br with
    | cons b r =>
      have hvm' := hvm
      rw [hbr] at hvm'
      obtain ⟨ab, t1, t2, t3⟩ := hvm'.top
      have hem : (!vb.isEmpty) = true := by
        cases vb with
        | nil => have := hvm'.1; simp at this
        | cons x y => rfl
      have a2 : atI b.vs (2 : Int) = some (.int (b.ln : Nat)) := atI_nat (j := 2) rfl
      have a3 : atI b.vs (3 : Int) = some (.int (b.col : Nat)) := atI_nat (j := 3) rfl
      unfold endText at q
      rw [hbr] at q
      refine iteT' hem ?_
      exact ⟨_, rfl, p, C, dx, _, _, rfl, A.hp, SC0.cl, SC0.n_brackets, lk_B, 1, rfl, lb, _, -1, _, rfl, rfl, SqL.of hvb, t1, ab, _, 2, _, rfl, rfl, SqT.of t3, a2,
        _, rfl, p, C, dx, _, _, rfl, A.hp, SC0.cl, SC0.n_brackets, lk_B, 1, rfl, lb, _, -1, _, rfl, rfl, SqL.of hvb, t1, ab, _, 3, _, rfl, rfl, SqT.of t3, a3, rz_mk ER (rz_up A.sm q)⟩
    | nil =>
      have hem : (!vb.isEmpty) = false := by
        have := hvm.1
        rw [hbr] at this
        rw [List.eq_nil_of_length_eq_zero this]; rfl
      refine iteF' hem ?_
      have hg := hg hbr
      refine ⟨_, rfl, p, C, dx, _, _, rfl, A.hp, SC0.cl, SC0.n_marks, lk_M, _, .inl ⟨vm, SqL.of hv, rfl⟩, ?_⟩
      cases hl : s.marks.getLast? with
      | none =>
        have hn : s.marks = [] := List.getLast?_eq_none_iff.mp hl
        have hem2 : (!vm.isEmpty) = false := by
          have := hvv.1
          rw [hn] at this
          rw [List.eq_nil_of_length_eq_zero this]; rfl
        have e : lastLn s = 1 := by unfold lastLn; rw [hl]
        rw [e] at hg
        exact iteF' hem2 hg
      | some m =>
        obtain ⟨am, t1, t3⟩ := hvv.last hl
        have hem2 : (!vm.isEmpty) = true := by
          cases vm with
          | nil =>
            have := hvv.1
            have hn : s.marks = [] := List.eq_nil_of_length_eq_zero this.symm
            rw [hn] at hl; cases hl
          | cons x y => rfl
        have a2 : atI m.vs (2 : Int) = some (.int (m.ln : Nat)) := atI_nat (j := 2) rfl
        have e : lastLn s = m.ln + 1 := by unfold lastLn; rw [hl]
        rw [e] at hg
        exact iteT' hem2 ⟨_, rfl, p, C, dx, _, _, rfl, A.hp, SC0.cl, SC0.n_marks, lk_M, 1, rfl, lm, _, -1, _, rfl, rfl, SqL.of hv, t1, am, _, 2, _, rfl, rfl, SqT.of t3, a2, _, _, rfl, rfl, hg⟩
end
end D0
namespace D0
open PySem PySem.Spec PyProof.Rows L2 SX NumText
theorem runRow_ok {l : List Nat} {ln : Nat} : ∀ {f at_ : Nat} {s s' : Sc}, runRow l ln f at_ s = .ok s' → SI s → at_ ≤ l.length → SI s' ∧ s'.marks.length + 14 * at_ ≤ s.marks.length + 14 * l.length
  | 0, at_, s, s', h, hs, ha => by
    have : s = s' := by unfold runRow at h; exact Except.ok.inj h
    subst this; exact ⟨hs, by omega⟩
  | f + 1, at_, s, s', h, hs, ha => by
    unfold runRow at h
    by_cases hh : here l at_ = true
    · rw [if_pos hh] at h
      have hat : at_ < l.length := by
        unfold here at hh
        rw [Bool.and_eq_true] at hh
        exact of_decide_eq_true hh.1
      cases hst : stepR l ln at_ s with
      | error e => rw [hst] at h; cases h
      | ok r =>
        rw [hst] at h
        have h : runRow l ln f r.1 r.2 = .ok s' := h
        unfold stepR at hst
        cases hb : beg ln at_ s with
        | error e => rw [hb] at hst; cases hst
        | ok s1 =>
          rw [hb] at hst
          have hst : tokS l ln at_ s1 = .ok r := hst
          have h1 : SI s1 ∧ s1.marks.length ≤ s.marks.length + 13 := by
            unfold beg at hb
            split at hb
            · have := begin_ok hb hs; exact ⟨this.1, this.2.1⟩
            · cases hb; exact ⟨hs, by omega⟩
          obtain ⟨g1, g2, g3, g4⟩ := tokS_ok hat h1.1 hst
          obtain ⟨k1, k2⟩ := runRow_ok h g3 g2
          exact ⟨k1, by omega⟩
    · rw [if_neg hh] at h
      cases h
      exact ⟨hs, by omega⟩
theorem scanRow_ok {l : List Nat} {ln : Nat} {s s' : Sc} (h : scanRow l ln s = .ok s') (hs : SI s) (hl : l.length ≤ 120) : SI s' ∧ s'.marks.length ≤ s.marks.length + 1700 := by
  unfold scanRow at h
  cases hr : runRow l ln (l.length + 1) (twl spc l 0) s with
  | error e => rw [hr] at h; cases h
  | ok s1 =>
    rw [hr] at h
    obtain ⟨h1, h2⟩ := runRow_ok hr hs (twl_le (Nat.zero_le _))
    cases h
    unfold fin
    split
    · rename_i c
      refine ⟨⟨h1.ind, h1.il, h1.brw, by show s1.br.length ≤ 0; rw [c.2]; exact Nat.le_refl _, Nat.zero_le _⟩, ?_⟩
      show (s1.marks ++ [_]).length ≤ _
      rw [List.length_append]; simp only [List.length_cons, List.length_nil]; omega
    · exact ⟨h1, by omega⟩
def scanRows : List (List Nat) → Nat → Sc → Except Er3 Sc
  | [], _, s => .ok s
  | r :: rs, ln, s => (scanRow r ln s).bind (scanRows rs (ln + 1))
def tokensP (l : List Nat) : Except Er3 (List Mk) := (checkRows l).bind fun rs => (scanRows rs 1 sc0).bind fun s => (endText s).map Sc.marks
def spTokens (ec : Er → Addr) : Sp := fun vs H Q E => ∃ (l : List Nat), vs = [.str (S l)] ∧ l.length ≤ big ∧
  (∀ e, tokensP l = .error e → Rz ec e.1 (e.2.1 : Nat) (e.2.2 : Nat) H E) ∧ (∀ ms, tokensP l = .ok ms → ∀ H' q us, Same H H' → H q = none → H' q = some (.lst us) → Mks H' us ms → Q (.ref q) H')
theorem longAt_le : ∀ {rs : List (List Nat)} {n : Nat}, longAt rs n = none → ∀ r ∈ rs, r.length ≤ 120
  | [], _, _, r, hr => by cases hr
  | x :: rs, n, h, r, hr => by
    unfold longAt at h
    split at h
    · cases h
    · rename_i c
      rcases List.mem_cons.mp hr with rfl | hr
      · omega
      · exact longAt_le h r hr
theorem checkRows_ok {l : List Nat} {rs : List (List Nat)} (h : checkRows l = .ok rs) : rs.length ≤ 6001 ∧ (∀ r ∈ rs, r.length ≤ 120) ∧ rs = rowsOf l := by
  unfold checkRows at h
  split at h
  · cases h
  rename_i c
  split at h
  · cases h
  split at h
  · cases h
  rename_i hlo
  cases h
  have := (spl_count l []).1
  exact ⟨by show (TL.spl [10] 0 [] l).length ≤ 6001; omega, longAt_le hlo, rfl⟩
theorem SI0 : SI sc0 := ⟨⟨rfl, by show 1 ≤ 12; decide⟩, (by show 1 ≤ 11; decide), (fun b hb => by cases hb), Nat.le_refl _, Nat.zero_le _⟩
section
variable {P : Program} {w : World} {K : PySem.W.Frag} {mg : Str → Option Value} {base : Heap} {ec : Er → Addr} {C : Addr}
theorem ok_tokens (T : Txt K w mg) (ER : ErrT P w K mg base ec) (SC0 : ScT K mg C) (Ocr : OkD P w K mg base (L2.CX P w) 4 "checked_rows" p_checked_rows (spRows ec))
    (OS : OkM P w K mg base C (L2.CX P w) 5 "scan_row" p_Scanner_scan_row (spScanRow ec C)) (OT : OkM P w K mg base C (L2.CX P w) 3 "end_text" p_Scanner_end_text (spEndText ec C)) :
    OkD P w K mg base (L2.CX P w) 6 "tokens" p_tokens (spTokens ec) := by
  obtain ⟨fI', fd', M, bI, FI⟩ := SC0.ini
  have GI := ok_Scanner___init__ (P := P) (w := w) (base := base) SC0 FI
  refine T.g_tokens.okX sc_tokens (fun vs H Q E h => ?_) (fun f cdv A outer sh H vs Q E hr h => ?_)
  · obtain ⟨l, rfl, _⟩ := h; rfl
  obtain ⟨l, rfl, hl, q1, q2⟩ := h
  have limv : lim = 12000000 := rfl
  refine ⟨_, (pss_cons (ps_set (i := 1) sc_tokens.nd rfl (.inl rfl) (pcallE Ocr hr (passes_call (takes_of rfl rfl rfl rfl) (fun _ _ _ _ h => h)) (pa_cons (pv 0) pa_nil)))
      (pss_cons (ps_set (i := 2) sc_tokens.nd rfl (.inl rfl) (pe_make0 M GI (hr.mono (by decide)) rfl SC0.gl bI .nil pass0))
      (pss_cons (ps_for (passes_of rfl) rfl (pi_enumC (by rfl) T.z_enumerate (pa_cons (pv 1) pa_nil) pe_int) (pg_tup (by rfl) (pgs_cons (pg_name (i := 3) sc_tokens.nd rfl (Or.inl rfl)) (pgs_cons (pg_name (i := 4) sc_tokens.nd rfl (Or.inl rfl)) pgs_nil))) (pss_one (ps_expr (pmethE OS SC0.cl hr (passes_call (takes_of rfl rfl rfl rfl) (fun _ _ _ _ h => h)) (pv 2) (pa_cons (pv 4) (pa_cons (pv 3) pa_nil))))))
      (pss_cons (ps_expr (pmeth0 OT SC0.cl hr (passes_call (takes_of rfl rfl rfl rfl) (fun _ _ _ _ h => h)) (pv 2)))
      (pss_one (ps_ret (pe_fld (pv 2) rfl))))))), ?_⟩
  unfold tokensP at q1 q2
  refine ⟨_, rfl, l, rfl, hl, fun e he => ?_, fun rs he H1 p sm1 hp0 hp1 => ?_⟩
  · rw [he] at q1; exact q1 e rfl
  rw [he] at q1 q2
  have q1 : ∀ e, ((scanRows rs 1 sc0).bind fun s => (endText s).map Sc.marks) = .error e → Rz ec e.1 (e.2.1 : Nat) (e.2.2 : Nat) H E := q1
  have q2 : ∀ ms, ((scanRows rs 1 sc0).bind fun s => (endText s).map Sc.marks) = .ok ms → ∀ H' q us, Same H H' → H q = none → H' q = some (.lst us) → Mks H' us ms → Q (.ref q) H' := q2
  obtain ⟨hc1, hc2, _⟩ := checkRows_ok he
  intro x dx nx ndx nex
  have s0 : Same H1 (upd (upd H1 dx (.own x)) x (.ins C dx [])) := fun b o e => by
    rw [upd_ne (ne_of_none e nx), upd_ne (ne_of_none e ndx)]
    exact e
  refine ⟨H1, x, dx, rfl, s0, nx, upd_same, fun H2 A2 => ⟨rfl, ?_⟩⟩
  have hsm : ∀ {H' : Hp} {s : Sc}, ScAt C H1 H' x s → Same H1 H' := fun ⟨_, _, _, _, A⟩ => A.sm
  have hrl : (rs.map fun r => V.str (S r)).length = rs.length := List.length_map ..
  refine ⟨_, rfl, p, _, rfl, SqL.of (hsm A2 _ _ hp1), for_it walk_enumC (fun j σ H' => ∃ (s1 : Sc) (y z : Option V), σ = [some (.str (S l)), some (.ref p), some (.ref x), y, z] ∧ ScAt C H1 H' x s1 ∧ SI s1 ∧ s1.marks.length ≤ 1700 * j ∧ scanRows rs 1 sc0 = scanRows (rs.drop j) (1 + j) s1)
    ⟨sc0, none, none, rfl, A2, SI0, Nat.zero_le _, rfl⟩ (fun j σ H' _ ⟨_, _, _, _, A, _⟩ => SqL.of (hsm A _ _ hp1)) ?_ ?_⟩
  · rintro j v σ H3 H4 hj ⟨s1, y, z, rfl, ⟨dx', lm, lb, li, A3⟩, hs1, hm1, hsc⟩ ⟨T', x1, rfl, hT, rfl, hx⟩
    rw [List.getElem?_map] at hx
    obtain ⟨r, hrj, rfl⟩ := Option.map_eq_some_iff.mp hx
    have hrm : r ∈ rs := List.mem_of_getElem? hrj
    have hjl := (List.getElem?_eq_some_iff.mp hrj).1
    have hd : rs.drop j = r :: rs.drop (j + 1) := by
      rw [List.drop_eq_getElem_cons hjl]
      congr 1
      exact Option.some.inj ((List.getElem?_eq_getElem hjl).symm.trans hrj)
    rw [hd] at hsc
    have hsc : scanRows rs 1 sc0 = (scanRow r (1 + j) s1).bind (scanRows (rs.drop (j + 1)) (1 + j + 1)) := hsc
    have A4 := A3.fresh (o := .tup [.int (1 + (j : Nat)), .str (S r)]) hT
    refine ⟨T', _, rfl, SqT.of upd_same, rfl, _, _, rfl, _, [], rfl, rfl, ?_⟩
    refine ⟨_, rfl, x, dx', _, rfl, A4.hp, pf_no no_names.2.2.2.1, _, rfl, _, rfl, H1, x, s1, r, 1 + j, ?_, hc2 r hrm, ⟨dx', lm, lb, li, A4⟩, hs1, by omega, ?_⟩
    · rw [show ((1 + j : Nat) : Int) = 1 + (j : Nat) by omega]; rfl
    cases hsr : scanRow r (1 + j) s1 with
    | error e =>
      rw [hsr] at hsc
      rw [hsc] at q1
      exact rz_up sm1 (q1 e rfl)
    | ok s2 =>
      rw [hsr] at hsc
      obtain ⟨g1, g2⟩ := scanRow_ok hsr hs1 (hc2 r hrm)
      intro H5 A5
      exact ⟨s2, _, _, rfl, A5, g1, by omega, by rw [hsc, show 1 + (j + 1) = 1 + j + 1 by omega]; rfl⟩
  · rintro σ H3 ⟨s1, y, z, rfl, ⟨dx', lm, lb, li, A3⟩, hs1, hm1, hsc⟩
    rw [hrl, List.drop_length] at hsc
    rw [hrl] at hm1
    rw [hsc] at q1 q2
    have q1 : ∀ e, (endText s1).map Sc.marks = .error e → Rz ec e.1 (e.2.1 : Nat) (e.2.2 : Nat) H E := q1
    have q2 : ∀ ms, (endText s1).map Sc.marks = .ok ms → ∀ H' q us, Same H H' → H q = none → H' q = some (.lst us) → Mks H' us ms → Q (.ref q) H' := q2
    refine ⟨_, rfl, x, dx', _, rfl, A3.hp, pf_no no_names.2.2.2.2, H1, x, s1, rfl, ⟨dx', lm, lb, li, A3⟩, hs1, by omega, ?_⟩
    cases het : endText s1 with
    | error e => rw [het] at q1; exact rz_up sm1 (q1 e rfl)
    | ok s2 =>
      rw [het] at q2
      rintro H4 ⟨dx2, lm2, lb2, li2, A5⟩
      obtain ⟨us, hus, hms⟩ := A5.hm
      refine ⟨_, rfl, x, C, dx2, _, _, rfl, A5.hp, SC0.cl, SC0.n_marks, lk_M, ?_⟩
      exact q2 s2.marks rfl H4 lm2 us (sm1.trans A5.sm) (sm1.free A5.m0) hus hms
end
end D0
namespace D0
open PySem PySem.Spec PyProof.Rows L2 SX NumText
/-- a bag: a list of three ints -/
def Bag (H : Hp) (b : Addr) : Prop := ∃ c s n : Int, H b = some (.lst [.int c, .int s, .int n])
/-- all but the bag stays -/
structure Stp (b : Addr) (H H' : Hp) : Prop where
  b0 : Bag H b
  b1 : Bag H' b
  keep : ∀ a o, a ≠ b → H a = some o → H' a = some o
theorem Stp.trans {b : Addr} {H H1 H2 : Hp} (x : Stp b H H1) (y : Stp b H1 H2) : Stp b H H2 := ⟨x.b0, y.b1, fun a o n e => y.keep a o n (x.keep a o n e)⟩
theorem Stp.refl {b : Addr} {H : Hp} (x : Bag H b) : Stp b H H := ⟨x, x, fun _ _ _ e => e⟩
theorem Bag.same {b : Addr} {H H' : Hp} (x : Bag H b) (s : Same H H') : Bag H' b := by obtain ⟨c, t, n, e⟩ := x; exact ⟨c, t, n, s _ _ e⟩
theorem Stp.same {b : Addr} {H H' : Hp} (x : Bag H b) (s : Same H H') : Stp b H H' := ⟨x, x.same s, fun a o _ e => s a o e⟩
theorem Bag.ne {b a : Addr} {H : Hp} (x : Bag H b) (h : H a = none) : a ≠ b := by obtain ⟨c, t, n, e⟩ := x; exact (ne_of_none e h).symm
theorem Bag.ne_tup {b a : Addr} {H : Hp} {vs : List V} (x : Bag H b) (h : H a = some (.tup vs)) : a ≠ b := by
  obtain ⟨c, t, n, e⟩ := x
  intro z; rw [z, e] at h; cases h
def spBag (K : PySem.W.Frag) : Sp := fun vs H Q _ => ∃ (a : Addr) (ns : List Int) (k : Nat), vs = [.ref a, .int k] ∧ SqL K H a (ns.map V.int) ∧ ns.length ≤ 63 ∧ k ≤ 1 ∧ ∀ p H', Same H H' → H p = none → Bag H' p → Q (.ref p) H'
def spTake : Sp := fun vs H Q _ => ∃ (b : Addr) (n : Int), vs = [.ref b, .int n] ∧ Bag H b ∧ 0 < n ∧ n < 1000000000 ∧ ∀ r H', 0 ≤ r → r < n → Stp b H H' → Q (.int r) H'
section
variable {P : Program} {w : World} {K : PySem.W.Frag} {mg : Str → Option Value} {base : Heap}
theorem ok__law_bag (T : Txt K w mg) : OkD P w K mg base CX0 1 "_law_bag" p__law_bag (spBag K) := by
  refine T.g__law_bag.ok sc__law_bag (fun vs H Q E h => ?_) (fun f cdv A outer s H vs Q E hr h => ?_)
  · obtain ⟨a, ns, k, rfl, _⟩ := h; rfl
  obtain ⟨a, ns, k, rfl, hS, h63, hk, q⟩ := h
  refine split_at 3 (fun t => ∀ c : Int, t { nx := fun _ H' => Q .non H', rt := Q } [some (.ref a), some (.int (k : Nat)), some (.int c), none, none] H) ?_ (fun t ht hg => ?_)
  rotate_left
  · refine ⟨_, pss_cons (ps_set (i := 2) sc__law_bag.nd rfl (.inl rfl) pe_int) (pss_cons (ps_if (pt_cmpR op_lt (pv 1) (pe_callB call_len_seq (by rfl) T.z_len PySem.boot_len (pa_cons (pv 0) pa_nil)) (nomark _)) (pss_one (ps_set (i := 2) sc__law_bag.nd rfl (.inl rfl) (pe_ix ix_list (pv 0) (pv 1) (fun _ _ => rfl)))) pss_nil) (pss_cons (ps_if (pt_cmpR op_lt (pv 2) pe_int (nomark _)) (pss_one (ps_set (i := 2) sc__law_bag.nd rfl (.inl rfl) (pe_op op_sub pe_int (pv 2)))) pss_nil) ht)), ?_⟩
    refine ⟨_, rfl, _, rfl, a, _, rfl, .inl hS, _, _, rfl, rfl, _, rfl, ite2 (fun c => ?_) (fun c => ?_)⟩
    · have c := of_decide_eq_true c
      have c : (k : Int) < ((ns.map V.int).length : Int) := c
      rw [List.length_map] at c
      have hkl : k < ns.length := by omega
      refine ⟨_, rfl, _, rfl, a, _, _, .int ns[k], rfl, rfl, hS, atI_nat (by rw [List.getElem?_map, List.getElem?_eq_getElem hkl]; rfl), ?_⟩
      refine ⟨_, rfl, _, _, rfl, rfl, _, rfl, ite2 (fun c => ?_) (fun c => hg _)⟩
      refine ⟨_, rfl, _, _, rfl, rfl, hg _⟩
    · refine ⟨_, rfl, _, _, rfl, rfl, _, rfl, ite2 (fun c => ?_) (fun c => hg _)⟩
      refine ⟨_, rfl, _, _, rfl, rfl, hg _⟩
  · refine ⟨_, (pss_cons (ps_set (i := 3) sc__law_bag.nd rfl (.inl rfl) (pe_op op_mul pe_int (pe_op op_add (pv 1) pe_int)))
      (pss_cons (ps_for PassesOwn.never rfl (pi_list (pe_slice sl_list (pv 0) po_none (po_some pe_int))) (pg_name (i := 4) sc__law_bag.nd rfl (Or.inl rfl)) (pss_one (ps_set (i := 3) sc__law_bag.nd rfl (.inl rfl) (pe_op op_mod (pe_callTy call_int1 (by rfl) T.z_int PyProof.Rows.boot_int (pa_cons (pe_op op_add (pe_op op_add (pe_op op_mul (pv 3) pe_int) (pe_op op_mod (pe_callTy call_int1 (by rfl) T.z_int PyProof.Rows.boot_int (pa_cons (pv 4) pa_nil)) pe_int)) pe_int) pa_nil)) pe_int))))
      (pss_cons (ps_if (pt_cmpR op_lt (pv 2) (pe_op op_pow pe_int pe_int) (nomark _)) (pss_one (ps_set (i := 2) sc__law_bag.nd rfl (.inl rfl) pe_int)) pss_nil)
      (pss_one (ps_ret (pe_lst (pa_cons (pv 2) (pa_cons (pv 3) (pa_cons pe_int pa_nil))))))))), ?_⟩
    intro c
    refine ⟨_, rfl, _, _, rfl, rfl, _, _, rfl, rfl, .inl ⟨by decide, by decide⟩, ?_⟩
    refine ⟨_, rfl, 63, rfl, a, _, rfl, hS, fun p hp => ⟨p, rfl, ⟨_, SqL.of upd_same⟩, ?_⟩⟩
    have mem : ∀ x ∈ cutV (ns.map V.int) none (some 63), ∃ i : Int, x = V.int i := fun x hx => by
      have : x ∈ ns.map V.int := List.mem_of_mem_drop (List.mem_of_mem_take hx)
      obtain ⟨i, _, e⟩ := List.mem_map.mp this
      exact ⟨i, e.symm⟩
    generalize cutV (ns.map V.int) none (some 63) = xs at mem
    have sm : Same H (upd H p (.lst xs)) := same_new hp _
    refine for_it (walk_list (xs := xs)) (fun j σ H' => ∃ (e : Int) (y : Option V), σ = [some (.ref a), some (.int (k : Nat)), some (.int c), some (.int e), y] ∧ H' = upd H p (.lst xs)) ⟨_, none, rfl, rfl⟩ (fun j σ H' _ h => by obtain ⟨_, _, _, rfl⟩ := h; exact SqL.of upd_same) ?_ ?_
    · rintro j x σ H1 H2 hj ⟨e, y, rfl, rfl⟩ ⟨rfl, hx⟩
      obtain ⟨i, rfl⟩ := mem x (List.mem_of_getElem? hx)
      refine ⟨_, rfl, _, _, rfl, rfl, .inr ⟨by decide, by decide⟩, _, rfl, .inl ⟨_, rfl, _, _, rfl, rfl, (by show (0 : Int) < _; decide), _, _, rfl, rfl, _, _, rfl, rfl, .inl ⟨_, rfl, _, _, rfl, rfl, (by show (0 : Int) < _; decide), ?_⟩⟩⟩
      exact ⟨_, some (.int i), rfl, rfl⟩
    · rintro σ H1 ⟨e, y, rfl, rfl⟩
      refine ⟨_, rfl, _, _, rfl, rfl, ⟨by decide, by decide, by decide⟩, _, _, rfl, rfl, _, rfl, ite2 (fun c => ?_) (fun c => ?_)⟩
      · refine ⟨_, rfl, _, rfl, by show 3 ≤ sizeLine; decide, fun z hz => ?_⟩
        exact q z _ (sm.trans (same_new hz _)) (sm.free hz) ⟨_, _, _, upd_same⟩
      · refine ⟨_, rfl, _, rfl, by show 3 ≤ sizeLine; decide, fun z hz => ?_⟩
        exact q z _ (sm.trans (same_new hz _)) (sm.free hz) ⟨_, _, _, upd_same⟩
theorem ok__law_take (T : Txt K w mg) : OkD P w K mg base CX0 1 "_law_take" p__law_take spTake := by
  refine T.g__law_take.ok sc__law_take (fun vs H Q E h => ?_) (fun f cdv A outer s H vs Q E hr h => ?_)
  · obtain ⟨b, n, rfl, _⟩ := h; rfl
  obtain ⟨b, n, rfl, ⟨c, sd, m, hb⟩, hn0, hn1, q⟩ := h
  refine ⟨_, (pss_cons (ps_asg (pe_op op_add (pe_ix ix_list (pv 0) pe_int (fun _ _ => rfl)) pe_int) (pg_sub (pv 0) pe_int set_list))
      (pss_cons (ps_if (pt_cmpR op_gt (pe_ix ix_list (pv 0) pe_int (fun _ _ => rfl)) pe_int (nomark _)) (pss_cons (ps_set (i := 2) sc__law_take.nd rfl (.inl rfl) (pe_op op_mod (pe_callTy call_int1 (by rfl) T.z_int PyProof.Rows.boot_int (pa_cons (pe_ix ix_list (pv 0) pe_int (fun _ _ => rfl)) pa_nil)) (pv 1)))
      (pss_cons (ps_asg (pe_op op_fdiv (pe_ix ix_list (pv 0) pe_int (fun _ _ => rfl)) (pv 1)) (pg_sub (pv 0) pe_int set_list))
      (pss_one (ps_ret (pv 2))))) pss_nil)
      (pss_cons (ps_set (i := 3) sc__law_take.nd rfl (.inl rfl) (pe_op op_mod (pe_callTy call_int1 (by rfl) T.z_int PyProof.Rows.boot_int (pa_cons (pe_op op_add (pe_op op_mul (pe_ix ix_list (pv 0) pe_int (fun _ _ => rfl)) pe_int) (pe_op op_mul (pe_ix ix_list (pv 0) pe_int (fun _ _ => rfl)) pe_int)) pa_nil)) pe_int))
      (pss_cons (ps_set (i := 4) sc__law_take.nd rfl (.inl rfl) (pe_op op_mod (pe_callTy call_int1 (by rfl) T.z_int PyProof.Rows.boot_int (pa_cons (pe_op op_add (pe_op op_add (pe_op op_mul (pe_op op_fdiv (pv 3) pe_int) (pv 3)) (pe_op op_mul (pe_ix ix_list (pv 0) pe_int (fun _ _ => rfl)) pe_int)) pe_int) pa_nil)) pe_int))
      (pss_one (ps_ret (pe_op op_mod (pe_op op_fdiv (pe_op op_mod (pe_callTy call_int1 (by rfl) T.z_int PyProof.Rows.boot_int (pa_cons (pe_op op_add (pe_op op_mul (pv 4) pe_int) (pe_ix ix_list (pv 0) pe_int (fun _ _ => rfl))) pa_nil)) pe_int) pe_int) (pv 1)))))))), ?_⟩
  have k64 : (-(2 ^ 64) : Int) < 48271 := by decide
  refine ⟨_, rfl, b, _, 2, _, rfl, rfl, SqL.of hb, rfl, _, _, rfl, rfl, ?_⟩
  refine ⟨_, rfl, b, _, 2, 2, rfl, rfl, hb, rfl, ?_⟩
  refine ⟨_, rfl, b, _, 0, _, rfl, rfl, SqL.of upd_same, rfl, _, _, rfl, rfl, _, rfl, ?_⟩
  refine ite2 (fun cc => ?_) (fun cc => ?_)
  · refine ⟨_, rfl, b, _, 0, _, rfl, rfl, SqL.of upd_same, rfl, .inl ⟨_, rfl, _, rfl, _, _, rfl, rfl, hn0, ?_⟩⟩
    refine ⟨_, rfl, b, _, 0, _, rfl, rfl, SqL.of upd_same, rfl, _, rfl, _, _, rfl, rfl, ⟨hn0, by omega⟩, ?_⟩
    refine ⟨_, rfl, b, _, 0, 0, rfl, rfl, upd_same, rfl, ?_⟩
    refine ⟨_, rfl, ?_⟩
    rw [upd_upd]
    exact q _ _ (Int.emod_nonneg _ (by omega)) (Int.emod_lt_of_pos _ hn0) ⟨⟨_, _, _, hb⟩, ⟨_, _, _, upd_same⟩, fun a o n e => by rw [upd_ne n]; exact e⟩
  · refine ⟨_, rfl, b, _, 1, _, rfl, rfl, SqL.of upd_same, rfl, _, _, rfl, rfl, .inr ⟨by decide, by decide⟩, _, rfl, b, _, 2, _, rfl, rfl, SqL.of upd_same, rfl, _, _, rfl, rfl, .inr ⟨by decide, by decide⟩, _, _, rfl, rfl, .inl ⟨_, rfl, _, _, rfl, rfl, (by show (0 : Int) < _; decide), ?_⟩⟩
    obtain ⟨f1, hf1⟩ : ∃ f1 : Int, f1 = (sd * 48271 + (m + 1) * 1299709) % 2147483647 := ⟨_, rfl⟩
    have hf0 : 0 ≤ f1 := by rw [hf1]; exact Int.emod_nonneg _ (by decide)
    have hf2 : f1 < 2147483647 := by rw [hf1]; exact Int.emod_lt_of_pos _ (by decide)
    refine ⟨_, rfl, _, _, rfl, rfl, ⟨by decide, by decide⟩, _, rfl, _, _, rfl, rfl, .inr ?_, _, rfl, b, _, 2, _, rfl, rfl, SqL.of upd_same, rfl, _, _, rfl, rfl, .inr ⟨by decide, by decide⟩, _, _, rfl, rfl, _, _, rfl, rfl, .inl ⟨_, rfl, _, _, rfl, rfl, (by show (0 : Int) < _; decide), ?_⟩⟩
    · show (-(2 ^ 64) : Int) < (sd * 48271 + (m + 1) * 1299709) % 2147483647 ∧ (sd * 48271 + (m + 1) * 1299709) % 2147483647 < 2 ^ 64
      rw [← hf1]
      omega
    refine ⟨_, rfl, _, _, rfl, rfl, .inr ⟨by decide, by decide⟩, _, rfl, b, _, 1, _, rfl, rfl, SqL.of upd_same, rfl, _, _, rfl, rfl, .inl ⟨_, rfl, _, _, rfl, rfl, (by show (0 : Int) < _; decide), _, _, rfl, rfl, ⟨by decide, by decide⟩, _, rfl, _, _, rfl, rfl, hn0, ?_⟩⟩
    exact q _ _ (Int.emod_nonneg _ (by omega)) (Int.emod_lt_of_pos _ hn0) ⟨⟨_, _, _, hb⟩, ⟨_, _, _, upd_same⟩, fun a o n e => by rw [upd_ne n]; exact e⟩
end
end D0
namespace D0
open PySem PySem.Spec PyProof.Rows L2 SX NumText
theorem Stp.new {b p : Addr} {H : Hp} {o : HO} (x : Bag H b) (h : H p = none) : Stp b H (upd H p o) := Stp.same x (same_new h o)
def letL : List Nat := [97, 98, 99, 100, 101, 102, 103, 104, 105, 106, 107, 108, 109, 110, 111, 112, 113, 114, 115, 116, 117, 118, 119, 120, 121, 122, 65, 66, 67, 68, 69, 70, 71, 72, 73, 74, 75, 76, 77, 78, 79, 80, 81, 82, 83, 84, 85, 86, 87, 88, 89, 90, 95]
def digL : List Nat := [48, 49, 50, 51, 52, 53, 54, 55, 56, 57]
def allL : List Nat := [32, 33, 34, 35, 36, 38, 39, 40, 41, 42, 43, 44, 45, 46, 47, 48, 49, 50, 51, 52, 53, 54, 55, 56, 57, 58, 59, 60, 61, 62, 63, 64, 65, 66, 67, 68, 69, 70, 71, 72, 73, 74, 75, 76, 77, 78, 79, 80, 81, 82, 83, 84, 85, 86, 87, 88, 89, 90, 91, 92, 93, 94, 95, 96, 97, 98, 99, 100, 101, 102, 103, 104, 105, 106, 107, 108, 109, 110, 111, 112, 113, 114, 115, 116, 117, 118, 119, 120, 121, 122, 123, 124, 125, 126, 10]
def spConst (l : List Nat) : Sp := fun vs H Q _ => vs = [] ∧ Q (.str (S l)) H
/-- a text of at most n signs; the bag goes on -/
def spTxt (n : Nat) : Sp := fun vs H Q _ => ∃ (b : Addr), vs = [.ref b] ∧ Bag H b ∧ ∀ (l : List Nat) H', l.length ≤ n → Stp b H H' → Q (.str (S l)) H'
def spStrs (ls : List (List Nat)) : Sp := fun vs H Q _ => vs = [] ∧ ∀ p H', Same H H' → H p = none → H' p = some (.lst (ls.map fun l => V.str (S l))) → Q (.ref p) H'
def KWL : List (List Nat) := KW
section
variable {P : Program} {w : World} {K : PySem.W.Frag} {mg : Str → Option Value} {base : Heap}
theorem ok__law_letters (T : Txt K w mg) : OkD P w K mg base CX0 1 "_law_letters" p__law_letters (spConst letL) := by
  refine T.g__law_letters.ok sc__law_letters (fun vs H Q E h => ?_) (fun f cdv A outer s H vs Q E hr h => ?_)
  · obtain ⟨rfl, _⟩ := h; rfl
  obtain ⟨rfl, q⟩ := h
  refine ⟨_, pss_one (ps_ret pe_str), ?_⟩
  have e : Str.ofString "abcdefghijklmnopqrstuvwxyzABCDEFGHIJKLMNOPQRSTUVWXYZ_" = S letL := by decide +kernel
  show Q (.str (Str.ofString "abcdefghijklmnopqrstuvwxyzABCDEFGHIJKLMNOPQRSTUVWXYZ_")) H
  rw [e]; exact q
theorem ok__law_allowed (T : Txt K w mg) : OkD P w K mg base CX0 1 "_law_allowed" p__law_allowed (spConst allL) := by
  refine T.g__law_allowed.ok sc__law_allowed (fun vs H Q E h => ?_) (fun f cdv A outer s H vs Q E hr h => ?_)
  · obtain ⟨rfl, _⟩ := h; rfl
  obtain ⟨rfl, q⟩ := h
  refine ⟨_, (pss_cons (ps_set (i := 0) sc__law_allowed.nd rfl (.inl rfl) pe_str)
      (pss_one (ps_ret (pe_op op_add_str (pv 0) pe_str)))), ?_⟩
  refine ⟨_, rfl, _, _, rfl, rfl, ?_, ?_⟩
  · decide +kernel
  · have e : (Str.ofString " !\"#$&'()*+,-./0123456789:;<=>?@ABCDEFGHIJKLMNOPQRSTUVWXYZ[\\]^_") ++ (Str.ofString "`abcdefghijklmnopqrstuvwxyz{|}~\n") = S allL := by decide +kernel
    rw [e]; exact q
theorem ok__law_signs (T : Txt K w mg) : OkD P w K mg base CX0 1 "_law_signs" p__law_signs (spStrs SG) := by
  refine T.g__law_signs.ok sc__law_signs (fun vs H Q E h => ?_) (fun f cdv A outer s H vs Q E hr h => ?_)
  · obtain ⟨rfl, _⟩ := h; rfl
  obtain ⟨rfl, q⟩ := h
  refine ⟨_, pss_one (ps_ret (pe_split pe_str pe_str)), ?_⟩
  have e : Txt.split (Str.ofString "//= += -= *= // == != <= >= < > = + - * ( ) [ ] { } , : .") (Str.ofString " ") = SG.map S := by decide +kernel
  refine ⟨⟨_, rfl⟩, _, _, rfl, rfl, by decide +kernel, by decide +kernel, fun p hp => ?_⟩
  rw [e]
  refine q p _ (same_new hp _) hp ?_
  rw [upd_same, List.map_map]; rfl
theorem ok__law_keywords (T : Txt K w mg) : OkD P w K mg base CX0 1 "_law_keywords" p__law_keywords (spStrs KW) := by
  refine T.g__law_keywords.ok sc__law_keywords (fun vs H Q E h => ?_) (fun f cdv A outer s H vs Q E hr h => ?_)
  · obtain ⟨rfl, _⟩ := h; rfl
  obtain ⟨rfl, q⟩ := h
  refine ⟨_, (pss_cons (ps_set (i := 0) sc__law_keywords.nd rfl (.inl rfl) pe_str)
      (pss_cons (ps_set (i := 0) sc__law_keywords.nd rfl (.inl rfl) (pe_op op_add_str (pv 0) pe_str))
      (pss_one (ps_ret (pe_split (pv 0) pe_str))))), ?_⟩
  have e : Txt.split (Str.ofString "and as break class continue def del elif else except False finally for from global if in is" ++ Str.ofString " lambda mod None nonlocal not or pass raise return True try while with yield") (Str.ofString " ") = KW.map S := by decide +kernel
  refine ⟨_, rfl, _, _, rfl, rfl, by decide +kernel, ?_⟩
  refine ⟨_, rfl, ⟨_, rfl⟩, _, _, rfl, rfl, by decide +kernel, by decide +kernel, fun p hp => ?_⟩
  rw [e]
  refine q p _ (same_new hp _) hp ?_
  rw [upd_same, List.map_map]; rfl
theorem ok__law_name (T : Txt K w mg) (Ot : OkD P w K mg base CX0 1 "_law_take" p__law_take spTake) (Ol : OkD P w K mg base CX0 1 "_law_letters" p__law_letters (spConst letL)) : OkD P w K mg base CX0 2 "_law_name" p__law_name (spTxt 31) := by
  refine T.g__law_name.ok sc__law_name (fun vs H Q E h => ?_) (fun f cdv A outer s H vs Q E hr h => ?_)
  · obtain ⟨b, rfl, _⟩ := h; rfl
  obtain ⟨b, rfl, hb, q⟩ := h
  have z : Str.ofString "0123456789" = S digL := by decide +kernel
  have hM : (letL ++ digL).length = 63 := by decide
  have hL : letL.length = 53 := by decide
  have lim : (1000 : Nat) ≤ sizeLine := by decide
  refine split_at 4 (fun t => ∀ (n : Nat) H1, n ≤ 30 → Stp b H H1 → t { nx := fun _ H' => Q .non H', rt := Q } [some (.ref b), some (.str (S letL)), some (.str (S (letL ++ digL))), some (.int (n : Nat)), none, none] H1) ?_ (fun t ht hg => ?_)
  rotate_left
  · refine ⟨_, pss_cons (ps_set (i := 1) sc__law_name.nd rfl (.inl rfl) (pcall0 Ol hr)) (pss_cons (ps_set (i := 2) sc__law_name.nd rfl (.inl rfl) (pe_op op_add_str (pv 1) pe_str)) (pss_cons (ps_set (i := 3) sc__law_name.nd rfl (.inl rfl) (pcall Ot hr (pa_cons (pv 0) (pa_cons pe_int pa_nil)))) (pss_cons (ps_if (pt_cmpR op_eq (pcall Ot hr (pa_cons (pv 0) (pa_cons pe_int pa_nil))) pe_int (nomark _)) (pss_one (ps_set (i := 3) sc__law_name.nd rfl (.inl rfl) (pe_op op_add pe_int (pcall Ot hr (pa_cons (pv 0) (pa_cons pe_int pa_nil)))))) pss_nil) ht))), ?_⟩
    refine ⟨rfl, _, rfl, _, _, rfl, rfl, by rw [z, S_len]; decide, ?_⟩
    rw [z, S_cat]
    refine ⟨_, rfl, b, 6, rfl, hb, by decide, by decide, fun r H1 r0 r1 st => ?_⟩
    refine ⟨_, rfl, b, 24, rfl, st.b1, by decide, by decide, fun r' H2 _ _ st2 => ?_⟩
    refine ⟨rfl, _, rfl, ite2 (fun _ => ?_) (fun _ => ?_)⟩
    · refine ⟨_, rfl, b, 4, rfl, st2.b1, by decide, by decide, fun r2 H3 r20 r21 st3 => ?_⟩
      refine ⟨_, _, rfl, rfl, ?_⟩
      have := hg (27 + r2.toNat) H3 (by omega) (st.trans (st2.trans st3))
      rw [show ((27 + r2.toNat : Nat) : Int) = 27 + r2 by omega] at this
      exact this
    · have := hg r.toNat H2 (by omega) (st.trans st2)
      rw [show ((r.toNat : Nat) : Int) = r by omega] at this
      exact this
  · refine ⟨_, (pss_cons (ps_set (i := 4) sc__law_name.nd rfl (.inl rfl) (pe_ix ix_str (pv 1) (pcall Ot hr (pa_cons (pv 0) (pa_cons pe_int pa_nil))) (fun _ _ => rfl)))
      (pss_cons (ps_for PassesOwn.never rfl (pi_range1 rfl T.z_range (pa_cons (pv 3) pa_nil)) (pg_name (i := 5) sc__law_name.nd rfl (Or.inl rfl)) (pss_one (ps_set (i := 4) sc__law_name.nd rfl (.inl rfl) (pe_op op_add_str (pv 4) (pe_ix ix_str (pv 2) (pcall Ot hr (pa_cons (pv 0) (pa_cons pe_int pa_nil))) (fun _ _ => rfl))))))
      (pss_one (ps_ret (pv 4))))), ?_⟩
    intro n H1 hn st
    refine ⟨_, rfl, _, rfl, b, 53, rfl, st.b1, by decide, by decide, fun r H2 r0 r1 st2 => ?_⟩
    obtain ⟨k, rfl⟩ : ∃ k : Nat, r = (k : Int) := ⟨r.toNat, by omega⟩
    have gk : letL[k]? = some (letL[k]'(by omega)) := List.getElem?_eq_getElem (by omega)
    generalize letL[k]'_ = c1 at gk
    refine ⟨S letL, _, c1, rfl, rfl, by rw [S_len, hL]; omega, at_S gk, ?_⟩
    refine ⟨_, rfl, (n : Int), rfl, by omega, by omega, ?_⟩
    refine for_range (lo := 0) (n := (n : Int).toNat) (fun i σ H' => ∃ (l : List Nat) (y : Option V), σ = [some (.ref b), some (.str (S letL)), some (.str (S (letL ++ digL))), some (.int (n : Nat)), some (.str (S l)), y] ∧ Stp b H H' ∧ l.length = i + 1) ⟨[c1], none, rfl, st.trans st2, rfl⟩ ?_ ?_
    · rintro i σ H3 hi ⟨l, y, rfl, st3, hlen⟩
      refine ⟨_, rfl, _, rfl, _, rfl, b, 63, rfl, st3.b1, by decide, by decide, fun r H4 r0 r1 st4 => ?_⟩
      obtain ⟨k, rfl⟩ : ∃ k : Nat, r = (k : Int) := ⟨r.toNat, by omega⟩
      have gk : (letL ++ digL)[k]? = some ((letL ++ digL)[k]'(by omega)) := List.getElem?_eq_getElem (by omega)
      generalize (letL ++ digL)[k]'_ = c2 at gk
      refine ⟨S (letL ++ digL), _, c2, rfl, rfl, by rw [S_len, hM]; omega, at_S gk, ?_⟩
      refine ⟨_, _, rfl, rfl, ?_, ?_⟩
      · show (S l).length + (S [c2]).length ≤ _; rw [S_len, S_len]; show _ + 1 ≤ _; omega
      · exact ⟨l ++ [c2], _, by rw [← S_cat l [c2]]; rfl, st3.trans st4, by rw [List.length_append, hlen]; rfl⟩
    · rintro σ H3 ⟨l, y, rfl, st3, hlen⟩
      exact ⟨_, rfl, q l H3 (by omega) st3⟩
end
end D0
namespace D0
open PySem PySem.Spec PyProof.Rows L2 SX NumText
section
variable {P : Program} {w : World} {K : PySem.W.Frag} {mg : Str → Option Value} {base : Heap}
theorem ok__law_figures (T : Txt K w mg) (Ot : OkD P w K mg base CX0 1 "_law_take" p__law_take spTake) : OkD P w K mg base CX0 2 "_law_figures" p__law_figures (spTxt 41) := by
  refine T.g__law_figures.ok sc__law_figures (fun vs H Q E h => ?_) (fun f cdv A outer s H vs Q E hr h => ?_)
  · obtain ⟨b, rfl, _⟩ := h; rfl
  obtain ⟨b, rfl, hb, q⟩ := h
  have z : Str.ofString "0123456789" = S digL ∧ Str.ofString "1234567890" = S [49, 50, 51, 52, 53, 54, 55, 56, 57, 48] := by decide +kernel
  have hD : digL.length = 10 := by decide
  have lim : (1000 : Nat) ≤ sizeLine := by decide
  refine split_at 2 (fun t => ∀ (n : Nat) H1, n ≤ 40 → Stp b H H1 → t { nx := fun _ H' => Q .non H', rt := Q } [some (.ref b), some (.int (n : Nat)), none, none] H1) ?_ (fun t ht hg => ?_)
  rotate_left
  · refine ⟨_, pss_cons (ps_set (i := 1) sc__law_figures.nd rfl (.inl rfl) (pcall Ot hr (pa_cons (pv 0) (pa_cons pe_int pa_nil)))) (pss_cons (ps_if (pt_cmpR op_eq (pcall Ot hr (pa_cons (pv 0) (pa_cons pe_int pa_nil))) pe_int (nomark _)) (pss_one (ps_set (i := 1) sc__law_figures.nd rfl (.inl rfl) (pe_op op_add pe_int (pcall Ot hr (pa_cons (pv 0) (pa_cons pe_int pa_nil)))))) pss_nil) ht), ?_⟩
    refine ⟨_, rfl, b, 5, rfl, hb, by decide, by decide, fun r H1 r0 r1 st => ?_⟩
    refine ⟨_, rfl, b, 16, rfl, st.b1, by decide, by decide, fun r' H2 _ _ st2 => ?_⟩
    refine ⟨rfl, _, rfl, ite2 (fun _ => ?_) (fun _ => ?_)⟩
    · refine ⟨_, rfl, b, 4, rfl, st2.b1, by decide, by decide, fun r2 H3 r20 r21 st3 => ?_⟩
      refine ⟨_, _, rfl, rfl, ?_⟩
      have := hg (37 + r2.toNat) H3 (by omega) (st.trans (st2.trans st3))
      rw [show ((37 + r2.toNat : Nat) : Int) = 37 + r2 by omega] at this
      exact this
    · have := hg r.toNat H2 (by omega) (st.trans st2)
      rw [show ((r.toNat : Nat) : Int) = r by omega] at this
      exact this
  · refine ⟨_, (pss_cons (ps_set (i := 2) sc__law_figures.nd rfl (.inl rfl) (pe_ix ix_str pe_str (pcall Ot hr (pa_cons (pv 0) (pa_cons pe_int pa_nil))) (fun _ _ => rfl)))
      (pss_cons (ps_if (pt_cmpR op_eq (pv 2) pe_str (nomark _)) (pss_one (ps_ret (pv 2))) pss_nil)
      (pss_cons (ps_for PassesOwn.never rfl (pi_range1 rfl T.z_range (pa_cons (pv 1) pa_nil)) (pg_name (i := 3) sc__law_figures.nd rfl (Or.inl rfl)) (pss_one (ps_set (i := 2) sc__law_figures.nd rfl (.inl rfl) (pe_op op_add_str (pv 2) (pe_ix ix_str pe_str (pcall Ot hr (pa_cons (pv 0) (pa_cons pe_int pa_nil))) (fun _ _ => rfl))))))
      (pss_one (ps_ret (pv 2)))))), ?_⟩
    intro n H1 hn st
    refine ⟨_, rfl, b, 10, rfl, st.b1, by decide, by decide, fun r H2 r0 r1 st2 => ?_⟩
    obtain ⟨k, rfl⟩ : ∃ k : Nat, r = (k : Int) := ⟨r.toNat, by omega⟩
    have gk : ([49, 50, 51, 52, 53, 54, 55, 56, 57, 48] : List Nat)[k]? = some (([49, 50, 51, 52, 53, 54, 55, 56, 57, 48] : List Nat)[k]'(by simp; omega)) := List.getElem?_eq_getElem (by simp; omega)
    generalize ([49, 50, 51, 52, 53, 54, 55, 56, 57, 48] : List Nat)[k]'_ = c1 at gk
    refine ⟨S [49, 50, 51, 52, 53, 54, 55, 56, 57, 48], _, c1, by rw [← z.2], rfl, by rw [S_len]; show 10 ≤ sizeLine; omega, at_S gk, ?_⟩
    refine ⟨_, rfl, rfl, _, rfl, ite2 (fun _ => ?_) (fun _ => ?_)⟩
    · exact ⟨_, rfl, q [c1] H2 (by show 1 ≤ 41; decide) (st.trans st2)⟩
    refine ⟨_, rfl, (n : Int), rfl, by omega, by omega, ?_⟩
    refine for_range (lo := 0) (n := (n : Int).toNat) (fun i σ H' => ∃ (l : List Nat) (y : Option V), σ = [some (.ref b), some (.int (n : Nat)), some (.str (S l)), y] ∧ Stp b H H' ∧ l.length = i + 1) ⟨[c1], none, rfl, st.trans st2, rfl⟩ ?_ ?_
    · rintro i σ H3 hi ⟨l, y, rfl, st3, hlen⟩
      refine ⟨_, rfl, _, rfl, b, 10, rfl, st3.b1, by decide, by decide, fun r H4 r0 r1 st4 => ?_⟩
      obtain ⟨k, rfl⟩ : ∃ k : Nat, r = (k : Int) := ⟨r.toNat, by omega⟩
      have gk : digL[k]? = some (digL[k]'(by omega)) := List.getElem?_eq_getElem (by omega)
      generalize digL[k]'_ = c2 at gk
      refine ⟨S digL, _, c2, by rw [← z.1], rfl, by rw [S_len, hD]; omega, at_S gk, ?_⟩
      refine ⟨_, _, rfl, rfl, ?_, ?_⟩
      · show (S l).length + (S [c2]).length ≤ _; rw [S_len, S_len]; show _ + 1 ≤ _; omega
      · exact ⟨l ++ [c2], _, by rw [← S_cat l [c2]]; rfl, st3.trans st4, by rw [List.length_append, hlen]; rfl⟩
    · rintro σ H3 ⟨l, y, rfl, st3, hlen⟩
      exact ⟨_, rfl, q l H3 (by omega) st3⟩
theorem ok__law_comment (T : Txt K w mg) (Ot : OkD P w K mg base CX0 1 "_law_take" p__law_take spTake) (Oa : OkD P w K mg base CX0 1 "_law_allowed" p__law_allowed (spConst allL)) : OkD P w K mg base CX0 2 "_law_comment" p__law_comment (spTxt 7) := by
  refine T.g__law_comment.ok sc__law_comment (fun vs H Q E h => ?_) (fun f cdv A outer s H vs Q E hr h => ?_)
  · obtain ⟨b, rfl, _⟩ := h; rfl
  obtain ⟨b, rfl, hb, q⟩ := h
  have z : Str.ofString "#" = S [35] := by decide +kernel
  have hL : allL.length = 95 := by decide
  have lim : (1000 : Nat) ≤ sizeLine := by decide
  refine ⟨_, (pss_cons (ps_set (i := 1) sc__law_comment.nd rfl (.inl rfl) pe_str)
      (pss_cons (ps_set (i := 2) sc__law_comment.nd rfl (.inl rfl) (pcall0 Oa hr))
      (pss_cons (ps_for PassesOwn.never rfl (pi_range1 rfl T.z_range (pa_cons (pcall Ot hr (pa_cons (pv 0) (pa_cons pe_int pa_nil))) pa_nil)) (pg_name (i := 3) sc__law_comment.nd rfl (Or.inl rfl))
    (pss_one (ps_set (i := 1) sc__law_comment.nd rfl (.inl rfl) (pe_op op_add_str (pv 1) (pe_ix ix_str (pv 2) (pcall Ot hr (pa_cons (pv 0) (pa_cons (pe_op op_sub (pe_callB call_len_str (by rfl) T.z_len PySem.boot_len (pa_cons (pv 2) pa_nil)) pe_int) pa_nil))) (fun _ _ => rfl))))))
      (pss_one (ps_ret (pv 1)))))), ?_⟩
  refine ⟨rfl, ?_⟩
  refine ⟨_, rfl, b, 7, rfl, hb, by decide, by decide, fun r H2 r0 r1 st => ?_⟩
  refine ⟨r, rfl, by omega, by omega, ?_⟩
  refine for_range (lo := 0) (n := r.toNat) (fun i σ H' => ∃ (l : List Nat) (y : Option V), σ = [some (.ref b), some (.str (S l)), some (.str (S allL)), y] ∧ Stp b H H' ∧ l.length = i + 1) ⟨[35], none, by rw [← z]; rfl, st, rfl⟩ ?_ ?_
  · rintro i σ H3 hi ⟨l, y, rfl, st3, hlen⟩
    refine ⟨_, rfl, _, rfl, _, rfl, _, rfl, _, rfl, by rw [S_len, hL]; omega, _, _, rfl, rfl, b, 94, by rw [S_len, hL]; rfl, st3.b1, by decide, by decide, fun r H4 r0 r1 st4 => ?_⟩
    obtain ⟨k, rfl⟩ : ∃ k : Nat, r = (k : Int) := ⟨r.toNat, by omega⟩
    have gk : allL[k]? = some (allL[k]'(by omega)) := List.getElem?_eq_getElem (by omega)
    generalize allL[k]'_ = c2 at gk
    refine ⟨S allL, _, c2, rfl, rfl, by rw [S_len, hL]; omega, at_S gk, ?_⟩
    refine ⟨_, _, rfl, rfl, ?_, ?_⟩
    · show (S l).length + (S [c2]).length ≤ _; rw [S_len, S_len]; show _ + 1 ≤ _; omega
    · exact ⟨l ++ [c2], _, by rw [← S_cat l [c2]]; rfl, st3.trans st4, by rw [List.length_append, hlen]; rfl⟩
  · rintro σ H3 ⟨l, y, rfl, st3, hlen⟩
    exact ⟨_, rfl, q l H3 (by omega) st3⟩
end
end D0
namespace D0
open PySem PySem.Spec PyProof.Rows L2 SX NumText
section
variable {P : Program} {w : World} {K : PySem.W.Frag} {mg : Str → Option Value} {base : Heap}
theorem ok__law_quoted (T : Txt K w mg) (Ot : OkD P w K mg base CX0 1 "_law_take" p__law_take spTake) (Oa : OkD P w K mg base CX0 1 "_law_allowed" p__law_allowed (spConst allL)) : OkD P w K mg base CX0 2 "_law_quoted" p__law_quoted (spTxt 40) := by
  refine T.g__law_quoted.ok sc__law_quoted (fun vs H Q E h => ?_) (fun f cdv A outer s H vs Q E hr h => ?_)
  · obtain ⟨b, rfl, _⟩ := h; rfl
  obtain ⟨b, rfl, hb, q⟩ := h
  have z : Str.ofString "\"'" = S [34, 39] ∧ Str.ofString "\\n" = S [92, 110] ∧ Str.ofString "\\" = S [92] ∧ Str.ofString "\n" = S [10] := by decide +kernel
  have hL : allL.length = 95 := by decide
  have lim : (1000 : Nat) ≤ sizeLine := by decide
  refine ⟨_, (pss_cons (ps_set (i := 1) sc__law_quoted.nd rfl (.inl rfl) (pe_ix ix_str pe_str (pcall Ot hr (pa_cons (pv 0) (pa_cons pe_int pa_nil))) (fun _ _ => rfl)))
      (pss_cons (ps_set (i := 2) sc__law_quoted.nd rfl (.inl rfl) (pcall0 Oa hr))
      (pss_cons (ps_set (i := 3) sc__law_quoted.nd rfl (.inl rfl) (pv 1))
      (pss_cons (ps_for PassesOwn.never rfl (pi_range1 rfl T.z_range (pa_cons (pcall Ot hr (pa_cons (pv 0) (pa_cons pe_int pa_nil))) pa_nil)) (pg_name (i := 4) sc__law_quoted.nd rfl (Or.inl rfl))
    (pss_cons (ps_set (i := 5) sc__law_quoted.nd rfl (.inl rfl) (pe_ix ix_str (pv 2) (pcall Ot hr (pa_cons (pv 0) (pa_cons (pe_callB call_len_str (by rfl) T.z_len PySem.boot_len (pa_cons (pv 2) pa_nil)) pa_nil))) (fun _ _ => rfl)))
      (pss_cons (ps_if (pt_cmpR op_eq (pv 5) pe_str (nomark _)) (pss_one (ps_set (i := 5) sc__law_quoted.nd rfl (.inl rfl) pe_str)) (pss_one (ps_if (PW.pt (pw_or (pt_cmpR op_eq (pv 5) pe_str (nomark _)) (pw_or (pt_cmpR op_eq (pv 5) (pv 1) (nomark _)) (pw_or1 (PW.pt (pw_and (pt_cmpR op_in_sign (pv 5) pe_str (by rfl)) (pw_and1 (pt_cmpR op_eq (pcall Ot hr (pa_cons (pv 0) (pa_cons pe_int pa_nil))) pe_int (nomark _))))))))) (pss_one (ps_set (i := 5) sc__law_quoted.nd rfl (.inl rfl) (pe_op op_add_str pe_str (pv 5)))) pss_nil)))
      (pss_one (ps_set (i := 3) sc__law_quoted.nd rfl (.inl rfl) (pe_op op_add_str (pv 3) (pv 5)))))))
      (pss_one (ps_ret (pe_op op_add_str (pv 3) (pv 1)))))))), ?_⟩
  refine ⟨_, rfl, b, 2, rfl, hb, by decide, by decide, fun r H1 r0 r1 st => ?_⟩
  obtain ⟨k, rfl⟩ : ∃ k : Nat, r = (k : Int) := ⟨r.toNat, by omega⟩
  have gk : ([34, 39] : List Nat)[k]? = some (([34, 39] : List Nat)[k]'(by simp; omega)) := List.getElem?_eq_getElem (by simp; omega)
  generalize ([34, 39] : List Nat)[k]'_ = cq at gk
  refine ⟨S [34, 39], _, cq, by rw [← z.1], rfl, by rw [S_len]; show 2 ≤ sizeLine; omega, at_S gk, ?_⟩
  refine ⟨rfl, _, rfl, ?_⟩
  refine ⟨_, rfl, b, 8, rfl, st.b1, by decide, by decide, fun r H2 r0 r1 st2 => ?_⟩
  refine ⟨r, rfl, by omega, by omega, ?_⟩
  refine for_range (lo := 0) (n := r.toNat) (fun i σ H' => ∃ (l : List Nat) (y y2 : Option V), σ = [some (.ref b), some (.str (S [cq])), some (.str (S allL)), some (.str (S l)), y, y2] ∧ Stp b H H' ∧ l.length ≤ 1 + 2 * i) ⟨[cq], none, none, rfl, st.trans st2, Nat.le_refl _⟩ ?_ ?_
  · rintro i σ H3 hi ⟨l, y, y2, rfl, st3, hlen⟩
    refine ⟨_, rfl, _, rfl, _, rfl, _, rfl, by rw [S_len, hL]; omega, b, 95, by rw [S_len, hL]; rfl, st3.b1, by decide, by decide, fun r H4 r0 r1 st4 => ?_⟩
    obtain ⟨k, rfl⟩ : ∃ k : Nat, r = (k : Int) := ⟨r.toNat, by omega⟩
    have gk : allL[k]? = some (allL[k]'(by omega)) := List.getElem?_eq_getElem (by omega)
    generalize allL[k]'_ = c2 at gk
    refine ⟨S allL, _, c2, rfl, rfl, by rw [S_len, hL]; omega, at_S gk, ?_⟩
    have fin : ∀ (m : List Nat) (H5 : Hp), m.length ≤ 2 → Stp b H H5 → (S l).length + (S m).length ≤ sizeLine ∧ ∃ (l' : List Nat) (y y2 : Option V), [some (V.ref b), some (V.str (S [cq])), some (V.str (S allL)), some (V.str (S l ++ S m)), some (V.int (0 + (i : Int))), some (V.str (S m))] = [some (.ref b), some (.str (S [cq])), some (.str (S allL)), some (.str (S l')), y, y2] ∧ Stp b H H5 ∧ l'.length ≤ 1 + 2 * (i + 1) := fun m H5 hm st5 => by
      refine ⟨by rw [S_len, S_len]; omega, l ++ m, _, _, by rw [S_cat], st5, by rw [List.length_append]; omega⟩
    have two : (S [92]).length + (S [c2]).length ≤ sizeLine := by rw [S_len, S_len]; show 1 + 1 ≤ _; omega
    have esc : ∀ H5, Stp b H H5 → (Str.ofString "\\").length + (S [c2]).length ≤ sizeLine ∧ (S l).length + ((Str.ofString "\\") ++ S [c2]).length ≤ sizeLine ∧ ∃ (l' : List Nat) (y y2 : Option V), [some (V.ref b), some (V.str (S [cq])), some (V.str (S allL)), some (V.str (S l ++ ((Str.ofString "\\") ++ S [c2]))), some (V.int (0 + (i : Int))), some (V.str ((Str.ofString "\\") ++ S [c2]))] = [some (.ref b), some (.str (S [cq])), some (.str (S allL)), some (.str (S l')), y, y2] ∧ Stp b H H5 ∧ l'.length ≤ 1 + 2 * (i + 1) := fun H5 st5 => by
      rw [z.2.2.1, S_cat [92] [c2]]
      exact ⟨two, fin ([92] ++ [c2]) H5 (by show 2 ≤ 2; decide) st5⟩
    refine ⟨_, rfl, rfl, _, rfl, ite2 (fun _ => ?_) (fun _ => ?_)⟩
    · have h := fin [92, 110] H4 (by show 2 ≤ 2; decide) (st3.trans st4)
      rw [← z.2.1] at h
      exact ⟨_, rfl, _, rfl, _, _, rfl, rfl, h.1, h.2⟩
    have h1 := fin [c2] H4 (by show 1 ≤ 2; decide) (st3.trans st4)
    refine ⟨_, rfl, rfl, _, rfl, ite2 (fun _ => ?_) (fun _ => ?_)⟩
    · have h := esc H4 (st3.trans st4)
      exact iteT ⟨_, rfl, _, _, rfl, rfl, h.1, _, rfl, _, rfl, _, _, rfl, rfl, h.2.1, h.2.2⟩
    refine ⟨_, rfl, _, rfl, rfl, _, rfl, ite2 (fun _ => ?_) (fun _ => ?_)⟩
    · have h := esc H4 (st3.trans st4)
      exact iteT ⟨_, rfl, _, _, rfl, rfl, h.1, _, rfl, _, rfl, _, _, rfl, rfl, h.2.1, h.2.2⟩
    refine ⟨_, rfl, _, _, rfl, rfl, _, rfl, ite2 (fun _ => ?_) (fun _ => ?_)⟩
    · refine ⟨_, rfl, b, 2, rfl, st4.b1, by decide, by decide, fun r H5 _ _ st5 => ⟨rfl, _, rfl, ?_⟩⟩
      refine ite2 (fun _ => ?_) (fun _ => ?_)
      · have h := esc H5 (st3.trans (st4.trans st5))
        exact ⟨_, rfl, _, _, rfl, rfl, h.1, _, rfl, _, rfl, _, _, rfl, rfl, h.2.1, h.2.2⟩
      · have h := fin [c2] H5 (by show 1 ≤ 2; decide) (st3.trans (st4.trans st5))
        exact ⟨_, rfl, _, rfl, _, _, rfl, rfl, h.1, h.2⟩
    · exact iteF ⟨_, rfl, _, rfl, _, _, rfl, rfl, h1.1, h1.2⟩
  · rintro σ H3 ⟨l, y, y2, rfl, st3, hlen⟩
    refine ⟨_, rfl, _, rfl, _, _, rfl, rfl, by show (S l).length + (S [cq]).length ≤ _; rw [S_len, S_len]; show _ + 1 ≤ _; omega, ?_⟩
    have := q (l ++ [cq]) H3 (by rw [List.length_append]; show _ + 1 ≤ 40; omega) st3
    rw [← S_cat l [cq]] at this
    exact this
end
end D0
namespace D0
open PySem PySem.Spec PyProof.Rows L2 SX NumText
def BRL : List (List Nat) := [[40], [41], [91], [93], [123], [125]]
theorem SG_nb : (SG.filter fun s => !decide (s ∈ BRL)).length = 18 ∧ ∀ s ∈ SG.filter (fun s => !decide (s ∈ BRL)), s.length ≤ 3 := by decide
theorem KW_len : ∀ s ∈ KW, s.length ≤ 8 := by decide
section
variable {P : Program} {w : World} {K : PySem.W.Frag} {mg : Str → Option Value} {base : Heap}
theorem ok__law_word (T : Txt K w mg) (Ot : OkD P w K mg base CX0 1 "_law_take" p__law_take spTake) (Os : OkD P w K mg base CX0 1 "_law_signs" p__law_signs (spStrs SG)) (Ok : OkD P w K mg base CX0 1 "_law_keywords" p__law_keywords (spStrs KW))
    (On : OkD P w K mg base CX0 2 "_law_name" p__law_name (spTxt 31)) (Of : OkD P w K mg base CX0 2 "_law_figures" p__law_figures (spTxt 41)) (Oq : OkD P w K mg base CX0 2 "_law_quoted" p__law_quoted (spTxt 40)) :
    OkD P w K mg base CX0 3 "_law_word" p__law_word (spTxt 41) := by
  refine T.g__law_word.ok sc__law_word (fun vs H Q E h => ?_) (fun f cdv A outer s H vs Q E hr h => ?_)
  · obtain ⟨b, rfl, _⟩ := h; rfl
  obtain ⟨b, rfl, hb, q⟩ := h
  have lim : (1000 : Nat) ≤ sizeLine := by decide
  have zb : Str.ofString "(" = S [40] ∧ Str.ofString ")" = S [41] ∧ Str.ofString "[" = S [91] ∧ Str.ofString "]" = S [93] ∧ Str.ofString "{" = S [123] ∧ Str.ofString "}" = S [125] := by decide +kernel
  refine ⟨_, (pss_cons (ps_set (i := 1) sc__law_word.nd rfl (.inl rfl) (pcall Ot hr (pa_cons (pv 0) (pa_cons pe_int pa_nil))))
      (pss_cons (ps_if (pt_cmpR op_lt (pv 1) pe_int (nomark _)) (pss_one (ps_ret (pcall On hr (pa_cons (pv 0) pa_nil)))) pss_nil)
      (pss_cons (ps_if (pt_cmpR op_eq (pv 1) pe_int (nomark _)) (pss_cons (ps_set (i := 2) sc__law_word.nd rfl (.inl rfl) (pcall0 Ok hr))
      (pss_one (ps_ret (pe_ix ix_list (pv 2) (pcall Ot hr (pa_cons (pv 0) (pa_cons (pe_callB call_len_seq (by rfl) T.z_len PySem.boot_len (pa_cons (pv 2) pa_nil)) pa_nil))) (fun _ _ => rfl))))) pss_nil)
      (pss_cons (ps_if (pt_cmpR op_lt (pv 1) pe_int (nomark _)) (pss_one (ps_ret (pcall Of hr (pa_cons (pv 0) pa_nil)))) pss_nil)
      (pss_cons (ps_if (pt_cmpR op_lt (pv 1) pe_int (nomark _)) (pss_one (ps_ret (pcall Oq hr (pa_cons (pv 0) pa_nil)))) pss_nil)
      (pss_cons (ps_setLc (i := 3) (own := [("sign", 4)]) (g := gName 4) (by rfl) sc__law_word.nd rfl rfl (sw_true rfl rfl rfl (by decide +kernel)) (pi_list (pcall0 Os hr)) (blkOk_by (own := [("sign", 4)]) (N := n__law_word) (sc := defScope s__law_word) (by decide +kernel))
        (fun _ _ _ _ _ => (pg_name (i := 4) sc__law_word.nd rfl (Or.inl rfl))) (fun _ _ _ _ _ => pts_one (pt_cmpR (show OpR _ _ (rIn K true) from op_notIn_seq) (pv 4) (pe_lst (pa_cons pe_str (pa_cons pe_str (pa_cons pe_str (pa_cons pe_str (pa_cons pe_str (pa_cons pe_str pa_nil))))))) (by rfl))) (fun _ _ _ _ _ => pv 4))
      (pss_one (ps_ret (pe_ix ix_list (pv 3) (pcall Ot hr (pa_cons (pv 0) (pa_cons (pe_callB call_len_seq (by rfl) T.z_len PySem.boot_len (pa_cons (pv 3) pa_nil)) pa_nil))) (fun _ _ => rfl)))))))))), ?_⟩
  refine ⟨_, rfl, b, 10, rfl, hb, by decide, by decide, fun r H1 r0 r1 st => ?_⟩
  refine ⟨_, rfl, _, _, rfl, rfl, _, rfl, ite2 (fun _ => ?_) (fun _ => ?_)⟩
  · exact ⟨_, rfl, b, rfl, st.b1, fun l H' hl st2 => q l H' (by omega) (st.trans st2)⟩
  refine ⟨_, rfl, rfl, _, rfl, ite2 (fun _ => ?_) (fun _ => ?_)⟩
  · refine ⟨rfl, fun p H2 sm hp hpl => ?_⟩
    have st2 := Stp.same st.b1 sm
    refine ⟨_, rfl, _, rfl, _, rfl, p, _, rfl, .inl (SqL.of hpl), b, 32, by rw [List.length_map]; rfl, st2.b1, by decide, by decide, fun r H3 r0 r1 st3 => ?_⟩
    obtain ⟨k, rfl⟩ : ∃ k : Nat, r = (k : Int) := ⟨r.toNat, by omega⟩
    have hk : k < KW.length := by show k < 32; omega
    have gk : KW[k]? = some KW[k] := List.getElem?_eq_getElem hk
    have hpl3 := st3.keep p _ (Ne.symm (fun z => by rw [← z] at hp; obtain ⟨_, _, _, e⟩ := st.b1; rw [hp] at e; cases e)) hpl
    refine ⟨p, _, _, .str (S KW[k]), rfl, rfl, SqL.of hpl3, atI_nat (by rw [List.getElem?_map, gk]; rfl), ?_⟩
    exact q KW[k] H3 (by have := KW_len _ (List.getElem_mem hk); omega) (st.trans (st2.trans st3))
  refine ⟨_, rfl, _, _, rfl, rfl, _, rfl, ite2 (fun _ => ?_) (fun _ => ?_)⟩
  · exact ⟨_, rfl, b, rfl, st.b1, fun l H' hl st2 => q l H' (by omega) (st.trans st2)⟩
  refine ⟨_, rfl, _, _, rfl, rfl, _, rfl, ite2 (fun _ => ?_) (fun _ => ?_)⟩
  · exact ⟨_, rfl, b, rfl, st.b1, fun l H' hl st2 => q l H' (by omega) (st.trans st2)⟩
  refine ⟨rfl, fun p H2 sm hp hpl => ?_⟩
  refine ⟨p, rfl, ⟨_, SqL.of hpl⟩, fun D hD => ?_⟩
  have smD : Same H1 (upd H2 D (.lst [])) := sm.trans (same_new hD _)
  refine lc_it (walk_list (xs := SG.map fun l => V.str (S l))) (fun i H' => Same H2 H' ∧ H' D = some (.lst (((SG.take i).filter fun s => !decide (s ∈ BRL)).map fun d => V.str (S d)))) ⟨same_new hD _, upd_same⟩ (fun i H' _ h => SqL.of (h.1 _ _ hpl)) ?_ ?_
  · rintro i x H3 H4 hi ⟨sm3, hl3⟩ ⟨rfl, hx⟩
    rw [List.getElem?_map] at hx
    obtain ⟨sg, hs, rfl⟩ := Option.map_eq_some_iff.mp hx
    refine ⟨rfl, ?_⟩
    have hdisp : ([.str (Str.ofString "("), .str (Str.ofString ")"), .str (Str.ofString "["), .str (Str.ofString "]"), .str (Str.ofString "{"), .str (Str.ofString "}")] : List V) = BRL.map fun l => V.str (S l) := by
      rw [zb.1, zb.2.1, zb.2.2.1, zb.2.2.2.1, zb.2.2.2.2.1, zb.2.2.2.2.2]; rfl
    refine ⟨_, rfl, by show 6 ≤ sizeLine; omega, fun g hg => ?_⟩
    refine ⟨g, BRL.map fun l => V.str (S l), rfl, .inl (SqL.of (by rw [upd_same, ← hdisp])), rfl, flat_strs BRL, _, rfl, ?_⟩
    have e2 := in_strs sg BRL
    have sm4 : Same H2 (upd H4 g (.lst [.str (Str.ofString "("), .str (Str.ofString ")"), .str (Str.ofString "["), .str (Str.ofString "]"), .str (Str.ofString "{"), .str (Str.ofString "}")])) := sm3.trans (same_new hg _)
    have hl4 := (same_new hg (.lst [.str (Str.ofString "("), .str (Str.ofString ")"), .str (Str.ofString "["), .str (Str.ofString "]"), .str (Str.ofString "{"), .str (Str.ofString "}")])) _ _ hl3
    have hf : (SG.take (i + 1)).filter (fun s => !decide (s ∈ BRL)) = (SG.take i).filter (fun s => !decide (s ∈ BRL)) ++ (if (!decide (sg ∈ BRL)) = true then [sg] else []) := by
      rw [List.take_add_one, hs, List.filter_append]
      congr 1
      show List.filter _ [sg] = _
      rw [List.filter_cons, List.filter_nil]
    by_cases c : sg ∈ BRL
    · refine iteF' (by show (!inV _ _) = false; rw [e2, decide_eq_true c]; rfl) ⟨sm4, ?_⟩
      rw [hf, if_neg (by rw [decide_eq_true c]; exact Bool.false_ne_true), List.append_nil]
      exact hl4
    · refine iteT' (by show (!inV _ _) = true; rw [e2, decide_eq_false c]; rfl) ?_
      refine ⟨_, rfl, _, hl4, ?_, same_upd sm4 hD, ?_⟩
      · rw [List.length_map]
        have h1 := List.length_filter_le (fun s => !decide (s ∈ BRL)) (SG.take i)
        have h2 := (List.take_prefix i SG).length_le
        have h3 : SG.length = 24 := rfl
        omega
      · rw [upd_same, hf, if_pos (by rw [decide_eq_false c]; rfl), List.map_append]; rfl
  · rintro H3 ⟨sm3, hl3⟩
    rw [List.length_map, List.take_length] at hl3
    have st3 : Stp b H H3 := st.trans (Stp.same st.b1 (sm.trans sm3))
    refine ⟨_, rfl, _, rfl, _, rfl, D, _, rfl, .inl (SqL.of hl3), b, 18, by rw [List.length_map, SG_nb.1]; rfl, st3.b1, by decide, by decide, fun r H4 r0 r1 st4 => ?_⟩
    obtain ⟨k, rfl⟩ : ∃ k : Nat, r = (k : Int) := ⟨r.toNat, by omega⟩
    have hk : k < (SG.filter fun s => !decide (s ∈ BRL)).length := by rw [SG_nb.1]; omega
    have gk := List.getElem?_eq_getElem hk
    have hm := List.getElem_mem hk
    generalize (SG.filter fun s => !decide (s ∈ BRL))[k]'_ = wd at gk hm
    have nD : D ≠ b := fun z => by
      obtain ⟨_, _, _, e⟩ := (Stp.same st.b1 sm).b1
      rw [z, e] at hD; cases hD
    have hpl3 := st4.keep D _ nD hl3
    refine ⟨D, _, _, .str (S wd), rfl, rfl, SqL.of hpl3, atI_nat (by rw [List.getElem?_map, gk]; rfl), ?_⟩
    exact q wd H4 (by have := SG_nb.2 _ hm; omega) (st3.trans st4)
end
end D0
namespace D0
open PySem PySem.Spec PyProof.Rows L2 SX NumText
def ODD1 : List (List Nat) := [[33], [47], [92], [36], [38], [63], [64], [59], [94], [96], [124], [126], [48, 49], [48, 48], [49, 97], [50, 95], [48, 120]]
theorem odd1 : ([.str (Str.ofString "!"), .str (Str.ofString "/"), .str (Str.ofString "\\"), .str (Str.ofString "$"), .str (Str.ofString "&"), .str (Str.ofString "?"), .str (Str.ofString "@"), .str (Str.ofString ";"), .str (Str.ofString "^"), .str (Str.ofString "`"), .str (Str.ofString "|"), .str (Str.ofString "~"), .str (Str.ofString "01"), .str (Str.ofString "00"), .str (Str.ofString "1a"), .str (Str.ofString "2_"), .str (Str.ofString "0x")] : List V) = ODD1.map fun l => V.str (S l) := by
  have h : [Str.ofString "!", Str.ofString "/", Str.ofString "\\", Str.ofString "$", Str.ofString "&", Str.ofString "?", Str.ofString "@", Str.ofString ";", Str.ofString "^", Str.ofString "`", Str.ofString "|", Str.ofString "~", Str.ofString "01", Str.ofString "00", Str.ofString "1a", Str.ofString "2_", Str.ofString "0x"] = ODD1.map S := by decide +kernel
  have h2 := congrArg (List.map V.str) h
  rw [List.map_map] at h2
  exact h2
def ODD2 : List (List Nat) := [[39], [34, 92, 113, 34], [39, 92, 48, 39], [34, 97, 92], [40], [91], [123], [41], [93], [125], [61, 33], [47, 61], [33, 61], [61]]
theorem odd2 : ([.str (Str.ofString "'"), .str (Str.ofString "\"\\q\""), .str (Str.ofString "'\\0'"), .str (Str.ofString "\"a\\"), .str (Str.ofString "("), .str (Str.ofString "["), .str (Str.ofString "{"), .str (Str.ofString ")"), .str (Str.ofString "]"), .str (Str.ofString "}"), .str (Str.ofString "=!"), .str (Str.ofString "/="), .str (Str.ofString "!="), .str (Str.ofString "=")] : List V) = ODD2.map fun l => V.str (S l) := by
  have h : [Str.ofString "'", Str.ofString "\"\\q\"", Str.ofString "'\\0'", Str.ofString "\"a\\", Str.ofString "(", Str.ofString "[", Str.ofString "{", Str.ofString ")", Str.ofString "]", Str.ofString "}", Str.ofString "=!", Str.ofString "/=", Str.ofString "!=", Str.ofString "="] = ODD2.map S := by decide +kernel
  have h2 := congrArg (List.map V.str) h
  rw [List.map_map] at h2
  exact h2
def ODD3 : List (List Nat) := [[45], [47, 47], [43], [60], [48], [34]]
theorem odd3 : ([.str (Str.ofString "-"), .str (Str.ofString "//"), .str (Str.ofString "+"), .str (Str.ofString "<"), .str (Str.ofString "0"), .str (Str.ofString "\"")] : List V) = ODD3.map fun l => V.str (S l) := by
  have h : [Str.ofString "-", Str.ofString "//", Str.ofString "+", Str.ofString "<", Str.ofString "0", Str.ofString "\""] = ODD3.map S := by decide +kernel
  have h2 := congrArg (List.map V.str) h
  rw [List.map_map] at h2
  exact h2
def ODD : List (List Nat) := ODD1 ++ ODD2 ++ ODD3
theorem ODD_len : ODD.length = 37 ∧ ∀ s ∈ ODD, s.length ≤ 4 := by decide
section
variable {P : Program} {w : World} {K : PySem.W.Frag} {mg : Str → Option Value} {base : Heap}
theorem ok__law_odd (T : Txt K w mg) (Ot : OkD P w K mg base CX0 1 "_law_take" p__law_take spTake) (Oa : OkD P w K mg base CX0 1 "_law_allowed" p__law_allowed (spConst allL)) : OkD P w K mg base CX0 2 "_law_odd" p__law_odd (spTxt 4) := by
  refine T.g__law_odd.ok sc__law_odd (fun vs H Q E h => ?_) (fun f cdv A outer s H vs Q E hr h => ?_)
  · obtain ⟨b, rfl, _⟩ := h; rfl
  obtain ⟨b, rfl, hb, q⟩ := h
  have hL : allL.length = 95 := by decide
  have lim : (1000 : Nat) ≤ sizeLine := by decide
  refine ⟨_, (pss_cons (ps_set (i := 1) sc__law_odd.nd rfl (.inl rfl) (pe_lst (pa_cons pe_str (pa_cons pe_str (pa_cons pe_str (pa_cons pe_str (pa_cons pe_str (pa_cons pe_str (pa_cons pe_str (pa_cons pe_str (pa_cons pe_str (pa_cons pe_str (pa_cons pe_str (pa_cons pe_str (pa_cons pe_str (pa_cons pe_str (pa_cons pe_str (pa_cons pe_str (pa_cons pe_str pa_nil)))))))))))))))))))
      (pss_cons (ps_set (i := 1) sc__law_odd.nd rfl (.inl rfl) (pe_op op_cat (pv 1) (pe_lst (pa_cons pe_str (pa_cons pe_str (pa_cons pe_str (pa_cons pe_str (pa_cons pe_str (pa_cons pe_str (pa_cons pe_str (pa_cons pe_str (pa_cons pe_str (pa_cons pe_str (pa_cons pe_str (pa_cons pe_str (pa_cons pe_str (pa_cons pe_str pa_nil)))))))))))))))))
      (pss_cons (ps_set (i := 1) sc__law_odd.nd rfl (.inl rfl) (pe_op op_cat (pv 1) (pe_lst (pa_cons pe_str (pa_cons pe_str (pa_cons pe_str (pa_cons pe_str (pa_cons pe_str (pa_cons pe_str pa_nil)))))))))
      (pss_cons (ps_if (pt_cmpR op_eq (pcall Ot hr (pa_cons (pv 0) (pa_cons pe_int pa_nil))) pe_int (nomark _)) (pss_cons (ps_set (i := 2) sc__law_odd.nd rfl (.inl rfl) (pcall0 Oa hr))
      (pss_one (ps_ret (pe_ix ix_str (pv 2) (pcall Ot hr (pa_cons (pv 0) (pa_cons (pe_callB call_len_str (by rfl) T.z_len PySem.boot_len (pa_cons (pv 2) pa_nil)) pa_nil))) (fun _ _ => rfl))))) pss_nil)
      (pss_one (ps_ret (pe_ix ix_list (pv 1) (pcall Ot hr (pa_cons (pv 0) (pa_cons (pe_callB call_len_seq (by rfl) T.z_len PySem.boot_len (pa_cons (pv 1) pa_nil)) pa_nil))) (fun _ _ => rfl)))))))), ?_⟩
  refine ⟨by show 17 ≤ sizeLine; omega, fun p1 hp1 => ?_⟩
  have s1 := same_new hp1 (.lst (ODD1.map fun l => V.str (S l)))
  rw [odd1]
  refine ⟨_, rfl, by show 14 ≤ sizeLine; omega, fun p2 hp2 => ?_⟩
  rw [odd2]
  have s2 := s1.trans (same_new hp2 (.lst (ODD2.map fun l => V.str (S l))))
  refine ⟨p1, p2, ODD1.map fun l => V.str (S l), ODD2.map fun l => V.str (S l), rfl, rfl, same_new hp2 _ _ _ upd_same, upd_same, by show 17 + 14 ≤ sizeLine; omega, fun p3 hp3 => ?_⟩
  have s3 := s2.trans (same_new hp3 (.lst ((ODD1.map fun l => V.str (S l)) ++ ODD2.map fun l => V.str (S l))))
  refine ⟨_, rfl, by show 6 ≤ sizeLine; omega, fun p4 hp4 => ?_⟩
  rw [odd3]
  have s4 := s3.trans (same_new hp4 (.lst (ODD3.map fun l => V.str (S l))))
  refine ⟨p3, p4, (ODD1.map fun l => V.str (S l)) ++ ODD2.map fun l => V.str (S l), ODD3.map fun l => V.str (S l), rfl, rfl, same_new hp4 _ _ _ upd_same, upd_same, by show 31 + 6 ≤ sizeLine; omega, fun p5 hp5 => ?_⟩
  have e5 : ((ODD1.map fun l => V.str (S l)) ++ ODD2.map fun l => V.str (S l)) ++ (ODD3.map fun l => V.str (S l)) = ODD.map fun l => V.str (S l) := by unfold ODD; rw [List.map_append, List.map_append]
  rw [e5]
  have s5 := s4.trans (same_new hp5 (.lst (ODD.map fun l => V.str (S l))))
  have hb5 := hb.same s5
  have nb5 : p5 ≠ b := (hb.same s4).ne hp5
  refine ⟨_, rfl, b, 3, rfl, hb5, by decide, by decide, fun r H6 r0 r1 st6 => ⟨rfl, _, rfl, ite2 (fun _ => ?_) (fun _ => ?_)⟩⟩
  · refine ⟨rfl, ?_⟩
    refine ⟨_, rfl, _, rfl, _, rfl, _, rfl, by rw [S_len, hL]; omega, b, 95, by rw [S_len, hL]; rfl, st6.b1, by decide, by decide, fun r H4 r0 r1 st4 => ?_⟩
    obtain ⟨k, rfl⟩ : ∃ k : Nat, r = (k : Int) := ⟨r.toNat, by omega⟩
    have gk : allL[k]? = some (allL[k]'(by omega)) := List.getElem?_eq_getElem (by omega)
    generalize allL[k]'_ = c2 at gk
    refine ⟨S allL, _, c2, rfl, rfl, by rw [S_len, hL]; omega, at_S gk, ?_⟩
    exact q [c2] H4 (by show 1 ≤ 4; decide) ((Stp.same hb s5).trans (st6.trans st4))
  · have hl6 := st6.keep p5 _ nb5 upd_same
    refine ⟨_, rfl, _, rfl, _, rfl, p5, _, rfl, .inl (SqL.of hl6), b, 37, by rw [List.length_map]; rfl, st6.b1, by decide, by decide, fun r H4 r0 r1 st4 => ?_⟩
    obtain ⟨k, rfl⟩ : ∃ k : Nat, r = (k : Int) := ⟨r.toNat, by omega⟩
    have hk : k < ODD.length := by rw [ODD_len.1]; omega
    have gk := List.getElem?_eq_getElem hk
    have hm := List.getElem_mem hk
    generalize ODD[k]'_ = wd at gk hm
    refine ⟨p5, _, _, .str (S wd), rfl, rfl, SqL.of (st4.keep p5 _ nb5 hl6), atI_nat (by rw [List.getElem?_map, gk]; rfl), ?_⟩
    exact q wd H4 (ODD_len.2 _ hm) ((Stp.same hb s5).trans (st6.trans st4))
end
end D0
namespace D0
open PySem PySem.Spec PyProof.Rows L2 SX NumText
def dI (ns : List Nat) : List PyData := ns.map fun n => .int (n : Nat)
theorem dI_dp {K : PySem.W.Frag} {H : Hp} : ∀ ns : List Nat, DpAll K H (ns.map fun n => V.int (n : Nat)) (dI ns)
  | [] => .nil
  | n :: r => .cons (.int _) (dI_dp r)
theorem dI_sh : ∀ ns : List Nat, PyData.canLayAll0 (dI ns) = true ∧ PyData.depthAll (dI ns) ≤ 2
  | [] => ⟨rfl, by decide⟩
  | n :: r => by
    obtain ⟨a, b⟩ := dI_sh r
    unfold dI at a b ⊢
    refine ⟨?_, ?_⟩
    · rw [List.map_cons, PyData.canLayAll0, a]; rfl
    · rw [List.map_cons, PyData.depthAll]
      exact Nat.max_le.mpr ⟨by show PyData.depth (.int _) ≤ 2; unfold PyData.depth; decide, b⟩
theorem dI_shaped (ns : List Nat) : SeqAt.shaped (.list (dI ns)) = true := by
  obtain ⟨a, b⟩ := dI_sh ns
  unfold SeqAt.shaped
  rw [PyData.canLay0, a, PyData.depth]
  exact decide_eq_true (by omega)
theorem dI_nil (ns : List Nat) : PyData.eqv (.list (dI ns)) (.list []) = decide (ns = []) := by
  cases ns with
  | nil => rfl
  | cons d r => rfl
/-- the names of the faults, as the law writes them -/
def erL : Option Er → List Nat
  | none => []
  | some .sign => [66, 97, 100, 83, 105, 103, 110]
  | some .token => [66, 97, 100, 84, 111, 107, 101, 110]
  | some .indent => [66, 97, 100, 73, 110, 100, 101, 110, 116]
  | some .long => [84, 111, 111, 76, 111, 110, 103]
  | some .deep => [84, 111, 111, 68, 101, 101, 112]
def lawBlock (st : List Nat) (w : Nat) : Option Er × List Nat :=
  if st = [] then (if 0 < w then some .indent else none, [0])
  else if st.headD 0 < w then (if 11 < st.length + 1 then some .deep else none, w :: st)
  else (if (popW w st).headD 0 < w then some .indent else none, popW w st)
def spBlock : Sp := fun vs H Q _ => ∃ (a : Addr) (st : List Nat) (n : Nat), vs = [.ref a, .int n] ∧ H a = some (.lst (st.reverse.map fun n => V.int (n : Nat))) ∧ (st = [] ∨ Ind st) ∧
  ∀ H', H' a = some (.lst ((lawBlock st n).2.reverse.map fun n => V.int (n : Nat))) → (∀ b o, b ≠ a → H b = some o → H' b = some o) → Q (.str (S (erL (lawBlock st n).1))) H'
section
variable {P : Program} {w : World} {K : PySem.W.Frag} {mg : Str → Option Value} {base : Heap}
theorem ok__law_block_fault (T : Txt K w mg) : OkD P w K mg base CX0 1 "_law_block_fault" p__law_block_fault spBlock := by
  refine T.g__law_block_fault.ok sc__law_block_fault (fun vs H Q E h => ?_) (fun f cdv A outer sh H vs Q E hr h => ?_)
  · obtain ⟨a, st, n, rfl, _⟩ := h; rfl
  obtain ⟨a, st, n, rfl, ha, hst, q⟩ := h
  have z : Str.ofString "BadIndent" = S (erL (some .indent)) ∧ Str.ofString "TooDeep" = S (erL (some .deep)) ∧ Str.ofString "" = S (erL none) := by decide +kernel
  refine ⟨_, (pss_cons (ps_if (pt_cmpR (op_eqD hr.units) (pv 0) (pe_lst pa_nil) (nomark _)) (pss_cons (ps_expr (pe_bm PySem.F.plainAttrs_list PySem.F.slot_list_append PySem.F.type_list_append mt_append (pv 0) (pa_cons pe_int pa_nil)))
      (pss_one (ps_ret (pe_ifExp (pt_cmpR op_gt (pv 1) pe_int (nomark _)) pe_str pe_str)))) pss_nil)
      (pss_cons (ps_if (pt_cmpR op_gt (pv 1) (pe_ix ix_list (pv 0) (pe_un un_neg pe_int) (fun _ _ => rfl)) (nomark _)) (pss_cons (ps_expr (pe_bm PySem.F.plainAttrs_list PySem.F.slot_list_append PySem.F.type_list_append mt_append (pv 0) (pa_cons (pv 1) pa_nil)))
      (pss_one (ps_ret (pe_ifExp (pt_cmpR op_gt (pe_callB call_len_seq (by rfl) T.z_len PySem.boot_len (pa_cons (pv 0) pa_nil)) pe_int (nomark _)) pe_str pe_str)))) pss_nil)
      (pss_cons (ps_for PassesOwn.never rfl (pi_range1 rfl T.z_range (pa_cons (pe_callB call_len_seq (by rfl) T.z_len PySem.boot_len (pa_cons (pv 0) pa_nil)) pa_nil)) (pg_name (i := 2) sc__law_block_fault.nd rfl (Or.inl rfl)) (pss_one (ps_if (pt_cmpR op_gt (pe_ix ix_list (pv 0) (pe_un un_neg pe_int) (fun _ _ => rfl)) (pv 1) (nomark _)) (pss_one (ps_expr (pe_bm0 PySem.F.plainAttrs_list PySem.F.slot_list_pop PySem.F.type_list_pop mt_pop (pv 0)))) pss_nil)))
      (pss_one (ps_ret (pe_ifExp (pt_cmpR op_lt (pe_ix ix_list (pv 0) (pe_un un_neg pe_int) (fun _ _ => rfl)) (pv 1) (nomark _)) pe_str pe_str)))))), ?_⟩
  refine ⟨_, rfl, Nat.zero_le _, fun p hp => ?_⟩
  have np : a ≠ p := ne_of_none ha hp
  have ha1 : upd H p (.lst []) a = some (.lst (st.reverse.map fun n => V.int (n : Nat))) := by rw [upd_ne np]; exact ha
  have emap : (st.reverse.map fun n => V.int (n : Nat)) = (st.reverse).map fun n => V.int (n : Nat) := rfl
  have k1 : ∀ b o, b ≠ a → H b = some o → upd H p (.lst []) b = some o := fun b o _ e => same_new hp _ _ _ e
  refine ⟨.list (dI st.reverse), .list [], .lst (SqL.of ha1) (dI_dp _), .lst (SqL.of upd_same) .nil, dI_shaped _, by decide, _, rfl, ?_⟩
  rw [dI_nil]
  unfold lawBlock at q
  by_cases c : st = []
  · subst c
    rw [decide_eq_true (show ([] : List Nat).reverse = [] from rfl)]
    rw [if_pos rfl] at q
    refine iteT ⟨_, rfl, .inl ⟨rfl, _, SqL.of ha1⟩, a, _, _, rfl, rfl, ha1, by show 0 < sizeLine; decide, ?_⟩
    have q2 := q (upd (upd H p (.lst [])) a (.lst ([] ++ [V.int 0]))) upd_same (fun b o hb e => by rw [upd_ne hb]; exact k1 b o hb e)
    refine ⟨_, rfl, _, _, rfl, rfl, _, rfl, iteD (b := decide ((0 : Int) < (n : Int))) (fun c => ?_) (fun c => ?_)⟩
    · have c' : 0 < n := by have := of_decide_eq_true c; omega
      rw [if_pos c', ← z.1] at q2; exact q2
    · have c' : ¬ 0 < n := by have := of_decide_eq_false c; omega
      rw [if_neg c', ← z.2.2] at q2; exact q2
  have cr : ¬ st.reverse = [] := fun h => c (List.reverse_eq_nil_iff.mp h)
  rw [decide_eq_false cr]
  rw [if_neg c] at q
  have hI : Ind st := hst.resolve_left c
  refine iteF ?_
  obtain ⟨t0, r0, rfl⟩ : ∃ t0 r0, st = t0 :: r0 := by
    cases st with
    | nil => exact absurd rfl c
    | cons x y => exact ⟨x, y, rfl⟩
  refine ⟨_, rfl, _, rfl, 1, rfl, a, _, -1, _, rfl, rfl, SqL.of ha1, top_at, _, _, rfl, rfl, _, rfl, iteD (b := decide ((t0 : Int) < (n : Int))) (fun c2 => ?_) (fun c2 => ?_)⟩
  · have c' : t0 < n := by have := of_decide_eq_true c2; omega
    rw [if_pos (show (t0 :: r0).headD 0 < n from c')] at q
    have hlen := hI.2
    refine ⟨_, rfl, .inl ⟨rfl, _, SqL.of ha1⟩, _, rfl, a, _, _, rfl, rfl, ha1, ?_, ?_⟩
    · rw [List.length_map, List.length_reverse]
      have : 12 < sizeLine := by decide
      omega
    have eL : (((t0 :: r0).reverse.map fun n => V.int (n : Nat)) ++ [V.int (n : Nat)]) = (n :: t0 :: r0).reverse.map fun n => V.int (n : Nat) := by
      rw [List.reverse_cons (a := n), List.map_append]; rfl
    have q2 := q (upd (upd H p (.lst [])) a (.lst (((t0 :: r0).reverse.map fun n => V.int (n : Nat)) ++ [V.int (n : Nat)]))) (by rw [upd_same, eL]) (fun b o hb e => by rw [upd_ne hb]; exact k1 b o hb e)
    have e2 : decide ((11 : Int) < ((((t0 :: r0).reverse.map fun n => V.int (n : Nat)) ++ [V.int (n : Nat)]).length : Int)) = decide (11 < (t0 :: r0).length + 1) := by
      rw [List.length_append, List.length_map, List.length_reverse]; exact lt_dec (a := 11)
    refine ⟨_, rfl, a, _, rfl, .inl (SqL.of upd_same), _, _, rfl, rfl, _, rfl, ?_⟩
    by_cases c3 : 11 < (t0 :: r0).length + 1
    · refine iteT' (e2.trans (decide_eq_true c3)) ?_
      rw [if_pos c3, ← z.2.1] at q2; exact q2
    · refine iteF' (e2.trans (decide_eq_false c3)) ?_
      rw [if_neg c3, ← z.2.2] at q2; exact q2
  · have c' : ¬ t0 < n := by have := of_decide_eq_false c2; omega
    rw [if_neg (show ¬ (t0 :: r0).headD 0 < n from c')] at q
    refine ⟨_, rfl, a, _, rfl, .inl (SqL.of ha1), _, rfl, ?_, ?_, ?_⟩
    · exact Int.natCast_nonneg _
    · rw [List.length_map, List.length_reverse]
      have := hI.2
      omega
    generalize hst0 : t0 :: r0 = st at *
    have el : (((st.reverse.map fun n => V.int (n : Nat)).length : Nat) : Int).toNat = st.length := by rw [List.length_map, List.length_reverse]; rfl
    refine for_range (lo := 0) (n := (((st.reverse.map fun n => V.int (n : Nat)).length : Nat) : Int).toNat) (fun i σ H' => ∃ (s1 : List Nat) (y : Option V), σ = [some (.ref a), some (.int n), y] ∧ H' a = some (.lst (s1.reverse.map fun n => V.int (n : Nat))) ∧
      (∀ b o, b ≠ a → H b = some o → H' b = some o) ∧ Ind s1 ∧ popW n s1 = popW n st ∧ (s1 = popW n s1 ∨ s1.length + i = st.length)) ⟨st, none, rfl, ha1, k1, hI, rfl, .inr rfl⟩ ?_ ?_
    · rintro i σ H2 hi ⟨s1, y, rfl, hs1, hk, hI1, hp1, hor⟩
      obtain ⟨t1, r1, rfl⟩ : ∃ t1 r1, s1 = t1 :: r1 := by
        cases s1 with
        | nil => exact absurd rfl hI1.ne
        | cons x y => exact ⟨x, y, rfl⟩
      refine ⟨_, rfl, 1, rfl, a, _, -1, _, rfl, rfl, SqL.of hs1, top_at, _, rfl, _, _, rfl, rfl, _, rfl, iteD (b := decide ((n : Int) < (t1 : Int))) (fun c3 => ?_) (fun c3 => ?_)⟩
      · have c4 : n < t1 := by have := of_decide_eq_true c3; omega
        have epop : popW n (t1 :: r1) = popW n r1 := by show (if n < t1 then popW n r1 else t1 :: r1) = _; rw [if_pos c4]
        refine ⟨_, rfl, .inl ⟨rfl, _, SqL.of hs1⟩, a, _, .int (t1 : Nat), rfl, rfl, hs1, ?_, ?_⟩
        · show (((t1 :: r1).reverse.map fun n => V.int (n : Nat)))[((t1 :: r1).reverse.map fun n => V.int (n : Nat)).length - 1]? = some (V.int (t1 : Nat))
          rw [List.reverse_cons, List.map_append, List.length_append, List.getElem?_append_right (by simp)]
          simp
        · refine ⟨r1, _, rfl, ?_, fun b o hb e => by rw [upd_ne hb]; exact hk b o hb e, hI1.tail (by omega), by rw [← epop]; exact hp1, ?_⟩
          · rw [upd_same, List.reverse_cons, List.map_append]; simp
          · rcases hor with h | h
            · rw [epop] at h
              have h1 := congrArg List.length h
              have h2 := (popW_suf n r1).length_le
              simp only [List.length_cons] at h1
              omega
            · exact .inr (by simp only [List.length_cons] at h; omega)
      · have c4 : ¬ n < t1 := by have := of_decide_eq_false c3; omega
        have epop : popW n (t1 :: r1) = t1 :: r1 := by show (if n < t1 then popW n r1 else t1 :: r1) = _; rw [if_neg c4]
        exact ⟨t1 :: r1, _, rfl, hs1, hk, hI1, hp1, .inl epop.symm⟩
    · rintro σ H2 ⟨s1, y, rfl, hs1, hk, hI1, hp1, hor⟩
      have es : s1 = popW n st := by
        rcases hor with h | h
        · rw [← hp1]; exact h
        · rw [el] at h
          exact absurd (List.eq_nil_of_length_eq_zero (by omega)) hI1.ne
      subst es
      obtain ⟨t1, r1, e1⟩ : ∃ t1 r1, popW n st = t1 :: r1 := by
        cases h : popW n st with
        | nil => exact absurd h hI1.ne
        | cons x y => exact ⟨x, y, rfl⟩
      have q2 := q H2 hs1 hk
      rw [e1] at q2 hs1
      refine ⟨_, rfl, 1, rfl, a, _, -1, _, rfl, rfl, SqL.of hs1, top_at, _, rfl, _, _, rfl, rfl, _, rfl, iteD (b := decide ((t1 : Int) < (n : Int))) (fun c3 => ?_) (fun c3 => ?_)⟩
      · have c4 : t1 < n := by have := of_decide_eq_true c3; omega
        rw [if_pos (show (t1 :: r1).headD 0 < n from c4), ← z.1] at q2; exact q2
      · have c4 : ¬ t1 < n := by have := of_decide_eq_false c3; omega
        rw [if_neg (show ¬ (t1 :: r1).headD 0 < n from c4), ← z.2.2] at q2; exact q2
end
end D0
namespace D0
open PySem PySem.Spec PyProof.Rows L2 SX NumText
def spWhole : Sp := fun vs H Q _ => ∃ (i : Int), vs = [.int i] ∧ Q (.bl true) H
/-- a text that differs a little -/
def spEdit : Sp := fun vs H Q _ => ∃ (b : Addr) (l : List Nat), vs = [.ref b, .str (S l)] ∧ Bag H b ∧ l.length ≤ 100000 ∧ ∀ (m : List Nat) H', m.length ≤ l.length + 1 → Stp b H H' → Q (.str (S m)) H'
/-- a token or a comment, at or behind i in the row; none: no token -/
def spotIn (l : List Nat) (i : Nat) : Option Nat :=
  if i < l.length then (if l[i]? = some 35 then none else if l[i]? = some 32 then spotIn l (i + 1) else some i) else none
termination_by l.length - i
section
variable {P : Program} {w : World} {K : PySem.W.Frag} {mg : Str → Option Value} {base : Heap}
theorem ok__law_whole (T : Txt K w mg) : OkD P w K mg base CX0 1 "_law_whole" p__law_whole spWhole := by
  refine T.g__law_whole.ok sc__law_whole (fun vs H Q E h => ?_) (fun f cdv A outer s H vs Q E hr h => ?_)
  · obtain ⟨i, rfl, _⟩ := h; rfl
  obtain ⟨i, rfl, q⟩ := h
  refine ⟨_, (pss_one (ps_ret (pe_and (pe_callB call_isi (by rfl) T.z_isinstance PyProof.Rows.boot_isinstance (pa_cons (pv 0) (pa_cons (pe_bltn (v := .ty "int") rfl T.z_int PyProof.Rows.boot_int rfl) pa_nil))) (pe_one (pe_not (pe_callB call_isi (by rfl) T.z_isinstance PyProof.Rows.boot_isinstance (pa_cons (pv 0) (pa_cons (pe_bltn (v := .ty "bool") rfl T.z_bool PyProof.Rows.boot_bool rfl) pa_nil)))))))), ?_⟩
  refine ⟨_, rfl, _, _, _, _, _, rfl, .ty _, .base (.int i), kit_ty (by decide +kernel : kitB "int" "int" = some true), _, rfl, ?_⟩
  exact iteT ⟨_, rfl, _, _, _, _, _, rfl, .ty _, .base (.int i), kit_ty (by decide +kernel : kitB "int" "bool" = some false), _, rfl, q⟩
theorem ok__law_edited (T : Txt K w mg) (Ot : OkD P w K mg base CX0 1 "_law_take" p__law_take spTake) (Oa : OkD P w K mg base CX0 1 "_law_allowed" p__law_allowed (spConst allL)) : OkD P w K mg base CX0 2 "_law_edited" p__law_edited spEdit := by
  refine T.g__law_edited.ok sc__law_edited (fun vs H Q E h => ?_) (fun f cdv A outer s H vs Q E hr h => ?_)
  · obtain ⟨b, l, rfl, _⟩ := h; rfl
  obtain ⟨b, l, rfl, hb, hl, q⟩ := h
  have hL : allL.length = 95 := by decide
  have lim : (1000000 : Nat) ≤ sizeLine := by decide
  have hS : (S l).length ≤ sizeLine := by rw [S_len]; omega
  refine ⟨_, (pss_cons (ps_set (i := 2) sc__law_edited.nd rfl (.inl rfl) (pcall0 Oa hr))
      (pss_cons (ps_set (i := 3) sc__law_edited.nd rfl (.inl rfl) (pcall Ot hr (pa_cons (pv 0) (pa_cons pe_int pa_nil))))
      (pss_cons (ps_set (i := 4) sc__law_edited.nd rfl (.inl rfl) (pcall Ot hr (pa_cons (pv 0) (pa_cons (pe_op op_add (pe_callB call_len_str (by rfl) T.z_len PySem.boot_len (pa_cons (pv 1) pa_nil)) pe_int) pa_nil))))
      (pss_cons (ps_if (pt_cmpR op_eq (pv 3) pe_int (nomark _)) (pss_one (ps_ret (pe_op op_add_str (pe_slice sl_str (pv 1) po_none (po_some (pv 4))) (pe_slice sl_str (pv 1) (po_some (pe_op op_add (pv 4) pe_int)) po_none)))) pss_nil)
      (pss_one (ps_ret (pe_op op_add_str (pe_op op_add_str (pe_slice sl_str (pv 1) po_none (po_some (pv 4))) (pe_ix ix_str (pv 2) (pcall Ot hr (pa_cons (pv 0) (pa_cons (pe_callB call_len_str (by rfl) T.z_len PySem.boot_len (pa_cons (pv 2) pa_nil)) pa_nil))) (fun _ _ => rfl))) (pe_slice sl_str (pv 1) (po_some (pe_op op_sub (pe_op op_add (pv 4) (pv 3)) pe_int)) po_none)))))))), ?_⟩
  refine ⟨rfl, ?_⟩
  refine ⟨_, rfl, b, 3, rfl, hb, by decide, by decide, fun r1 H1 r10 r11 st1 => ?_⟩
  obtain ⟨wy, rfl⟩ : ∃ k : Nat, r1 = (k : Int) := ⟨r1.toNat, by omega⟩
  refine ⟨_, rfl, _, rfl, _, rfl, hS, _, _, rfl, rfl, b, (l.length : Int) + 1, (by rw [S_len]; rfl), st1.b1, by omega, by omega, fun r2 H2 r20 r21 st2 => ?_⟩
  obtain ⟨k, rfl⟩ : ∃ k : Nat, r2 = (k : Int) := ⟨r2.toNat, by omega⟩
  have hk : k ≤ l.length := by omega
  refine ⟨_, rfl, rfl, _, rfl, ite2 (fun c => ?_) (fun c => ?_)⟩
  · refine ⟨_, rfl, _, rfl, _, rfl, S l, rfl, hS, ?_⟩
    refine ⟨_, rfl, _, rfl, _, _, rfl, rfl, _, rfl, S l, rfl, hS, ?_⟩
    have e1 : cutS (S l) none (some (k : Int)) = S (l.take k) := cut_0 l k
    have e2 : cutS (S l) (some ((k : Int) + 1)) none = S (l.drop (k + 1)) := cut_n l (k + 1)
    rw [e1]
    refine ⟨_, _, rfl, rfl, ?_, ?_⟩
    · show (S (l.take k)).length + (cutS (S l) (some ((k : Int) + 1)) none).length ≤ _
      rw [e2, S_len, S_len, List.length_take, List.length_drop]; omega
    · show Q (.str (S (l.take k) ++ cutS (S l) (some ((k : Int) + 1)) none)) H2
      rw [e2, S_cat]
      exact q _ H2 (by rw [List.length_append, List.length_take, List.length_drop]; omega) (st1.trans st2)
  · have hw : 1 ≤ wy := by
      rcases Nat.eq_zero_or_pos wy with h | h
      · subst h; exact absurd (decide_eq_true rfl) c
      · exact h
    refine ⟨_, rfl, _, rfl, _, rfl, S l, rfl, hS, ?_⟩
    have e1 : cutS (S l) none (some (k : Int)) = S (l.take k) := cut_0 l k
    rw [e1]
    refine ⟨_, rfl, _, rfl, _, rfl, _, rfl, by rw [S_len, hL]; omega, b, 95, by rw [S_len, hL]; rfl, st2.b1, by decide, by decide, fun r H4 r0 r1 st4 => ?_⟩
    obtain ⟨k2, rfl⟩ : ∃ k : Nat, r = (k : Int) := ⟨r.toNat, by omega⟩
    have gk : allL[k2]? = some (allL[k2]'(by omega)) := List.getElem?_eq_getElem (by omega)
    generalize allL[k2]'_ = c2 at gk
    refine ⟨S allL, _, c2, rfl, rfl, by rw [S_len, hL]; omega, at_S gk, ?_⟩
    have e3 : S (l.take k) ++ (⟨#[c2]⟩ : Str) = S (l.take k ++ [c2]) := S_cat (l.take k) [c2]
    refine ⟨_, _, rfl, rfl, ?_, ?_⟩
    · show (S (l.take k)).length + (S [c2]).length ≤ _
      rw [S_len, S_len, List.length_take]; show _ + 1 ≤ _; omega
    refine ⟨_, rfl, _, rfl, _, rfl, _, _, rfl, rfl, _, _, rfl, rfl, _, rfl, S l, rfl, hS, ?_⟩
    have e4 : cutS (S l) (some ((k : Int) + (wy : Int) - 1)) none = S (l.drop (k + wy - 1)) := by
      rw [show (k : Int) + (wy : Int) - 1 = ((k + wy - 1 : Nat) : Int) by omega]; exact cut_n l _
    have hlen : ((l.take k ++ [c2]).length + (l.drop (k + wy - 1)).length) ≤ l.length + 1 := by
      rw [List.length_append, List.length_take, List.length_drop]; show _ + 1 + _ ≤ _; omega
    refine ⟨_, _, rfl, rfl, ?_, ?_⟩
    · show (S (l.take k) ++ (⟨#[c2]⟩ : Str)).length + (cutS (S l) (some ((k : Int) + (wy : Int) - 1)) none).length ≤ _
      rw [e3, e4, S_len, S_len]; omega
    · show Q (.str ((S (l.take k) ++ (⟨#[c2]⟩ : Str)) ++ cutS (S l) (some ((k : Int) + (wy : Int) - 1)) none)) H4
      rw [e3, e4, S_cat]
      exact q _ H4 (by rw [List.length_append]; exact hlen) (st1.trans (st2.trans st4))
end
end D0
namespace D0
open PySem PySem.Spec PyProof.Rows L2 SX NumText
/-- u, f: the end and the fault of the token at i -/
def ExtOk (l : List Nat) (i : Nat) (u : Nat) (f : Int) : Prop := (∀ t, scanTok l i = .ok t → u = t.2.2 ∧ f = -1) ∧ (∀ c, scanTok l i = .error c → f + 1 = (c : Nat) ∧ 0 ≤ f)
def spExtent : Sp := fun vs H Q _ => ∃ (l : List Nat) (i : Nat), vs = [.str (S l), .int i] ∧ l.length ≤ big ∧ i < l.length ∧ ∀ H' p (u : Nat) (f : Int), Same H H' → H p = none → H' p = some (.lst [.int u, .int f]) → ExtOk l i u f → Q (.ref p) H'
theorem find_len {x : List Nat} {n : Nat} : ∀ {L : List (List Nat)}, (∀ s ∈ L, s.length = n) → L.find? (fun s => decide (x.take s.length = s)) = if x.take n ∈ L then some (x.take n) else none
  | [], _ => rfl
  | s :: r, h => by
    have hs := h s List.mem_cons_self
    have ih := find_len (x := x) (L := r) fun y hy => h y (List.mem_cons_of_mem _ hy)
    rw [List.find?_cons, hs]
    by_cases c : x.take n = s
    · rw [decide_eq_true c, if_pos (by rw [c]; exact List.mem_cons_self), c]
    · rw [decide_eq_false c, ih]
      by_cases d : x.take n ∈ r
      · rw [if_pos d, if_pos (List.mem_cons_of_mem _ d)]
      · rw [if_neg d, if_neg (fun z => by rcases List.mem_cons.mp z with z | z; exact c z; exact d z)]
def SG3 : List (List Nat) := SG.take 1
def SG2 : List (List Nat) := (SG.drop 1).take 8
def SG1 : List (List Nat) := SG.drop 9
theorem SG_parts : SG = SG3 ++ (SG2 ++ SG1) := rfl
theorem SG_lens : (∀ s ∈ SG3, s.length = 3) ∧ (∀ s ∈ SG2, s.length = 2) ∧ (∀ s ∈ SG1, s.length = 1) := by decide
/-- the longest sign -/
theorem find_long (x : List Nat) : SG.find? (fun s => decide (x.take s.length = s)) = if x.take 3 ∈ SG then some (x.take 3) else if x.take 2 ∈ SG then some (x.take 2) else if x.take 1 ∈ SG then some (x.take 1) else none := by
  obtain ⟨h3, h2, h1⟩ := SG_lens
  have len : ∀ n, x.take n ∈ SG → (x.take n ∈ SG3 ∧ (x.take n).length = 3) ∨ (x.take n ∈ SG2 ∧ (x.take n).length = 2) ∨ (x.take n ∈ SG1 ∧ (x.take n).length = 1) := fun n h => by
    rw [SG_parts] at h
    rcases List.mem_append.mp h with h | h
    · exact .inl ⟨h, h3 _ h⟩
    rcases List.mem_append.mp h with h | h
    · exact .inr (.inl ⟨h, h2 _ h⟩)
    · exact .inr (.inr ⟨h, h1 _ h⟩)
  have inn3 : ∀ y, y ∈ SG3 → y ∈ SG := fun y h => by rw [SG_parts]; exact List.mem_append_left _ h
  have inn2 : ∀ y, y ∈ SG2 → y ∈ SG := fun y h => by rw [SG_parts]; exact List.mem_append_right _ (List.mem_append_left _ h)
  have inn1 : ∀ y, y ∈ SG1 → y ∈ SG := fun y h => by rw [SG_parts]; exact List.mem_append_right _ (List.mem_append_right _ h)
  have tk : ∀ n m, m ≤ n → (x.take n).length = m → x.take m = x.take n := fun n m hm h => by
    have : x.take m = (x.take n).take m := by rw [List.take_take, Nat.min_eq_left hm]
    rw [this, List.take_of_length_le (by omega)]
  rw [SG_parts, List.find?_append, List.find?_append, find_len h3, find_len h2, find_len h1, ← SG_parts]
  by_cases a3 : x.take 3 ∈ SG3
  · rw [if_pos a3, if_pos (inn3 _ a3)]; rfl
  rw [if_neg a3]
  by_cases a2 : x.take 2 ∈ SG2
  · rw [if_pos a2]
    by_cases b : x.take 3 ∈ SG
    · rw [if_pos b]
      rcases len 3 b with h | h | h
      · exact absurd h.1 a3
      · rw [tk 3 2 (by decide) h.2]; rfl
      · have e1 := tk 3 1 (by decide) h.2
        have : (x.take 2).length = 2 := h2 _ a2
        have h4 : (x.take 2).length ≤ (x.take 3).length := by rw [List.length_take, List.length_take]; omega
        omega
    · rw [if_neg b, if_pos (inn2 _ a2)]; rfl
  rw [if_neg a2]
  by_cases a1 : x.take 1 ∈ SG1
  · rw [if_pos a1]
    by_cases b : x.take 3 ∈ SG
    · rw [if_pos b]
      rcases len 3 b with h | h | h
      · exact absurd h.1 a3
      · have := tk 3 2 (by decide) h.2
        rw [← this] at h; exact absurd h.1 a2
      · rw [tk 3 1 (by decide) h.2]; rfl
    · rw [if_neg b]
      by_cases b2 : x.take 2 ∈ SG
      · rw [if_pos b2]
        rcases len 2 b2 with h | h | h
        · have h4 : (x.take 2).length ≤ 2 := by rw [List.length_take]; omega
          omega
        · exact absurd h.1 a2
        · rw [tk 2 1 (by decide) h.2]; rfl
      · rw [if_neg b2, if_pos (inn1 _ a1)]; rfl
  · rw [if_neg a1]
    rw [if_neg (fun b => ?_), if_neg (fun b => ?_), if_neg (fun b => ?_)]
    · rfl
    · rcases len 1 b with h | h | h
      · have h4 : (x.take 1).length ≤ 1 := by rw [List.length_take]; omega
        omega
      · have h4 : (x.take 1).length ≤ 1 := by rw [List.length_take]; omega
        omega
      · exact a1 h.1
    · rcases len 2 b with h | h | h
      · have h4 : (x.take 2).length ≤ 2 := by rw [List.length_take]; omega
        omega
      · exact a2 h.1
      · have := tk 2 1 (by decide) h.2
        rw [← this] at h; exact a1 h.1
    · rcases len 3 b with h | h | h
      · exact a3 h.1
      · have := tk 3 2 (by decide) h.2
        rw [← this] at h; exact a2 h.1
      · have := tk 3 1 (by decide) h.2
        rw [← this] at h; exact a1 h.1
end D0
namespace D0
open PySem PySem.Spec PyProof.Rows L2 SX NumText
theorem esc_in (c : Nat) : decide (c ∈ ([110, 92, 39, 34] : List Nat)) = (escV [c]).isSome := by
  by_cases h1 : c = 110
  · subst h1; rfl
  by_cases h2 : c = 92
  · subst h2; rfl
  by_cases h3 : c = 39
  · subst h3; rfl
  by_cases h4 : c = 34
  · subst h4; rfl
  have : escV [c] = none := by
    unfold escV
    split <;> first | rfl | (rename_i h; exact absurd (List.cons.inj h).1 (by assumption))
  rw [this]
  simp [h1, h2, h3, h4]
/-- how the rest of a text is read, from k on; skip: k was read with the sign before it -/
def TxAt (R : Except Nat Tr) (q i : Nat) (l : List Nat) (k : Nat) (skip : Bool) : Prop := ∃ acc, R = scanT q i skip (l.drop k) k acc ∧ (skip = true → ∃ c, l[k]? = some c ∧ (escV [c]).isSome = true)
section
variable {P : Program} {w : World} {K : PySem.W.Frag} {mg : Str → Option Value} {base : Heap}
theorem ok__law_extent_text (T : Txt K w mg) (Ol : OkD P w K mg base CX0 1 "_law_letters" p__law_letters (spConst letL)) (Os : OkD P w K mg base CX0 1 "_law_signs" p__law_signs (spStrs SG))
    (rest : ∀ (f : Addr) (cdv : Value) (A : Around) (outer : List Env) (s : Shared) (H : Hp) (Q : VK) (E : XK), Room 1 (A.deeper (envOfC "_law_extent" (defScope s__law_extent) s.heap.objs.size f cdv)) →
      ∃ t, PSs (cxOf CX0 P w K mg base n__law_extent "_law_extent" (defScope s__law_extent) f cdv A outer s H E).nox ((defBody s__law_extent).drop 3) t ∧ ∀ (l : List Nat) (i : Nat), l.length ≤ big → i < l.length → (∀ c, l[i]? = some c → ¬ (c = 34 ∨ c = 39)) →
        (∀ H' p (u : Nat) (f : Int), Same H H' → H p = none → H' p = some (.lst [.int u, .int f]) → ExtOk l i u f → Q (.ref p) H') →
        t { nx := fun _ H' => Q .non H', rt := Q } [some (.str (S l)), some (.int i), some (.str (S letL)), some (.int ((i + 1 : Nat) : Int)), none, none, none, none, none] H) :
    OkD P w K mg base CX0 2 "_law_extent" p__law_extent spExtent := by
  refine T.g__law_extent.ok sc__law_extent (fun vs H Q E h => ?_) (fun f cdv A outer s H vs Q E hr h => ?_)
  · obtain ⟨l, i, rfl, _⟩ := h; rfl
  obtain ⟨l, i, rfl, hl, hi, q⟩ := h
  obtain ⟨t, ht, hg⟩ := rest f cdv A outer s H Q E hr
  have hl' : l.length ≤ 1000000 := hl
  have zq : (Str.ofString "\"'").cps.toList = [34, 39] ∧ (Str.ofString "n\\'\"").cps.toList = [110, 92, 39, 34] ∧ Str.ofString "\\" = S [92] := by decide +kernel
  have gi : l[i]? = some l[i] := List.getElem?_eq_getElem hi
  have hd : (l.drop i).headD 0 = l[i] := by rw [List.drop_eq_getElem_cons hi]; rfl
  have two : 2 ≤ sizeLine := by decide
  refine ⟨_, pss_cons (ps_set (i := 2) sc__law_extent.nd rfl (.inl rfl) (pcall0 Ol hr)) (pss_cons (ps_set (i := 3) sc__law_extent.nd rfl (.inl rfl) (pe_op op_add (pv 1) pe_int)) (pss_cons
    (ps_if (pt_cmpR op_in_sign (pe_ix ix_str (pv 0) (pv 1) (fun _ _ => rfl)) pe_str (by rfl)) (pss_cons (ps_for PassesOwn.never rfl (pi_range2 (by rfl) T.z_range (pa_cons (pe_op op_add (pv 1) pe_int) (pa_cons (pe_callB call_len_str (by rfl) T.z_len PySem.boot_len (pa_cons (pv 0) pa_nil)) pa_nil))) (pg_name (i := 4) sc__law_extent.nd rfl (Or.inl rfl))
        (pss_one (ps_if (pt_cmpR op_ge (pv 4) (pv 3) (nomark _)) (pss_cons (ps_set (i := 3) sc__law_extent.nd rfl (.inl rfl) (pe_op op_add (pv 4) pe_int))
      (pss_cons (ps_if (pt_cmpR op_eq (pe_ix ix_str (pv 0) (pv 4) (fun _ _ => rfl)) (pe_ix ix_str (pv 0) (pv 1) (fun _ _ => rfl)) (nomark _)) (pss_one (ps_ret (pe_lst (pa_cons (pe_op op_add (pv 4) pe_int) (pa_cons (pe_un un_neg pe_int) pa_nil))))) pss_nil)
      (pss_cons (ps_if (PW.pt (pw_and (pt_cmpR op_eq (pe_ix ix_str (pv 0) (pv 4) (fun _ _ => rfl)) pe_str (nomark _)) (pw_and1 (pt_cmpR op_eq (pe_op op_add (pv 4) pe_int) (pe_callB call_len_str (by rfl) T.z_len PySem.boot_len (pa_cons (pv 0) pa_nil)) (nomark _))))) (pss_one (ps_ret (pe_lst (pa_cons (pe_op op_add (pv 4) pe_int) (pa_cons (pv 1) pa_nil))))) pss_nil)
      (pss_cons (ps_if (PW.pt (pw_and (pt_cmpR op_eq (pe_ix ix_str (pv 0) (pv 4) (fun _ _ => rfl)) pe_str (nomark _)) (pw_and1 (pt_cmpR op_notIn_sign (pe_ix ix_str (pv 0) (pe_op op_add (pv 4) pe_int) (fun _ _ => rfl)) pe_str (by rfl))))) (pss_one (ps_ret (pe_lst (pa_cons (pe_op op_add (pv 4) pe_int) (pa_cons (pv 4) pa_nil))))) pss_nil)
      (pss_one (ps_if (pt_cmpR op_eq (pe_ix ix_str (pv 0) (pv 4) (fun _ _ => rfl)) pe_str (nomark _)) (pss_one (ps_set (i := 3) sc__law_extent.nd rfl (.inl rfl) (pe_op op_add (pv 4) pe_int))) pss_nil)))))) pss_nil)))
      (pss_one (ps_ret (pe_lst (pa_cons (pe_callB call_len_str (by rfl) T.z_len PySem.boot_len (pa_cons (pv 0) pa_nil)) (pa_cons (pv 1) pa_nil)))))) pss_nil) ht)), ?_⟩
  refine ⟨rfl, _, rfl, _, _, rfl, rfl, ?_⟩
  refine ⟨_, rfl, _, rfl, S l, i, _, rfl, rfl, S_line hl, at_S gi, _, _, rfl, rfl, _, rfl, ?_⟩
  have e1 : decide (l[i] ∈ (Str.ofString "\"'").cps.toList) = decide (l[i] = 34 ∨ l[i] = 39) := by rw [zq.1]; simp
  by_cases c : l[i] = 34 ∨ l[i] = 39
  · refine iteT' (e1.trans (decide_eq_true c)) ?_
    have hR : scanTok l i = scanText l i := by
      unfold scanTok
      rw [hd]
      have h1 : letc l[i] = false := by rcases c with h | h <;> rw [h] <;> rfl
      have h2 : isDig l[i] = false := by rcases c with h | h <;> rw [h] <;> rfl
      rw [h1, h2, if_neg Bool.false_ne_true, if_neg Bool.false_ne_true, if_pos c]
    have eR : scanTok l i = scanT l[i] i false (l.drop (i + 1)) (i + 1) [] := by rw [hR]; unfold scanText; rw [List.drop_eq_getElem_cons hi]; rfl
    unfold ExtOk at q
    generalize scanTok l i = R at q eR
    generalize hqc : l[i] = qc at *
    refine ⟨_, rfl, _, _, rfl, rfl, _, rfl, _, rfl, S_line hl, (i : Int) + 1, ((S l).length : Int), rfl, by rw [S_len]; omega, ?_⟩
    rw [S_len]
    refine for_range (lo := (i : Int) + 1) (n := ((l.length : Int) - ((i : Int) + 1)).toNat) (fun j σ H' => ∃ (up : Nat) (y : Option V) (skip : Bool), σ = [some (.str (S l)), some (.int i), some (.str (S letL)), some (.int up), y, none, none, none, none] ∧ Same H H' ∧
      up = i + 1 + j + (if skip = true then 1 else 0) ∧ TxAt R qc i l (i + 1 + j) skip) ⟨i + 1, none, false, rfl, Same.refl H, rfl, ⟨[], eR, fun z => by cases z⟩⟩ ?_ ?_
    · rintro j σ H' hj ⟨up, y, skip, rfl, sm, hup, acc, hR, hsk⟩
      obtain ⟨k, hk⟩ : ∃ k : Nat, k = i + 1 + j := ⟨_, rfl⟩
      rw [← hk] at hup hR hsk
      have hkl : k < l.length := by omega
      rw [show (i : Int) + 1 + (j : Int) = ((k : Nat) : Int) by omega]
      have gk : l[k]? = some l[k] := List.getElem?_eq_getElem hkl
      have hcs : l.drop k = l[k] :: l.drop (k + 1) := List.drop_eq_getElem_cons hkl
      generalize hck : l[k] = ck at *
      have hk1 : i + 1 + (j + 1) = k + 1 := by omega
      rw [hcs] at hR
      refine ⟨_, rfl, _, rfl, _, _, rfl, rfl, _, rfl, ?_⟩
      cases skip with
      | true =>
        obtain ⟨c2, hc2, hes⟩ := hsk rfl
        have : ck = c2 := Option.some.inj (gk.symm.trans hc2)
        subst this
        have hup : up = k + 1 := hup
        subst hup
        refine iteF' (decide_eq_false (by omega)) ?_
        refine ⟨k + 1, _, false, rfl, sm, by rw [hk1]; rfl, ?_⟩
        rw [hk1]
        unfold scanT at hR
        cases hx : escV [ck] with
        | none => rw [hx] at hes; cases hes
        | some m => rw [hx] at hR; exact ⟨_, hR, fun z => by cases z⟩
      | false =>
        have hup : up = k := hup
        subst hup
        refine iteT' (decide_eq_true (by omega)) ?_
        unfold scanT at hR
        have ret : ∀ (f2 : Int) (H2 : Hp) (p : Addr), Same H' H2 → H2 p = none → (∀ t, R = .ok t → up + 1 = t.2.2 ∧ f2 = -1) ∧ (∀ c, R = .error c → f2 + 1 = (c : Nat) ∧ 0 ≤ f2) → Q (.ref p) (upd H2 p (.lst [.int ((up : Int) + 1), .int f2])) := fun f2 H2 p s2 hp he =>
          q _ p (up + 1) f2 ((sm.trans s2).trans (same_new hp _)) ((sm.trans s2).free hp) upd_same he
        refine ⟨_, rfl, _, _, rfl, rfl, ?_⟩
        refine ⟨_, rfl, _, rfl, S l, up, ck, rfl, rfl, S_line hl, at_S gk, _, rfl, _, rfl, S l, i, qc, rfl, rfl, S_line hl, at_S gi, rfl, _, rfl, ?_⟩
        by_cases cq : ck = qc
        · rw [if_pos cq] at hR
          refine iteT' ((one_dec ck qc).trans (decide_eq_true cq)) ?_
          exact ⟨_, rfl, _, _, rfl, rfl, 1, rfl, two, fun p hp => ret (-1) H' p (Same.refl H') hp ⟨(fun t h => by rw [hR] at h; cases h; exact ⟨rfl, rfl⟩), (fun c h => by rw [hR] at h; cases h)⟩⟩
        rw [if_neg cq] at hR
        refine iteF' ((one_dec ck qc).trans (decide_eq_false cq)) ?_
        have e92 : decide (V.str (S [ck]) = V.str (Str.ofString "\\")) = decide (ck = 92) := by rw [zq.2.2, one_dec]
        refine ⟨_, rfl, _, rfl, S l, up, ck, rfl, rfl, S_line hl, at_S gk, rfl, _, rfl, ?_⟩
        by_cases c92 : ck = 92
        · rw [if_pos c92] at hR
          refine iteT' (e92.trans (decide_eq_true c92)) ?_
          have eL : decide (V.int ((up : Int) + 1) = V.int ((S l).length : Int)) = decide (up + 1 = l.length) := by rw [S_len]; exact int_dec (a := up + 1)
          refine ⟨_, rfl, _, _, rfl, rfl, _, rfl, _, rfl, S_line hl, rfl, _, rfl, ?_⟩
          by_cases cl : up + 1 = l.length
          · refine iteT' (eL.trans (decide_eq_true cl)) ?_
            have hR2 : R = .error (i + 1) := by rw [hR, cl, List.drop_length]; rfl
            exact ⟨_, rfl, _, _, rfl, rfl, _, rfl, two, fun p hp => ret i H' p (Same.refl H') hp ⟨(fun t h => by rw [hR2] at h; cases h), (fun c h => by rw [hR2] at h; cases h; exact ⟨rfl, Int.natCast_nonneg _⟩)⟩⟩
          refine iteF' (eL.trans (decide_eq_false cl)) ?_
          have hkl1 : up + 1 < l.length := by omega
          have gk1 : l[up + 1]? = some l[up + 1] := List.getElem?_eq_getElem hkl1
          have hcs1 : l.drop (up + 1) = l[up + 1] :: l.drop (up + 1 + 1) := List.drop_eq_getElem_cons hkl1
          generalize hc1 : l[up + 1] = c1 at *
          have hR0 := hR
          rw [hcs1] at hR
          unfold scanT at hR
          refine ⟨_, rfl, _, rfl, S l, up, ck, rfl, rfl, S_line hl, at_S gk, rfl, _, rfl, iteT' (e92.trans (decide_eq_true c92)) ?_⟩
          refine ⟨_, rfl, _, rfl, _, _, rfl, rfl, S l, (up + 1 : Nat), c1, rfl, rfl, S_line hl, at_S gk1, c1, _, rfl, rfl, _, rfl, ?_⟩
          have e5 : (!decide (c1 ∈ (Str.ofString "n\\'\"").cps.toList)) = !(escV [c1]).isSome := by rw [zq.2.1, esc_in]
          cases hx : escV [c1] with
          | none =>
            refine iteT' (e5.trans (by rw [hx]; rfl)) ?_
            rw [hx] at hR
            exact ⟨_, rfl, _, _, rfl, rfl, _, rfl, two, fun p hp => ret up H' p (Same.refl H') hp ⟨(fun t h => by rw [hR] at h; cases h), (fun c h => by rw [hR] at h; cases h; exact ⟨rfl, Int.natCast_nonneg _⟩)⟩⟩
          | some m =>
            refine iteF' (e5.trans (by rw [hx]; rfl)) ?_
            refine ⟨_, rfl, _, rfl, S l, up, ck, rfl, rfl, S_line hl, at_S gk, rfl, _, rfl, iteT' (e92.trans (decide_eq_true c92)) ?_⟩
            refine ⟨_, rfl, _, _, rfl, rfl, ?_⟩
            refine ⟨up + 1 + 1, _, true, rfl, sm, by rw [hk1]; rfl, ?_⟩
            rw [hk1]
            exact ⟨acc, hR0, fun _ => ⟨c1, gk1, by rw [hx]; rfl⟩⟩
        · rw [if_neg c92] at hR
          refine iteF' (e92.trans (decide_eq_false c92)) ?_
          refine iteF ?_
          refine ⟨_, rfl, _, rfl, S l, up, ck, rfl, rfl, S_line hl, at_S gk, rfl, _, rfl, iteF' (e92.trans (decide_eq_false c92)) (iteF ?_)⟩
          refine ⟨_, rfl, _, rfl, S l, up, ck, rfl, rfl, S_line hl, at_S gk, rfl, _, rfl, iteF' (e92.trans (decide_eq_false c92)) ?_⟩
          refine ⟨up + 1, _, false, rfl, sm, by rw [hk1]; rfl, ?_⟩
          rw [hk1]
          exact ⟨_, hR, fun z => by cases z⟩
    · rintro σ H' ⟨up, y, skip, rfl, sm, hup, acc, hR, hsk⟩
      have hk : i + 1 + ((l.length : Int) - ((i : Int) + 1)).toNat = l.length := by omega
      rw [hk] at hR hsk
      rw [List.drop_length] at hR
      have hR2 : R = .error (i + 1) := by rw [hR]; cases skip <;> rfl
      refine ⟨_, rfl, _, rfl, S_line hl, _, rfl, two, fun p hp => ?_⟩
      rw [S_len]
      exact q _ p l.length i (sm.trans (same_new hp _)) (sm.free hp) upd_same ⟨(fun t h => by rw [hR2] at h; cases h), (fun c h => by rw [hR2] at h; cases h; exact ⟨rfl, Int.natCast_nonneg _⟩)⟩
  · refine iteF' (e1.trans (decide_eq_false c)) ?_
    exact hg l i hl hi (fun c2 h2 => by rw [gi] at h2; cases h2; exact c) q
end
end D0
namespace D0
open PySem PySem.Spec PyProof.Rows L2 SX NumText
theorem in_small {L : List Nat} {f : Nat → Bool} (h1 : ∀ c, c < 128 → decide (c ∈ L) = f c) (h2 : ∀ c ∈ L, c < 128) (h3 : ∀ c, 128 ≤ c → f c = false) (c : Nat) : decide (c ∈ L) = f c := by
  by_cases h : c < 128
  · exact h1 c h
  · rw [h3 c (by omega)]
    exact decide_eq_false fun z => h (h2 c z)
theorem letc_big (c : Nat) (h : 128 ≤ c) : letc c = false := by
  unfold letc
  rw [decide_eq_false (by omega), decide_eq_false (by omega), Bool.false_or, Bool.false_or]
  exact beq_eq_false_iff_ne.mpr (by omega)
theorem dig_big (c : Nat) (h : 128 ≤ c) : isDig c = false := decide_eq_false (by omega)
theorem in_letL (c : Nat) : decide (c ∈ letL) = letc c := in_small (by decide +kernel) (by decide +kernel) letc_big c
theorem in_digL (c : Nat) : decide (c ∈ digL) = isDig c := in_small (by decide +kernel) (by decide +kernel) dig_big c
theorem in_namL (c : Nat) : decide (c ∈ letL ++ digL) = namc c := in_small (by decide +kernel) (by decide +kernel) (fun c h => by unfold namc; rw [letc_big c h, dig_big c h]; rfl) c
theorem word_len {l : List Nat} {i j : Nat} (h1 : i ≤ j) (h2 : j ≤ l.length) : (word l i j).length = j - i := by
  unfold word; rw [List.length_take, List.length_drop]; omega
def ib : Stmt → List Stmt
  | .If _ b _ _ => b
  | _ => []
def digBad (l : List Nat) (i k : Nat) : Bool := (decide (k < l.length) && ((l.drop k).take 1).any letc) || (decide (40 < k - i) || (decide ((l.drop i).headD 0 = 48) && decide (1 < k - i)))
section
variable {P : Program} {w : World} {K : PySem.W.Frag} {mg : Str → Option Value} {base : Heap}
theorem ok__law_extent (T : Txt K w mg) (Ol : OkD P w K mg base CX0 1 "_law_letters" p__law_letters (spConst letL)) (Os : OkD P w K mg base CX0 1 "_law_signs" p__law_signs (spStrs SG)) :
    OkD P w K mg base CX0 2 "_law_extent" p__law_extent spExtent := by
  refine ok__law_extent_text T Ol Os (fun f cdv A outer s H Q E hr => ?_)
  have z : Str.ofString "0123456789" = S digL ∧ Str.ofString "0" = S [48] := by decide +kernel
  have two : 2 ≤ sizeLine := by decide
  have lim : (1000100 : Nat) ≤ sizeLine := by decide
  obtain ⟨td, htd, hgd⟩ : ∃ t, PSs (cxOf CX0 P w K mg base n__law_extent "_law_extent" (defScope s__law_extent) f cdv A outer s H E).nox (List.drop 1 (ib ((defBody s__law_extent).getD 4 (.Pass ⟨0, 0, 0, 0⟩)))) t ∧
      ∀ (D : Ends) (l : List Nat) (i k : Nat), D.rt = Q → l.length ≤ big → i < l.length → i + 1 ≤ k → k ≤ l.length → (∀ (f2 : Int) p, H p = none → (f2 = if digBad l i k = true then (i : Int) else -1) → Q (.ref p) (upd H p (.lst [.int k, .int f2]))) →
        t D [some (.str (S l)), some (.int i), some (.str (S letL)), some (.int k), none, none, none, none, none] H := by
    refine ⟨_, (pss_cons (ps_set (i := 5) sc__law_extent.nd rfl (.inl rfl) (pe_and (pe_cmpR op_lt (pv 3) (pe_callB call_len_str (by rfl) T.z_len PySem.boot_len (pa_cons (pv 0) pa_nil)) (nomark _)) (pe_one (pe_cmpR op_in_sign (pe_ix ix_str (pv 0) (pv 3) (fun _ _ => rfl)) (pv 2) (by rfl)))))
      (pss_cons (ps_set (i := 6) sc__law_extent.nd rfl (.inl rfl) (pe_or (pv 5) (pe_or (pe_cmpR op_gt (pe_op op_sub (pv 3) (pv 1)) pe_int (nomark _)) (pe_one (pe_and (pe_cmpR op_eq (pe_ix ix_str (pv 0) (pv 1) (fun _ _ => rfl)) pe_str (nomark _)) (pe_one (pe_cmpR op_gt (pe_op op_sub (pv 3) (pv 1)) pe_int (nomark _))))))))
      (pss_one (ps_ret (pe_lst (pa_cons (pv 3) (pa_cons (pe_ifExp (pt_val (pv 6)) (pv 1) (pe_un un_neg pe_int)) pa_nil))))))), ?_⟩
    intro D l i k hD hl hi hk1 hk2 q
    obtain ⟨dn, dr, db, dc⟩ := D
    have hD : dr = Q := hD
    rw [← hD] at q
    have hl' : l.length ≤ 1000000 := hl
    have gi : l[i]? = some l[i] := List.getElem?_eq_getElem hi
    have hd : (l.drop i).headD 0 = l[i] := by rw [List.drop_eq_getElem_cons hi]; rfl
    have e5 : decide ((40 : Int) < (k : Int) - (i : Int)) = decide (40 < k - i) := by
      by_cases h : 40 < k - i
      · rw [decide_eq_true h, decide_eq_true (by omega)]
      · rw [decide_eq_false h, decide_eq_false (by omega)]
    have e6 : decide ((1 : Int) < (k : Int) - (i : Int)) = decide (1 < k - i) := by
      by_cases h : 1 < k - i
      · rw [decide_eq_true h, decide_eq_true (by omega)]
      · rw [decide_eq_false h, decide_eq_false (by omega)]
    have e7 : decide (V.str (S [l[i]]) = V.str (Str.ofString "0")) = decide ((l.drop i).headD 0 = 48) := by rw [z.2, one_dec, hd]
    have e2 : decide ((k : Int) < ((S l).length : Int)) = decide (k < l.length) := by rw [S_len]; exact lt_dec
    have fin : ∀ b : Bool, b = digBad l i k → ∀ p, H p = none → dr (.ref p) (upd H p (.lst [.int k, .int (if b = true then (i : Int) else -1)])) := fun b hb p hp => q _ p hp (by rw [hb])
    refine ⟨_, rfl, _, rfl, _, rfl, S_line hl, _, _, rfl, rfl, _, rfl, iteD (b := decide ((k : Int) < ((S l).length : Int))) (fun c5 => ?_) (fun c5 => ?_)⟩
    · rw [e2] at c5
      have hkl : k < l.length := of_decide_eq_true c5
      have gk : l[k]? = some l[k] := List.getElem?_eq_getElem hkl
      have ek : ((l.drop k).take 1).any letc = letc l[k] := by rw [List.drop_eq_getElem_cons hkl]; show (letc l[k] || false) = _; rw [Bool.or_false]
      refine ⟨_, rfl, _, rfl, S l, k, _, rfl, rfl, S_line hl, at_S gk, _, rfl, l[k], S letL, rfl, rfl, ?_⟩
      cases c9 : letc l[k] with
      | true =>
        have hb : digBad l i k = true := by unfold digBad; rw [c5, ek, c9]; rfl
        rw [hb] at fin
        exact ⟨_, rfl, _, rfl, iteT' ((in_letL _).trans c9) ⟨_, rfl, _, rfl, _, rfl, iteT ⟨_, rfl, two, fun p hp => fin true rfl p hp⟩⟩⟩
      | false =>
      have hb5 : (decide (k < l.length) && ((l.drop k).take 1).any letc) = false := by rw [ek, c9, Bool.and_false]
      exact ⟨_, rfl, _, rfl, iteF' ((in_letL _).trans c9) (by
        have key : digBad l i k = (decide (40 < k - i) || (decide ((l.drop i).headD 0 = 48) && decide (1 < k - i))) := by unfold digBad; rw [hb5]; rfl
        rw [key] at fin
        refine ⟨_, rfl, _, rfl, _, _, rfl, rfl, _, _, rfl, rfl, _, rfl, iteD (b := decide ((40 : Int) < (k : Int) - (i : Int))) (fun c6 => ?_) (fun c6 => ?_)⟩
        · rw [e5] at c6
          rw [c6] at fin
          exact ⟨_, rfl, _, rfl, _, rfl, iteT ⟨_, rfl, two, fun p hp => fin true rfl p hp⟩⟩
        rw [e5] at c6
        rw [c6, Bool.false_or] at fin
        refine ⟨_, rfl, _, rfl, S l, i, _, rfl, rfl, S_line hl, at_S gi, rfl, _, rfl, iteD (b := decide (V.str (S [l[i]]) = V.str (Str.ofString "0"))) (fun c7 => ?_) (fun c7 => ?_)⟩
        · rw [e7] at c7
          rw [c7, Bool.true_and] at fin
          refine ⟨_, rfl, _, rfl, _, _, rfl, rfl, _, _, rfl, rfl, ?_⟩
          cases c8 : decide (1 < k - i) with
          | true =>
            rw [c8] at fin
            exact ⟨_, rfl, _, rfl, _, rfl, iteT' (e6.trans c8) ⟨_, rfl, two, fun p hp => fin true rfl p hp⟩⟩
          | false =>
            rw [c8] at fin
            exact ⟨_, rfl, _, rfl, _, rfl, iteF' (e6.trans c8) ⟨1, rfl, two, fun p hp => fin false rfl p hp⟩⟩
        · rw [e7] at c7
          rw [c7, Bool.false_and] at fin
          exact ⟨_, rfl, _, rfl, _, rfl, iteF ⟨1, rfl, two, fun p hp => fin false rfl p hp⟩⟩)⟩
    · rw [e2] at c5
      have hb5 : (decide (k < l.length) && ((l.drop k).take 1).any letc) = false := by rw [c5]; rfl
      exact ⟨_, rfl, _, rfl, iteF (by
        have key : digBad l i k = (decide (40 < k - i) || (decide ((l.drop i).headD 0 = 48) && decide (1 < k - i))) := by unfold digBad; rw [hb5]; rfl
        rw [key] at fin
        refine ⟨_, rfl, _, rfl, _, _, rfl, rfl, _, _, rfl, rfl, _, rfl, iteD (b := decide ((40 : Int) < (k : Int) - (i : Int))) (fun c6 => ?_) (fun c6 => ?_)⟩
        · rw [e5] at c6
          rw [c6] at fin
          exact ⟨_, rfl, _, rfl, _, rfl, iteT ⟨_, rfl, two, fun p hp => fin true rfl p hp⟩⟩
        rw [e5] at c6
        rw [c6, Bool.false_or] at fin
        refine ⟨_, rfl, _, rfl, S l, i, _, rfl, rfl, S_line hl, at_S gi, rfl, _, rfl, iteD (b := decide (V.str (S [l[i]]) = V.str (Str.ofString "0"))) (fun c7 => ?_) (fun c7 => ?_)⟩
        · rw [e7] at c7
          rw [c7, Bool.true_and] at fin
          refine ⟨_, rfl, _, rfl, _, _, rfl, rfl, _, _, rfl, rfl, ?_⟩
          cases c8 : decide (1 < k - i) with
          | true =>
            rw [c8] at fin
            exact ⟨_, rfl, _, rfl, _, rfl, iteT' (e6.trans c8) ⟨_, rfl, two, fun p hp => fin true rfl p hp⟩⟩
          | false =>
            rw [c8] at fin
            exact ⟨_, rfl, _, rfl, _, rfl, iteF' (e6.trans c8) ⟨1, rfl, two, fun p hp => fin false rfl p hp⟩⟩
        · rw [e7] at c7
          rw [c7, Bool.false_and] at fin
          exact ⟨_, rfl, _, rfl, _, rfl, iteF ⟨1, rfl, two, fun p hp => fin false rfl p hp⟩⟩)⟩
  refine ⟨_, (pss_cons (ps_if (pt_cmpR op_in_sign (pe_ix ix_str (pv 0) (pv 1) (fun _ _ => rfl)) (pv 2) (by rfl)) (pss_cons (ps_while PassesOwn.never (PW.pt (pw_and (pt_cmpR op_lt (pv 3) (pe_callB call_len_str (by rfl) T.z_len PySem.boot_len (pa_cons (pv 0) pa_nil)) (nomark _)) (pw_and1 (pt_cmpR op_in_sign (pe_ix ix_str (pv 0) (pv 3) (fun _ _ => rfl)) (pe_op op_add_str (pv 2) pe_str) (by rfl))))) (pss_one (ps_set (i := 3) sc__law_extent.nd rfl (.inl rfl) (pe_op op_add (pv 3) pe_int))))
      (pss_one (ps_ret (pe_lst (pa_cons (pv 3) (pa_cons (pe_ifExp (pt_cmpR op_gt (pe_op op_sub (pv 3) (pv 1)) pe_int (nomark _)) (pv 1) (pe_un un_neg pe_int)) pa_nil)))))) pss_nil)
      (pss_cons (ps_if (pt_cmpR op_in_sign (pe_ix ix_str (pv 0) (pv 1) (fun _ _ => rfl)) pe_str (by rfl)) (pss_cons
      (ps_while PassesOwn.never (PW.pt (pw_and (pt_cmpR op_lt (pv 3) (pe_callB call_len_str (by rfl) T.z_len PySem.boot_len (pa_cons (pv 0) pa_nil)) (nomark _)) (pw_and1 (pt_cmpR op_in_sign (pe_ix ix_str (pv 0) (pv 3) (fun _ _ => rfl)) pe_str (by rfl))))) (pss_one (ps_set (i := 3) sc__law_extent.nd rfl (.inl rfl) (pe_op op_add (pv 3) pe_int)))) htd) pss_nil)
      (pss_cons (ps_for PassesOwn.never rfl (pi_list (pe_lst (pa_cons pe_int (pa_cons pe_int (pa_cons pe_int pa_nil))))) (pg_name (i := 7) sc__law_extent.nd rfl (Or.inl rfl))
      (pss_cons (ps_set (i := 8) sc__law_extent.nd rfl (.inl rfl) (pe_slice sl_str (pv 0) (po_some (pv 1)) (po_some (pe_op op_add (pv 1) (pv 7)))))
      (pss_one (ps_if (pt_cmpR op_in_seq (pv 8) (pcall0 Os hr) (by rfl)) (pss_one (ps_ret (pe_lst (pa_cons (pe_op op_add (pv 1) (pe_callB call_len_str (by rfl) T.z_len PySem.boot_len (pa_cons (pv 8) pa_nil))) (pa_cons (pe_un un_neg pe_int) pa_nil))))) pss_nil))))
      (pss_one (ps_ret (pe_lst (pa_cons (pe_op op_add (pv 1) pe_int) (pa_cons (pv 1) pa_nil)))))))), ?_⟩
  intro l i hl hi hnq q
  have hl' : l.length ≤ 1000000 := hl
  have gi : l[i]? = some l[i] := List.getElem?_eq_getElem hi
  have hd : (l.drop i).headD 0 = l[i] := by rw [List.drop_eq_getElem_cons hi]; rfl
  have hnq := hnq _ gi
  have ret : ∀ (u : Nat) (f2 : Int) (H2 : Hp) (p : Addr), Same H H2 → H2 p = none → ExtOk l i u f2 → Q (.ref p) (upd H2 p (.lst [.int u, .int f2])) := fun u f2 H2 p s2 hp he =>
    q _ p u f2 (s2.trans (same_new hp _)) (s2.free hp) upd_same he
  generalize hci : l[i] = ci at *
  refine ⟨_, rfl, _, rfl, S l, i, _, rfl, rfl, S_line hl, at_S gi, _, rfl, ci, S letL, rfl, rfl, _, rfl, ?_⟩
  have lp : ∀ k : Nat, decide ((k : Int) < ((S l).length : Int)) = decide (k < l.length) := fun k => by rw [S_len]; exact lt_dec
  cases c1 : letc ci with
  | true =>
    refine iteT' ((in_letL ci).trans c1) ?_
    have hn : namc ci = true := by unfold namc; rw [c1]; rfl
    have hst : scanTok l i = scanName l i := by unfold scanTok; rw [hd, c1, if_pos rfl]
    have hge := twl_gt (f := namc) hi (by rw [hci]; exact hn)
    have hle := twl_le (f := namc) (Nat.le_of_lt hi)
    have hstart : twl namc l i = twl namc l (i + 1) := twl_step gi hn
    have hwl := word_len (l := l) (i := i) (j := twl namc l i) (by omega) hle
    refine ⟨fun m σ H' => ∃ k : Nat, σ = [some (.str (S l)), some (.int i), some (.str (S letL)), some (.int k), none, none, none, none, none] ∧ H' = H ∧ m = l.length - k ∧ k ≤ l.length ∧ twl namc l i = twl namc l k,
      ⟨_, i + 1, rfl, rfl, rfl, hi, hstart⟩, ?_⟩
    rintro m σ H' ⟨k, rfl, rfl, rfl, hk, e⟩
    have exOk : ∀ f2 : Int, twl namc l i = k → (f2 = if 30 < (word l i (twl namc l i)).length then (i : Int) else -1) → ExtOk l i k f2 := fun f2 ek ef => by
      unfold ExtOk
      rw [hst]
      unfold scanName
      by_cases c5 : 30 < (word l i (twl namc l i)).length
      · rw [if_pos c5] at ef ⊢
        subst ef
        exact ⟨(fun t h => by cases h), (fun c h => by cases h; exact ⟨rfl, Int.natCast_nonneg _⟩)⟩
      · rw [if_neg c5] at ef ⊢
        subst ef
        exact ⟨(fun t h => by cases h; exact ⟨ek.symm, rfl⟩), (fun c h => by cases h)⟩
    have finA : twl namc l i = k → decide ((30 : Int) < (k : Int) - (i : Int)) = true → ∀ p, H' p = none → Q (.ref p) (upd H' p (.lst [.int k, .int i])) := fun ek c5 p hp =>
      ret k i H' p (Same.refl H') hp (exOk _ ek (by have := of_decide_eq_true c5; rw [if_pos (by omega)]))
    have finB : twl namc l i = k → decide ((30 : Int) < (k : Int) - (i : Int)) = false → ∀ p, H' p = none → Q (.ref p) (upd H' p (.lst [.int k, .int (-1)])) := fun ek c5 p hp =>
      ret k (-1) H' p (Same.refl H') hp (exOk _ ek (by have := of_decide_eq_false c5; rw [if_neg (by omega)]))
    refine ⟨_, rfl, _, rfl, _, rfl, S_line hl, _, _, rfl, rfl, _, rfl, iteD (b := decide ((k : Int) < ((S l).length : Int))) (fun c => ?_) (fun c => ?_)⟩
    · rw [lp] at c
      have hk' : k < l.length := of_decide_eq_true c
      have g : l[k]? = some l[k] := List.getElem?_eq_getElem hk'
      refine ⟨_, rfl, _, rfl, S l, k, _, rfl, rfl, S_line hl, at_S g, _, rfl, _, _, rfl, rfl, (by rw [z.1, S_len, S_len]; decide), l[k], _, rfl, rfl, _, rfl, ?_⟩
      have e4 : decide (l[k] ∈ (S letL ++ Str.ofString "0123456789").cps.toList) = namc l[k] := by rw [z.1, S_cat]; exact in_namL _
      cases c4 : namc l[k] with
      | true =>
        refine iteT' (e4.trans c4) ⟨_, fun _ _ h => h, ?_⟩
        exact ⟨_, rfl, _, _, rfl, rfl, _, by omega, k + 1, rfl, rfl, rfl, by omega, by rw [e]; exact twl_step g c4⟩
      | false =>
        have ek : twl namc l i = k := by rw [e]; exact twl_stop g c4
        exact iteF' (e4.trans c4) ⟨_, rfl, _, rfl, _, rfl, _, _, rfl, rfl, _, _, rfl, rfl, _, rfl, iteD (b := decide ((30 : Int) < (k : Int) - (i : Int))) (fun c5 => ⟨_, rfl, two, fun p hp => finA ek c5 p hp⟩) (fun c5 => ⟨1, rfl, two, fun p hp => finB ek c5 p hp⟩)⟩
    · rw [lp] at c
      have hk' : k = l.length := by have := of_decide_eq_false c; omega
      have ek : twl namc l i = k := by rw [e, hk']; exact twl_end
      exact ⟨_, rfl, _, rfl, _, rfl, _, _, rfl, rfl, _, _, rfl, rfl, _, rfl, iteD (b := decide ((30 : Int) < (k : Int) - (i : Int))) (fun c5 => ⟨_, rfl, two, fun p hp => finA ek c5 p hp⟩) (fun c5 => ⟨1, rfl, two, fun p hp => finB ek c5 p hp⟩)⟩
  | false =>
  refine iteF' ((in_letL ci).trans c1) ?_
  refine ⟨_, rfl, _, rfl, S l, i, _, rfl, rfl, S_line hl, at_S gi, ci, _, rfl, rfl, _, rfl, ?_⟩
  have e10 : decide (ci ∈ (Str.ofString "0123456789").cps.toList) = isDig ci := by rw [z.1]; exact in_digL ci
  cases c2 : isDig ci with
  | true =>
    refine iteT' (e10.trans c2) ?_
    have hst : scanTok l i = scanNumber l i := by unfold scanTok; rw [hd, c1, c2]; rfl
    have hge := twl_gt (f := isDig) hi (by rw [hci]; exact c2)
    have hle := twl_le (f := isDig) (Nat.le_of_lt hi)
    have hstart : twl isDig l i = twl isDig l (i + 1) := twl_step gi c2
    have hwl := word_len (l := l) (i := i) (j := twl isDig l i) (by omega) hle
    have hwh : (word l i (twl isDig l i)).head? = some ci := by
      rw [word_tw, List.drop_eq_getElem_cons hi, hci, List.takeWhile_cons, if_pos c2]; rfl
    have hbad : digBad l i (twl isDig l i) = numBad l i := by
      unfold digBad numBad
      rw [hwl, hwh, hd]
      have e11 : decide (some ci = some 48) = decide (ci = 48) := by
        by_cases h : ci = 48
        · subst h; rfl
        · rw [decide_eq_false h, decide_eq_false (fun z => h (Option.some.inj z))]
      rw [e11]
      generalize decide (twl isDig l i < l.length) = b1
      generalize ((l.drop (twl isDig l i)).take 1).any letc = b2
      generalize decide (40 < twl isDig l i - i) = b3
      generalize decide (ci = 48) = b4
      generalize decide (1 < twl isDig l i - i) = b5
      cases b1 <;> cases b2 <;> cases b3 <;> cases b4 <;> cases b5 <;> rfl
    have done : ∀ (D : Ends) (k : Nat), D.rt = Q → twl isDig l i = k → i + 1 ≤ k → k ≤ l.length → td D [some (.str (S l)), some (.int i), some (.str (S letL)), some (.int k), none, none, none, none, none] H := fun D k hD ek k1 k2 =>
      hgd D l i k hD hl hi k1 k2 (fun f2 p hp ef => by
        refine ret k f2 H p (Same.refl H) hp ?_
        rw [← ek, hbad] at ef
        unfold ExtOk
        rw [hst]
        unfold scanNumber
        cases hnb : numBad l i with
        | true =>
          rw [hnb, if_pos rfl] at ef
          subst ef
          exact ⟨(fun t h => by cases h), (fun c h => by cases h; exact ⟨rfl, Int.natCast_nonneg _⟩)⟩
        | false =>
          rw [hnb, if_neg Bool.false_ne_true] at ef
          subst ef
          exact ⟨(fun t h => by cases h; exact ⟨ek.symm, rfl⟩), (fun c h => by cases h)⟩)
    refine ⟨fun m σ H' => ∃ k : Nat, σ = [some (.str (S l)), some (.int i), some (.str (S letL)), some (.int k), none, none, none, none, none] ∧ H' = H ∧ m = l.length - k ∧ k ≤ l.length ∧ i + 1 ≤ k ∧ twl isDig l i = twl isDig l k,
      ⟨_, i + 1, rfl, rfl, rfl, hi, Nat.le_refl _, hstart⟩, ?_⟩
    rintro m σ H' ⟨k, rfl, rfl, rfl, hk, hk1, e⟩
    refine ⟨_, rfl, _, rfl, _, rfl, S_line hl, _, _, rfl, rfl, _, rfl, iteD (b := decide ((k : Int) < ((S l).length : Int))) (fun c => ?_) (fun c => ?_)⟩
    · rw [lp] at c
      have hk' : k < l.length := of_decide_eq_true c
      have g : l[k]? = some l[k] := List.getElem?_eq_getElem hk'
      refine ⟨_, rfl, _, rfl, S l, k, _, rfl, rfl, S_line hl, at_S g, l[k], _, rfl, rfl, _, rfl, ?_⟩
      have e4 : decide (l[k] ∈ (Str.ofString "0123456789").cps.toList) = isDig l[k] := by rw [z.1]; exact in_digL _
      cases c4 : isDig l[k] with
      | true =>
        refine iteT' (e4.trans c4) ⟨_, fun _ _ h => h, ?_⟩
        exact ⟨_, rfl, _, _, rfl, rfl, _, by omega, k + 1, rfl, rfl, rfl, by omega, by omega, by rw [e]; exact twl_step g c4⟩
      | false =>
        exact iteF' (e4.trans c4) (done _ k rfl (by rw [e]; exact twl_stop g c4) hk1 hk)
    · rw [lp] at c
      have hk' : k = l.length := by have := of_decide_eq_false c; omega
      exact done _ k rfl (by rw [e, hk']; exact twl_end) hk1 hk
  | false =>
  refine iteF' (e10.trans c2) ?_
  have hst : scanTok l i = scanSign l i := by unfold scanTok; rw [hd, c1, c2, if_neg Bool.false_ne_true, if_neg Bool.false_ne_true, if_neg hnq]
  have hfl := find_long (l.drop i)
  refine ⟨by show 3 ≤ sizeLine; omega, fun p0 hp0 => ?_⟩
  have exS : ∀ n : Nat, (l.drop i).take n ∈ SG → SG.find? (fun s => decide ((l.drop i).take s.length = s)) = some ((l.drop i).take n) → ExtOk l i (i + ((l.drop i).take n).length) (-1) := fun n hn hf => by
    unfold ExtOk
    rw [hst]
    unfold scanSign
    rw [hf]
    exact ⟨(fun t h => by cases h; exact ⟨rfl, rfl⟩), (fun c h => by cases h)⟩
  have hsz : ∀ j : Nat, ∀ x : V, ([.int 3, .int 2, .int 1] : List V)[j]? = some x → ∃ n : Nat, n = 3 - j ∧ j < 3 ∧ x = .int (n : Nat) := fun j x h => by
    match j, h with
    | 0, h => exact ⟨3, rfl, by decide, (Option.some.inj h).symm⟩
    | 1, h => exact ⟨2, rfl, by decide, (Option.some.inj h).symm⟩
    | 2, h => exact ⟨1, rfl, by decide, (Option.some.inj h).symm⟩
    | j + 3, h => simp at h
  refine ⟨p0, rfl, ⟨_, SqL.of upd_same⟩, for_it (walk_list (xs := [.int 3, .int 2, .int 1])) (fun j σ H' => (∃ y y2, σ = [some (.str (S l)), some (.int i), some (.str (S letL)), some (.int ((i + 1 : Nat) : Int)), none, none, none, y, y2]) ∧ Same H H' ∧ H' p0 = some (.lst [.int 3, .int 2, .int 1]) ∧ ∀ n, 3 < n + j → n ≤ 3 → ¬ (l.drop i).take n ∈ SG)
    ⟨⟨none, none, rfl⟩, same_new hp0 _, upd_same, fun n h1 h2 => by omega⟩ (fun j σ H' _ h => SqL.of h.2.2.1) ?_ ?_⟩
  · rintro j x σ H1 H2 hj ⟨⟨y, y2, rfl⟩, sm, hl0, hno⟩ ⟨rfl, hx⟩
    obtain ⟨n, hn, hj3, rfl⟩ := hsz j x hx
    refine ⟨_, rfl, _, rfl, _, rfl, _, rfl, _, rfl, _, _, rfl, rfl, _, rfl, S l, rfl, S_line hl, ?_⟩
    have ecut : cutS (S l) (some (i : Int)) (some ((i : Int) + (n : Int))) = S ((l.drop i).take n) := by
      have := cut_nn l i (i + n) (by omega)
      rw [Nat.add_sub_cancel_left] at this
      exact this
    rw [ecut]
    refine ⟨_, rfl, rfl, fun ps H3 sm3 hps hls => ?_⟩
    refine ⟨ps, _, rfl, .inl (SqL.of hls), rfl, flat_strs SG, _, rfl, ?_⟩
    have e12 := in_strs ((l.drop i).take n) SG
    by_cases c5 : (l.drop i).take n ∈ SG
    · refine iteT' (e12.trans (decide_eq_true c5)) ?_
      have hf : SG.find? (fun s => decide ((l.drop i).take s.length = s)) = some ((l.drop i).take n) := by
        rw [hfl]
        match j, hj3, hn with
        | 0, _, hn => subst hn; rw [if_pos c5]
        | 1, _, hn => subst hn; rw [if_neg (hno 3 (by omega) (by omega)), if_pos c5]
        | 2, _, hn => subst hn; rw [if_neg (hno 3 (by omega) (by omega)), if_neg (hno 2 (by omega) (by omega)), if_pos c5]
      have hlen : ((l.drop i).take n).length ≤ 3 := by rw [List.length_take]; omega
      refine ⟨_, rfl, _, rfl, _, rfl, by show (S ((l.drop i).take n)).length ≤ sizeLine; rw [S_len]; omega, _, _, rfl, rfl, 1, rfl, two, fun p hp => ?_⟩
      have := ret (i + ((l.drop i).take n).length) (-1) H3 p (sm.trans sm3) hp (exS n c5 hf)
      rw [S_len]
      exact this
    · refine iteF' (e12.trans (decide_eq_false c5)) ⟨⟨_, _, rfl⟩, sm.trans sm3, sm3 _ _ hl0, fun m h1 h2 => ?_⟩
      by_cases hm : m = n
      · subst hm; exact c5
      · exact hno m (by omega) h2
  · rintro σ H1 ⟨⟨y, y2, rfl⟩, sm, hl0, hno⟩
    refine ⟨_, rfl, _, _, rfl, rfl, _, rfl, two, fun p hp => ?_⟩
    refine ret (i + 1) i H1 p sm hp ?_
    have hno' : ∀ n, 3 < n + 3 → n ≤ 3 → ¬ (l.drop i).take n ∈ SG := hno
    unfold ExtOk
    rw [hst]
    unfold scanSign
    rw [hfl, if_neg (hno' 3 (by omega) (by omega)), if_neg (hno' 2 (by omega) (by omega)), if_neg (hno' 1 (by omega) (by omega))]
    exact ⟨(fun t h => by cases h), (fun c h => by cases h; exact ⟨rfl, Int.natCast_nonneg _⟩)⟩
end
end D0
namespace D0
open PySem PySem.Spec PyProof.Rows L2 SX NumText
theorem op_mulS {X : Cx} : OpR X (binaryOp .Mult) (fun x y H Q => ∃ z n, x = .str z ∧ y = .int n ∧ MulOk z n ∧ Q (.str (Txt.mul z n)) H) := by
  intro pins s σ H x y v u Q I rx ry h
  obtain ⟨z, n, rfl, rfl, hok, q⟩ := h
  obtain ⟨t, rfl⟩ := rx
  obtain ⟨t2, rfl⟩ := ry
  exact PySem.SB.mul hok fun t' k => ⟨.str (Txt.mul z n), H, I.tok k, ⟨t', rfl⟩, q⟩
theorem rep_size (a : Array Nat) : ∀ (m : Nat) (acc : Array Nat), ((List.replicate m a).foldl (· ++ ·) acc).size = acc.size + m * a.size
  | 0, acc => by simp
  | m + 1, acc => by
    rw [List.replicate_succ, List.foldl_cons, rep_size a m, Array.size_append, Nat.succ_mul]
    omega
theorem mul_len {z : Str} {n : Int} (hz : z.length = 1) : (Txt.mul z n).length ≤ n.toNat := by
  unfold Txt.mul
  split
  · exact Nat.zero_le _
  · split
    · rw [hz]; omega
    · show ((List.replicate n.toNat z.cps).foldl (· ++ ·) #[]).size ≤ _
      have hz : z.cps.size = 1 := hz
      rw [rep_size, hz]; simp
theorem mul_ok {z : Str} {n : Int} (hz : z.length = 1) (h0 : -10 ≤ n) (h1 : n ≤ 10000) : MulOk z n := by
  refine ⟨?_, fun a _ => ?_, fun _ _ => ?_⟩
  · rw [Bool.or_eq_false_iff]
    exact ⟨decide_eq_false (by omega), decide_eq_false (by omega)⟩
  · rw [hz]
    have : (1 : Int) ≤ (2 ^ 63 - 1) / n := (Int.le_ediv_iff_mul_le (by omega)).mpr (by omega)
    omega
  · rw [hz]
    show decide (1 * n.toNat > sizeLine) = false
    refine decide_eq_false ?_
    have : sizeLine = 16777216 := sizeLine_eq
    omega
theorem str_S (s : Str) : ∃ l : List Nat, s = S l ∧ l.length = s.length := ⟨s.cps.toList, by cases s; simp [S], by cases s; simp; rfl⟩
/-- spaces: a text of at most n signs -/
theorem spaces {n : Int} (h1 : n ≤ 10000) : ∃ l : List Nat, Txt.mul (Str.ofString " ") n = S l ∧ l.length ≤ n.toNat := by
  obtain ⟨l, e, hl⟩ := str_S (Txt.mul (Str.ofString " ") n)
  exact ⟨l, e, by rw [hl]; exact mul_len (by decide +kernel)⟩
def dS (ls : List (List Nat)) : List PyData := ls.map fun l => .str (S l)
theorem dS_dp {K : PySem.W.Frag} {H : Hp} : ∀ ls : List (List Nat), DpAll K H (ls.map fun l => V.str (S l)) (dS ls)
  | [] => .nil
  | n :: r => .cons (.str _) (dS_dp r)
theorem dS_sh : ∀ ns : List (List Nat), (∀ l ∈ ns, PyData.strOk (S l) = true) → PyData.canLayAll0 (dS ns) = true ∧ PyData.depthAll (dS ns) ≤ 2
  | [], _ => ⟨rfl, by decide⟩
  | n :: r, h => by
    obtain ⟨a, b⟩ := dS_sh r fun l hl => h l (List.mem_cons_of_mem _ hl)
    unfold dS at a b ⊢
    refine ⟨?_, ?_⟩
    · rw [List.map_cons, PyData.canLayAll0, a, Bool.and_true, PyData.canLay0]; exact h n List.mem_cons_self
    · rw [List.map_cons, PyData.depthAll]
      exact Nat.max_le.mpr ⟨by show PyData.depth (.str _) ≤ 2; unfold PyData.depth; decide, b⟩
theorem dS_shaped (ns : List (List Nat)) (h : ∀ l ∈ ns, PyData.strOk (S l) = true) : SeqAt.shaped (.list (dS ns)) = true := by
  obtain ⟨a, b⟩ := dS_sh ns h
  unfold SeqAt.shaped
  rw [PyData.canLay0, a, PyData.depth]
  exact decide_eq_true (by omega)
/-- the closers -/
def CLS : List (List Nat) := [[41], [93], [125]]
theorem CLS_ok : ∀ l ∈ CLS, PyData.strOk (S l) = true := by decide +kernel
theorem dS_nil (ns : List (List Nat)) : PyData.eqv (.list (dS ns)) (.list []) = decide (ns = []) := by
  cases ns with
  | nil => rfl
  | cons d r => rfl
/-- the list of widths at a -/
structure Wid (H : Hp) (a : Addr) (M : Nat) : Prop where
  ex : ∃ ws : List Nat, H a = some (.lst (ws.map fun n => V.int (n : Nat))) ∧ ws ≠ [] ∧ ws.length ≤ M ∧ ∀ n ∈ ws, n ≤ M
theorem Wid.up {H : Hp} {a : Addr} {M N : Nat} (h : Wid H a M) (k : M ≤ N) : Wid H a N := by
  obtain ⟨ws, h1, h2, h3, h4⟩ := h.ex
  exact ⟨ws, h1, h2, by omega, fun n hn => Nat.le_trans (h4 n hn) k⟩
def spRowEnd : Sp := fun vs H Q _ => ∃ (b wa ca : Addr) (cs : List (List Nat)) (M : Nat) (bends : Int), vs = [.ref b, .ref wa, .ref ca, .int bends] ∧ Bag H b ∧ Wid H wa M ∧ H ca = some (.lst (cs.map fun l => V.str (S l))) ∧ (∀ l ∈ cs, l ∈ CLS) ∧ wa ≠ b ∧ ca ≠ b ∧ ca ≠ wa ∧ 9 ≤ M ∧ M ≤ 1000 ∧
  ∀ (l : List Nat) H', l.length ≤ M + 60 → Bag H' b → Wid H' wa (M + 5) → (∀ a o, a ≠ b → a ≠ wa → H a = some o → H' a = some o) → Q (.str (S l)) H'
section
variable {P : Program} {w : World} {K : PySem.W.Frag} {mg : Str → Option Value} {base : Heap}
theorem ok__law_row_end (T : Txt K w mg) (Ot : OkD P w K mg base CX0 1 "_law_take" p__law_take spTake) (Oc : OkD P w K mg base CX0 2 "_law_comment" p__law_comment (spTxt 7)) : OkD P w K mg base CX0 3 "_law_row_end" p__law_row_end spRowEnd := by
  refine T.g__law_row_end.ok sc__law_row_end (fun vs H Q E h => ?_) (fun f cdv A outer s H vs Q E hr h => ?_)
  · obtain ⟨b, wa, ca, cs, M, bends, rfl, _⟩ := h; rfl
  obtain ⟨b, wa, ca, cs, M, bends, rfl, hb, hW, hc, hcs, nwb, ncb, ncw, hM, hM2, q⟩ := h
  have zn : Str.ofString "\n" = S [10] := by decide +kernel
  have lim : (1000000 : Nat) ≤ sizeLine := by decide
  have sp1 : (Str.ofString " ").length = 1 := by decide +kernel
  -- the last part: kept, widths anew
  refine split_at 9 (fun t => ∀ (l : List Nat) (wd : Nat) (H1 : Hp) (wy ky oy : Option V), l.length ≤ 50 → wd ≤ M + 5 → Bag H1 b → Wid H1 wa (M + 5) → (∀ a o, a ≠ b → a ≠ wa → H a = some o → H1 a = some o) →
    t { nx := fun _ H' => Q .non H', rt := Q } [some (.ref b), some (.ref wa), some (.ref ca), some (.int bends), some (.str (S l)), wy, some (.int (wd : Nat)), ky, oy] H1) ?_ (fun t9 ht9 hg9 => ?_)
  · refine ⟨_, (pss_one (ps_ret (pe_op op_add_str (pv 4) (pe_op op_mulS pe_str (pv 6))))), ?_⟩
    intro l wd H1 wy ky oy hl hwd hb1 hW1 kp
    refine ⟨_, rfl, _, rfl, _, _, rfl, rfl, mul_ok sp1 (by omega) (by omega), ?_⟩
    obtain ⟨m, em, hm⟩ := spaces (n := (wd : Int)) (by omega)
    rw [em]
    refine ⟨_, _, rfl, rfl, by rw [S_len, S_len]; omega, ?_⟩
    rw [S_cat]
    exact q _ H1 (by rw [List.length_append]; omega) hb1 hW1 kp
  refine split_at 8 (fun t => ∀ (l : List Nat) (wd : Nat) (H1 : Hp) (wy : Option V), l.length ≤ 50 → wd ≤ M + 5 → Bag H1 b → Wid H1 wa M → (∀ a o, a ≠ b → a ≠ wa → H a = some o → H1 a = some o) →
    t { nx := fun _ H' => Q .non H', rt := Q } [some (.ref b), some (.ref wa), some (.ref ca), some (.int bends), some (.str (S l)), wy, some (.int (wd : Nat)), none, none] H1) ?_ (fun t ht hg => ?_)
  · refine ⟨_, pss_cons (ps_if (pt_cmpR (op_eqD hr.units) (pv 2) (pe_lst pa_nil) (nomark _)) (pss_cons (ps_set (i := 7) sc__law_row_end.nd rfl (.inl rfl) (pe_op op_cat (pe_lc (own := [("one", 8)]) (g := gName 8) (by rfl) sc__law_row_end.nd (pi_list (pv 1)) (blkOk_by (own := [("one", 8)]) (N := n__law_row_end) (sc := defScope s__law_row_end) (by decide +kernel))
          (fun _ _ _ _ _ => (pg_name (i := 8) sc__law_row_end.nd rfl (Or.inl rfl))) (fun _ _ _ _ _ => pts_one (pt_cmpR op_lt (pv 8) (pv 6) (nomark _))) (fun _ _ _ _ _ => pv 8)) (pe_lst (pa_cons (pv 6) pa_nil))))
      (pss_cons (ps_expr (pe_bm0 PySem.F.plainAttrs_list PySem.F.slot_list_clear PySem.F.type_list_clear mt_clear (pv 1)))
      (pss_one (ps_expr (pe_bm PySem.F.plainAttrs_list PySem.F.slot_list_extend PySem.F.type_list_extend mt_extend (pv 1) (pa_cons (pv 7) pa_nil)))))) pss_nil) ht9, ?_⟩
    intro l wd H1 wy hl hwd hb1 hW1 kp
    obtain ⟨ws, e1, e2, e3, e4⟩ := hW1.ex
    have hc1 := kp ca _ ncb ncw hc
    refine ⟨_, rfl, by show 0 ≤ sizeLine; omega, fun p hp => ?_⟩
    have np : ca ≠ p := ne_of_none hc1 hp
    have nbp : b ≠ p := (hb1.ne hp).symm
    have nwp : wa ≠ p := ne_of_none e1 hp
    have sm1 := same_new hp (.lst [])
    refine ⟨.list (dS cs), .list [], .lst (SqL.of (sm1 _ _ hc1)) (dS_dp _), .lst (SqL.of upd_same) .nil, dS_shaped _ (fun l hl => CLS_ok l (hcs l hl)), by decide, _, rfl, ?_⟩
    rw [dS_nil]
    refine iteD (b := decide (cs = [])) (fun c => ?_) (fun c => ?_)
    · refine ⟨_, rfl, wa, rfl, ⟨_, SqL.of (sm1 _ _ e1)⟩, fun D hD => ?_⟩
      have nD : wa ≠ D := ne_of_none (sm1 _ _ e1) hD
      have nbD : b ≠ D := ((hb1.same sm1).ne hD).symm
      refine lc_it (walk_list (xs := ws.map fun n => V.int (n : Nat))) (fun i H' => Same (upd H1 p (.lst [])) H' ∧ ∃ vs : List Nat, H' D = some (.lst (vs.map fun n => V.int (n : Nat))) ∧ vs.length ≤ i ∧ ∀ n ∈ vs, n ≤ M) ⟨same_new hD _, [], upd_same, Nat.le_refl _, fun n hn => by cases hn⟩ (fun i H' _ h => SqL.of (h.1 _ _ (sm1 _ _ e1))) ?_ ?_
      · rintro i x H3 H4 hi ⟨sm3, vs, hl3, hv3, hv4⟩ ⟨rfl, hx⟩
        rw [List.getElem?_map] at hx
        obtain ⟨n, hs, rfl⟩ := Option.map_eq_some_iff.mp hx
        have hnM := e4 n (List.mem_of_getElem? hs)
        have hil : i < ws.length := (List.getElem?_eq_some_iff.mp hs).1
        refine ⟨rfl, _, rfl, _, rfl, _, _, rfl, rfl, _, rfl, iteD (b := decide ((n : Int) < (wd : Int))) (fun c2 => ?_) (fun c2 => ?_)⟩
        · refine ⟨_, rfl, _, hl3, by rw [List.length_map]; omega, same_upd sm3 hD, vs ++ [n], by rw [upd_same, List.map_append]; rfl, by rw [List.length_append]; show _ + 1 ≤ _; omega, fun m hm => ?_⟩
          rcases List.mem_append.mp hm with h | h
          · exact hv4 m h
          · rw [List.mem_singleton.mp h]; exact hnM
        · exact ⟨sm3, vs, hl3, by omega, hv4⟩
      · rintro H3 ⟨sm3, vs, hl3, hv3, hv4⟩
        rw [List.length_map] at hv3
        refine ⟨_, rfl, by show 1 ≤ sizeLine; omega, fun g hg => ?_⟩
        have nDg : D ≠ g := ne_of_none hl3 hg
        have hw3 := sm3 _ _ (sm1 _ _ e1)
        have nwg : wa ≠ g := ne_of_none hw3 hg
        refine ⟨D, g, vs.map fun n => V.int (n : Nat), _, rfl, rfl, by rw [upd_ne nDg]; exact hl3, upd_same, by rw [List.length_map]; show _ + 1 ≤ _; omega, fun u hu => ?_⟩
        have s4 := sm3.trans (same_new hg (.lst [V.int (wd : Nat)]))
        have s5 := s4.trans (same_new hu (.lst ((vs.map fun n => V.int (n : Nat)) ++ [V.int (wd : Nat)])))
        have hw5 := s5 _ _ (sm1 _ _ e1)
        have nwu : wa ≠ u := ne_of_none (s4 _ _ (sm1 _ _ e1)) hu
        refine ⟨_, rfl, .inl ⟨rfl, _, SqL.of hw5⟩, wa, _, rfl, rfl, hw5, ?_⟩
        refine ⟨_, rfl, .inl ⟨rfl, _, SqL.of upd_same⟩, _, rfl, wa, u, [], _, rfl, rfl, upd_same, by rw [upd_ne (Ne.symm nwu), upd_same], by rw [List.length_append, List.length_map]; show 0 + (_ + 1) ≤ _; omega, ?_⟩
        have hk : ∀ a o, a ≠ b → a ≠ wa → H a = some o → upd (upd (upd (upd H3 g (.lst [V.int (wd : Nat)])) u (.lst ((vs.map fun n => V.int (n : Nat)) ++ [V.int (wd : Nat)]))) wa (.lst [])) wa (.lst ([] ++ ((vs.map fun n => V.int (n : Nat)) ++ [V.int (wd : Nat)]))) a = some o := fun a o n1 n2 e => by
          rw [upd_ne n2, upd_ne n2]; exact s5 _ _ (sm1 _ _ (kp a o n1 n2 e))
        have hbb : Bag (upd (upd (upd (upd H3 g (.lst [V.int (wd : Nat)])) u (.lst ((vs.map fun n => V.int (n : Nat)) ++ [V.int (wd : Nat)]))) wa (.lst [])) wa (.lst ([] ++ ((vs.map fun n => V.int (n : Nat)) ++ [V.int (wd : Nat)])))) b := by
          obtain ⟨c1, c2, c3, e⟩ := (hb1.same sm1).same s5
          exact ⟨c1, c2, c3, by rw [upd_ne (Ne.symm nwb), upd_ne (Ne.symm nwb)]; exact e⟩
        refine hg9 l wd _ wy _ _ hl hwd hbb ⟨vs ++ [wd], ?_, by simp, by rw [List.length_append]; show _ + 1 ≤ _; omega, fun n hn => ?_⟩ hk
        · rw [upd_same, List.map_append]; rfl
        · rcases List.mem_append.mp hn with h | h
          · have := hv4 n h; omega
          · rw [List.mem_singleton.mp h]; exact hwd
    · exact hg9 l wd _ wy none none hl hwd (hb1.same sm1) ⟨ws, sm1 _ _ e1, e2, by omega, fun n hn => by have := e4 n hn; omega⟩ (fun a o n1 n2 e => sm1 _ _ (kp a o n1 n2 e))
  refine split_at 5 (fun t => ∀ (l : List Nat) (H1 : Hp), l.length ≤ 50 → Stp b H H1 →
    t { nx := fun _ H' => Q .non H', rt := Q } [some (.ref b), some (.ref wa), some (.ref ca), some (.int bends), some (.str (S l)), none, none, none, none] H1) ?_ (fun t5 ht5 hg5 => ?_)
  · refine ⟨_, pss_cons (ps_set (i := 5) sc__law_row_end.nd rfl (.inl rfl) (pcall Ot hr (pa_cons (pv 0) (pa_cons pe_int pa_nil)))) (pss_cons (ps_set (i := 6) sc__law_row_end.nd rfl (.inr rfl) (pe_ix ix_list (pv 1) (pe_un un_neg pe_int) (fun _ _ => rfl))) (pss_cons
      (ps_if (PW.pt (pw_or (pt_cmpR (op_neD hr.units) (pv 2) (pe_lst pa_nil) (nomark _)) (pw_or1 (PW.pt (pw_and (pt_cmpR op_eq (pv 5) pe_int (nomark _)) (pw_and1 (pt_cmpR op_gt (pv 3) pe_int (nomark _)))))))) (pss_one (ps_set (i := 6) sc__law_row_end.nd rfl (.inr rfl) (pcall Ot hr (pa_cons (pv 0) (pa_cons pe_int pa_nil))))) (pss_one (ps_if (pt_cmpR op_gt (pv 5) pe_int (nomark _)) (pss_one (ps_set (i := 6) sc__law_row_end.nd rfl (.inr rfl) (pe_ix ix_list (pv 1) (pcall Ot hr (pa_cons (pv 0) (pa_cons (pe_callB call_len_seq (by rfl) T.z_len PySem.boot_len (pa_cons (pv 1) pa_nil)) pa_nil))) (fun _ _ => rfl)))) (pss_one (ps_if (pt_cmpR op_gt (pv 5) pe_int (nomark _)) (pss_one (ps_set (i := 6) sc__law_row_end.nd rfl (.inr rfl) (pe_op op_add (pe_op op_add (pv 6) pe_int) (pcall Ot hr (pa_cons (pv 0) (pa_cons pe_int pa_nil)))))) pss_nil))))) ht)), ?_⟩
    intro l H1 hl st
    obtain ⟨ws, e1, e2, e3, e4⟩ := hW.ex
    have hc1 := st.keep ca _ ncb hc
    have hw1 := st.keep wa _ nwb e1
    obtain ⟨n0, hn0, hn1⟩ : ∃ n : Nat, atI (ws.map fun n => V.int (n : Nat)) (-1) = some (V.int (n : Nat)) ∧ n ≤ M := by
      obtain ⟨ys, y, rfl⟩ : ∃ ys y, ws = ys ++ [y] := ⟨ws.dropLast, ws.getLast e2, (List.dropLast_concat_getLast e2).symm⟩
      exact ⟨y, by rw [List.map_append]; exact atI_last _ _, e4 _ (by simp)⟩
    have kp : ∀ {H2 : Hp}, Stp b H H2 → Bag H2 b ∧ Wid H2 wa M ∧ (∀ a o, a ≠ b → a ≠ wa → H a = some o → H2 a = some o) := fun s2 => ⟨s2.b1, ⟨ws, s2.keep wa _ nwb e1, e2, e3, e4⟩, fun a o n1 _ e => s2.keep a o n1 e⟩
    refine ⟨_, rfl, b, 16, rfl, st.b1, by decide, by decide, fun r H2 r0 r1 st2 => ?_⟩
    have s2 := st.trans st2
    refine ⟨_, rfl, 1, rfl, wa, _, -1, _, rfl, rfl, SqL.of (s2.keep wa _ nwb e1), hn0, ?_⟩
    refine ⟨_, rfl, by show 0 ≤ sizeLine; omega, fun p hp => ?_⟩
    have hc2 := s2.keep ca _ ncb hc
    have sm1 := same_new hp (.lst [])
    have st3 := s2.trans (Stp.same s2.b1 sm1)
    refine ⟨.list (dS cs), .list [], .lst (SqL.of (sm1 _ _ hc2)) (dS_dp _), .lst (SqL.of upd_same) .nil, dS_shaped _ (fun l hl => CLS_ok l (hcs l hl)), by decide, _, rfl, ?_⟩
    rw [dS_nil]
    refine iteD (b := !decide (cs = [])) (fun c => ?_) (fun c => ?_)
    · exact ⟨_, rfl, b, 9, rfl, st3.b1, by decide, by decide, fun r3 H3 r30 r31 st4 => by
      have := hg l r3.toNat H3 (some (.int r)) hl (by omega) (kp (st3.trans st4)).1 (kp (st3.trans st4)).2.1 (kp (st3.trans st4)).2.2
      rw [show ((r3.toNat : Nat) : Int) = r3 by omega] at this
      exact this⟩
    refine ⟨_, rfl, rfl, _, rfl, iteD (b := decide (V.int r = V.int 15)) (fun c => ?_) (fun c => ?_)⟩
    · refine ⟨_, rfl, _, _, rfl, rfl, _, rfl, iteD (b := decide ((0 : Int) < bends)) (fun c => ?_) (fun c => ?_)⟩
      · exact ⟨_, rfl, b, 9, rfl, st3.b1, by decide, by decide, fun r3 H3 r30 r31 st4 => by
        have := hg l r3.toNat H3 (some (.int r)) hl (by omega) (kp (st3.trans st4)).1 (kp (st3.trans st4)).2.1 (kp (st3.trans st4)).2.2
        rw [show ((r3.toNat : Nat) : Int) = r3 by omega] at this
        exact this⟩
      · exact ⟨_, rfl, _, _, rfl, rfl, _, rfl, iteD (b := decide ((11 : Int) < r)) (fun _ => by
      refine ⟨_, rfl, _, rfl, _, rfl, wa, _, rfl, .inl (SqL.of (st3.keep wa _ nwb e1)), b, (ws.length : Int), by rw [List.length_map]; rfl, st3.b1, ?_, by omega, fun r3 H3 r30 r31 st4 => ?_⟩
      · have := List.length_pos_iff.mpr e2; omega
      obtain ⟨k, rfl⟩ : ∃ k : Nat, r3 = (k : Int) := ⟨r3.toNat, by omega⟩
      have hk : k < ws.length := by omega
      refine ⟨wa, _, _, .int (ws[k] : Nat), rfl, rfl, SqL.of ((st3.trans st4).keep wa _ nwb e1), atI_nat (by rw [List.getElem?_map, List.getElem?_eq_getElem hk]; rfl), ?_⟩
      have h4 := e4 _ (List.getElem_mem hk)
      exact hg l ws[k] H3 (some (.int r)) hl (by omega) (kp (st3.trans st4)).1 (kp (st3.trans st4)).2.1 (kp (st3.trans st4)).2.2) (fun _ => by
      refine ⟨_, rfl, _, _, rfl, rfl, _, rfl, iteD (b := decide ((8 : Int) < r)) (fun _ => ?_) (fun _ => ?_)⟩
      · refine ⟨_, rfl, _, _, rfl, rfl, _, rfl, b, 4, rfl, st3.b1, by decide, by decide, fun r3 H3 r30 r31 st4 => ⟨_, _, rfl, rfl, ?_⟩⟩
        have := hg l (n0 + 1 + r3.toNat) H3 (some (.int r)) hl (by omega) (kp (st3.trans st4)).1 (kp (st3.trans st4)).2.1 (kp (st3.trans st4)).2.2
        rw [show ((n0 + 1 + r3.toNat : Nat) : Int) = (n0 : Int) + 1 + r3 by omega] at this
        exact this
      · exact hg l n0 _ (some (.int r)) hl (by omega) (kp st3).1 (kp st3).2.1 (kp st3).2.2)⟩
    · exact ⟨_, rfl, _, _, rfl, rfl, _, rfl, iteD (b := decide ((11 : Int) < r)) (fun _ => by
      refine ⟨_, rfl, _, rfl, _, rfl, wa, _, rfl, .inl (SqL.of (st3.keep wa _ nwb e1)), b, (ws.length : Int), by rw [List.length_map]; rfl, st3.b1, ?_, by omega, fun r3 H3 r30 r31 st4 => ?_⟩
      · have := List.length_pos_iff.mpr e2; omega
      obtain ⟨k, rfl⟩ : ∃ k : Nat, r3 = (k : Int) := ⟨r3.toNat, by omega⟩
      have hk : k < ws.length := by omega
      refine ⟨wa, _, _, .int (ws[k] : Nat), rfl, rfl, SqL.of ((st3.trans st4).keep wa _ nwb e1), atI_nat (by rw [List.getElem?_map, List.getElem?_eq_getElem hk]; rfl), ?_⟩
      have h4 := e4 _ (List.getElem_mem hk)
      exact hg l ws[k] H3 (some (.int r)) hl (by omega) (kp (st3.trans st4)).1 (kp (st3.trans st4)).2.1 (kp (st3.trans st4)).2.2) (fun _ => by
      refine ⟨_, rfl, _, _, rfl, rfl, _, rfl, iteD (b := decide ((8 : Int) < r)) (fun _ => ?_) (fun _ => ?_)⟩
      · refine ⟨_, rfl, _, _, rfl, rfl, _, rfl, b, 4, rfl, st3.b1, by decide, by decide, fun r3 H3 r30 r31 st4 => ⟨_, _, rfl, rfl, ?_⟩⟩
        have := hg l (n0 + 1 + r3.toNat) H3 (some (.int r)) hl (by omega) (kp (st3.trans st4)).1 (kp (st3.trans st4)).2.1 (kp (st3.trans st4)).2.2
        rw [show ((n0 + 1 + r3.toNat : Nat) : Int) = (n0 : Int) + 1 + r3 by omega] at this
        exact this
      · exact hg l n0 _ (some (.int r)) hl (by omega) (kp st3).1 (kp st3).2.1 (kp st3).2.2)⟩
  refine split_at 4 (fun t => ∀ (l : List Nat) (H1 : Hp), l.length ≤ 17 → Stp b H H1 →
    t { nx := fun _ H' => Q .non H', rt := Q } [some (.ref b), some (.ref wa), some (.ref ca), some (.int bends), some (.str (S l)), none, none, none, none] H1) ?_ (fun t4 ht4 hg4 => ?_)
  · refine ⟨_, pss_cons (ps_if (pt_cmpR op_eq (pcall Ot hr (pa_cons (pv 0) (pa_cons pe_int pa_nil))) pe_int (nomark _)) (pss_one (ps_set (i := 4) sc__law_row_end.nd rfl (.inl rfl) (pe_op op_add_str (pe_op op_add_str (pe_op op_add_str (pv 4) (pe_op op_mulS pe_str (pcall Ot hr (pa_cons (pv 0) (pa_cons pe_int pa_nil))))) (pcall Oc hr (pa_cons (pv 0) pa_nil))) pe_str))) pss_nil) ht5, ?_⟩
    intro l H1 hl st
    refine ⟨_, rfl, b, 7, rfl, st.b1, by decide, by decide, fun r H2 r0 r1 st2 => ⟨rfl, _, rfl, iteD (b := decide (V.int r = V.int 0)) (fun _ => ?_) (fun _ => hg5 l H2 (by omega) (st.trans st2))⟩⟩
    refine ⟨_, rfl, _, rfl, b, 7, rfl, st2.b1, by decide, by decide, fun r3 H3 r30 r31 st3 => ⟨_, _, rfl, rfl, mul_ok sp1 (by omega) (by omega), ?_⟩⟩
    obtain ⟨m, em, hm⟩ := spaces (n := r3) (by omega)
    rw [em]
    refine ⟨_, _, rfl, rfl, by rw [S_len, S_len]; omega, ?_⟩
    rw [S_cat]
    refine ⟨_, rfl, b, rfl, st3.b1, fun m2 H4 hm2 st4 => ⟨_, _, rfl, rfl, by rw [S_len, S_len, List.length_append]; omega, ?_⟩⟩
    rw [S_cat]
    refine ⟨_, _, rfl, rfl, by rw [zn, S_len, S_len, List.length_append, List.length_append]; show _ + 1 ≤ _; omega, ?_⟩
    rw [zn, S_cat]
    exact hg5 _ H4 (by rw [List.length_append, List.length_append, List.length_append]; show _ + 1 ≤ _; omega) (st.trans (st2.trans (st3.trans st4)))
  refine split_at 2 (fun t => ∀ (l : List Nat) (H1 : Hp), l.length ≤ 8 → Stp b H H1 →
    t { nx := fun _ H' => Q .non H', rt := Q } [some (.ref b), some (.ref wa), some (.ref ca), some (.int bends), some (.str (S l)), none, none, none, none] H1) ?_ (fun t2 ht2 hg2 => ?_)
  · refine ⟨_, pss_cons (ps_set (i := 4) sc__law_row_end.nd rfl (.inl rfl) (pe_op op_add_str (pv 4) pe_str)) (pss_cons (ps_if (pt_cmpR op_eq (pcall Ot hr (pa_cons (pv 0) (pa_cons pe_int pa_nil))) pe_int (nomark _)) (pss_one (ps_set (i := 4) sc__law_row_end.nd rfl (.inl rfl) (pe_op op_add_str (pe_op op_add_str (pv 4) (pe_op op_mulS pe_str (pcall Ot hr (pa_cons (pv 0) (pa_cons pe_int pa_nil))))) pe_str))) pss_nil) ht4), ?_⟩
    intro l H1 hl st
    refine ⟨_, rfl, _, _, rfl, rfl, by rw [zn, S_len, S_len]; show _ + 1 ≤ _; omega, ?_⟩
    rw [zn, S_cat]
    have hl1 : (l ++ [10]).length ≤ 9 := by rw [List.length_append]; show _ + 1 ≤ _; omega
    refine ⟨_, rfl, b, 5, rfl, st.b1, by decide, by decide, fun r H2 r0 r1 st2 => ⟨rfl, _, rfl, iteD (b := decide (V.int r = V.int 0)) (fun _ => ?_) (fun _ => hg4 (l ++ [10]) H2 (by omega) (st.trans st2))⟩⟩
    generalize l ++ [10] = l at *
    refine ⟨_, rfl, _, rfl, b, 7, rfl, st2.b1, by decide, by decide, fun r3 H3 r30 r31 st3 => ⟨_, _, rfl, rfl, mul_ok sp1 (by omega) (by omega), ?_⟩⟩
    obtain ⟨m, em, hm⟩ := spaces (n := r3) (by omega)
    rw [em]
    refine ⟨_, _, rfl, rfl, by rw [S_len, S_len]; omega, ?_⟩
    rw [S_cat]
    refine ⟨_, _, rfl, rfl, by rw [S_len, S_len, List.length_append]; show _ + 1 ≤ _; omega, ?_⟩
    rw [S_cat]
    exact hg4 _ H3 (by rw [List.length_append, List.length_append]; show _ + 1 ≤ _; omega) (st.trans (st2.trans st3))
  · refine ⟨_, pss_cons (ps_set (i := 4) sc__law_row_end.nd rfl (.inl rfl) (pe_op op_mulS pe_str (pcall Ot hr (pa_cons (pv 0) (pa_cons pe_int pa_nil))))) (pss_cons (ps_if (pt_cmpR op_eq (pcall Ot hr (pa_cons (pv 0) (pa_cons pe_int pa_nil))) pe_int (nomark _)) (pss_one (ps_set (i := 4) sc__law_row_end.nd rfl (.inl rfl) (pe_op op_add_str (pv 4) (pcall Oc hr (pa_cons (pv 0) pa_nil))))) pss_nil) ht2), ?_⟩
    refine ⟨_, rfl, b, 2, rfl, hb, by decide, by decide, fun r3 H3 r30 r31 st3 => ⟨_, _, rfl, rfl, mul_ok sp1 (by omega) (by omega), ?_⟩⟩
    obtain ⟨m, em, hm⟩ := spaces (n := r3) (by omega)
    rw [em]
    refine ⟨_, rfl, b, 4, rfl, st3.b1, by decide, by decide, fun r H2 r0 r1 st2 => ⟨rfl, _, rfl, iteD (b := decide (V.int r = V.int 0)) (fun _ => ?_) (fun _ => hg2 m H2 (by omega) (st3.trans st2))⟩⟩
    refine ⟨_, rfl, _, rfl, b, rfl, st2.b1, fun m2 H4 hm2 st4 => ⟨_, _, rfl, rfl, by rw [S_len, S_len]; omega, ?_⟩⟩
    rw [S_cat]
    exact hg2 _ H4 (by rw [List.length_append]; omega) (st3.trans (st2.trans st4))
end
end D0
namespace D0
open PySem PySem.Spec PyProof.Rows L2 SX NumText
def fb : Stmt → List Stmt
  | .For _ _ b _ _ => b
  | _ => []
def ob : Stmt → List Stmt
  | .If _ _ o _ => o
  | _ => []
def hd1 (l : List Stmt) : Stmt := l.getD 0 (.Pass ⟨0, 0, 0, 0⟩)
structure PcH (b wa ca : Addr) (bends : Nat) (a d : Option V) (i : Nat) (l gp : List Nat) (cs : List (List Nat)) (wy : Int) (H0 H1 : Hp) (D : Ends) : Prop where
  hi : i ≤ 60
  hl : l.length ≤ 1000 * i
  hg : gp.length ≤ 2
  hn : cs.length ≤ i
  hc : H1 ca = some (.lst (cs.map fun l => V.str (S l)))
  hcs : ∀ l ∈ cs, l ∈ CLS
  hW : Wid H1 wa (9 + 5 * i)
  hb : Bag H1 b
  nwb : wa ≠ b
  ncb : ca ≠ b
  ncw : ca ≠ wa
  kp : ∀ a o, a ≠ b → a ≠ wa → a ≠ ca → H0 a = some o → H1 a = some o
  go : ∀ (l' : List Nat) (cs' : List (List Nat)) (fr' : Bool) (c' : Option V) (H2 : Hp), l'.length ≤ 1000 * (i + 1) → cs'.length ≤ i + 1 → H2 ca = some (.lst (cs'.map fun l => V.str (S l))) → (∀ l ∈ cs', l ∈ CLS) → Wid H2 wa (9 + 5 * (i + 1)) → Bag H2 b → (∀ a o, a ≠ b → a ≠ wa → a ≠ ca → H0 a = some o → H2 a = some o) →
          D.nx [some (.ref b), some (.int bends), some (.str (S l')), some (.ref wa), some (.ref ca), some (.bl fr'), a, some (.int wy), some (.str (S gp)), c', d] H2
theorem PcH.step {b wa ca : Addr} {bends : Nat} {a d : Option V} {i : Nat} {l gp : List Nat} {cs : List (List Nat)} {wy : Int} {H0 H1 H2 : Hp} {D : Ends} (h : PcH b wa ca bends a d i l gp cs wy H0 H1 D) (s : Stp b H1 H2) : PcH b wa ca bends a d i l gp cs wy H0 H2 D := by
  obtain ⟨ws, e1, e2, e3, e4⟩ := h.hW.ex
  exact ⟨h.hi, h.hl, h.hg, h.hn, s.keep ca _ h.ncb h.hc, h.hcs, ⟨ws, s.keep wa _ h.nwb e1, e2, e3, e4⟩, s.b1, h.nwb, h.ncb, h.ncw, fun a o n1 n2 n3 e => s.keep a o n1 (h.kp a o n1 n2 n3 e), h.go⟩
/-- a longer text, the rest as it is -/
theorem PcH.txt {b wa ca : Addr} {bends : Nat} {a d : Option V} {i : Nat} {l gp : List Nat} {cs : List (List Nat)} {wy : Int} {H0 H1 : Hp} {D : Ends} (h : PcH b wa ca bends a d i l gp cs wy H0 H1 D) (l' : List Nat) (c' : Option V) (hl : l'.length ≤ l.length + 1000) : D.nx [some (.ref b), some (.int bends), some (.str (S l')), some (.ref wa), some (.ref ca), some (.bl false), a, some (.int wy), some (.str (S gp)), c', d] H1 :=
  h.go l' cs false c' H1 (by have := h.hl; omega) (by have := h.hn; omega) h.hc h.hcs (h.hW.up (by omega)) h.hb h.kp
def spPieces : Sp := fun vs H Q _ => ∃ (b : Addr) (bends : Nat), vs = [.ref b, .int (bends : Nat)] ∧ Bag H b ∧ bends ≤ 100 ∧ ∀ (l : List Nat) H', l.length ≤ 70000 → Stp b H H' → Q (.str (S l)) H'
section
variable {P : Program} {w : World} {K : PySem.W.Frag} {mg : Str → Option Value} {base : Heap}
theorem ok__law_pieces (T : Txt K w mg) (Ot : OkD P w K mg base CX0 1 "_law_take" p__law_take spTake) (Oo : OkD P w K mg base CX0 2 "_law_odd" p__law_odd (spTxt 4)) (Orw : OkD P w K mg base CX0 3 "_law_row_end" p__law_row_end spRowEnd)
    (Ow : OkD P w K mg base CX0 3 "_law_word" p__law_word (spTxt 41)) : OkD P w K mg base CX0 4 "_law_pieces" p__law_pieces spPieces := by
  refine T.g__law_pieces.ok sc__law_pieces (fun vs H Q E h => ?_) (fun f cdv A outer s H vs Q E hr h => ?_)
  · obtain ⟨b, bends, rfl, _⟩ := h; rfl
  obtain ⟨b, bends, rfl, hb, hbe, q⟩ := h
  have z0 : Str.ofString "" = S [] ∧ (Str.ofString "([{") = S [40, 91, 123] ∧ (Str.ofString ")]}") = S [41, 93, 125] := by decide +kernel
  have lim : (1000000 : Nat) ≤ sizeLine := by decide
  have sp1 : (Str.ofString " ").length = 1 := by decide +kernel
  refine split_at 5 (fun t => ∀ (l : List Nat) (wa ca : Addr) (cs : List (List Nat)) (fr : V) (a b2 c d : Option V) (H1 : Hp), l.length ≤ 60060 → cs.length ≤ 61 → H1 ca = some (.lst (cs.map fun l => V.str (S l))) → (∀ l ∈ cs, l ∈ CLS) → Stp b H H1 →
    t { nx := fun _ H' => Q .non H', rt := Q } [some (.ref b), some (.int bends), some (.str (S l)), some (.ref wa), some (.ref ca), some fr, a, b2, c, d, none] H1) ?_ (fun t ht hg => ?_)
  · refine ⟨_, (pss_cons (ps_for PassesOwn.never rfl (pi_reversed (by rfl) T.z_reversed (pa_cons (pv 4) pa_nil)) (pg_name (i := 10) sc__law_pieces.nd rfl (Or.inl rfl)) (pss_one (ps_set (i := 2) sc__law_pieces.nd rfl (.inl rfl) (pe_op op_add_str (pv 2) (pv 10)))))
      (pss_one (ps_ret (pv 2)))), ?_⟩
    intro l wa ca cs fr a b2 c d H1 hl hcl hca hcs st
    refine ⟨_, rfl, ca, _, rfl, SqL.of hca, for_it walk_rev (fun j σ H' => ∃ (l2 : List Nat) (y : Option V), σ = [some (.ref b), some (.int bends), some (.str (S l2)), some (.ref wa), some (.ref ca), some fr, a, b2, c, d, y] ∧ H' = H1 ∧ l2.length ≤ l.length + j)
      ⟨l, none, rfl, rfl, Nat.le_refl _⟩ (fun j σ H' _ h => by obtain ⟨_, _, _, rfl, _⟩ := h; exact SqL.of hca) ?_ ?_⟩
    · rintro j x σ H2 H3 hj ⟨l2, y, rfl, rfl, hl2⟩ ⟨rfl, hx⟩
      rw [List.getElem?_map] at hx
      obtain ⟨c1, hs, rfl⟩ := Option.map_eq_some_iff.mp hx
      have hc1 : c1.length = 1 := by
        have := hcs _ (List.mem_of_getElem? hs)
        have h3 : ∀ s ∈ CLS, s.length = 1 := by decide
        exact h3 _ this
      rw [List.length_map] at hj
      refine ⟨_, rfl, _, rfl, _, _, rfl, rfl, by rw [S_len, S_len]; omega, ?_⟩
      rw [S_cat]
      exact ⟨l2 ++ c1, _, rfl, rfl, by rw [List.length_append]; omega⟩
    · rintro σ H2 ⟨l2, y, rfl, rfl, hl2⟩
      rw [List.length_map] at hl2
      exact ⟨_, rfl, q l2 H2 (by omega) st⟩
  have six : ∀ (k : Nat), k < 6 → ∃ n : Nat, ([.int 1, .int 1, .int 1, .int 1, .int 0, .int 2] : List V)[k]? = some (V.int (n : Nat)) ∧ n ≤ 2 := by
    intro k hk
    match k, hk with
    | 0, _ => exact ⟨1, rfl, by decide⟩
    | 1, _ => exact ⟨1, rfl, by decide⟩
    | 2, _ => exact ⟨1, rfl, by decide⟩
    | 3, _ => exact ⟨1, rfl, by decide⟩
    | 4, _ => exact ⟨0, rfl, by decide⟩
    | 5, _ => exact ⟨2, rfl, by decide⟩
  obtain ⟨t2, ht2, hg2⟩ : ∃ t, PSs (cxOf CX0 P w K mg base n__law_pieces "_law_pieces" (defScope s__law_pieces) f cdv A outer s H E).nox (ob (hd1 (ob (hd1 (ob ((fb ((defBody s__law_pieces).getD 4 (.Pass ⟨0, 0, 0, 0⟩))).getD 4 (.Pass ⟨0, 0, 0, 0⟩))))))) t ∧ ∀ (D : Ends) (wa ca : Addr) (a c d : Option V) (i : Nat) (l gp : List Nat) (cs : List (List Nat)) (wy : Int) (H0 H1 : Hp), PcH b wa ca bends a d i l gp cs wy H0 H1 D →
        t D [some (.ref b), some (.int bends), some (.str (S l)), some (.ref wa), some (.ref ca), some (.bl false), a, some (.int wy), some (.str (S gp)), c, d] H1 := by
    refine ⟨_, (pss_one (ps_if (PW.pt (pw_and (pt_cmpR op_lt (pv 7) pe_int (nomark _)) (pw_and1 (PW.pt (pw_or (pt_cmpR op_ne (pv 2) pe_str (nomark _)) (pw_or1 (pt_cmpR op_gt (pv 1) pe_int (nomark _)))))))) (pss_cons (ps_set (i := 2) sc__law_pieces.nd rfl (.inl rfl) (pe_op op_add_str (pv 2) (pcall Orw hr (pa_cons (pv 0) (pa_cons (pv 3) (pa_cons (pv 4) (pa_cons (pv 1) pa_nil)))))))
      (pss_one (ps_set (i := 5) sc__law_pieces.nd rfl (.inl rfl) pe_bl))) (pss_one (ps_set (i := 2) sc__law_pieces.nd rfl (.inl rfl) (pe_op op_add_str (pe_op op_add_str (pv 2) (pv 8)) (pcall Ow hr (pa_cons (pv 0) pa_nil))))))), ?_⟩
    intro D wa ca a c d i l gp cs wy H0 H1 h
    have hi := h.hi
    have hl := h.hl
    have hgp := h.hg
    have hb1 := h.hb
    have hn := h.hn
    refine ⟨_, rfl, _, _, rfl, rfl, _, rfl, iteD (b := decide (wy < (8 : Int))) (fun _ => ?_) (fun _ => ?_)⟩
    · refine ⟨_, rfl, rfl, _, rfl, iteD (b := !decide (V.str (S l) = V.str (Str.ofString ""))) (fun _ => ?_) (fun _ => ?_)⟩
      · exact ⟨_, rfl, _, rfl, _, rfl, _, rfl, _, rfl, b, wa, ca, cs, 9 + 5 * i, _, rfl, hb1, h.hW, h.hc, h.hcs, h.nwb, h.ncb, h.ncw, by omega, by omega, fun m H2 hm hb2 hW2 kp2 => ⟨_, _, rfl, rfl, by rw [S_len, S_len]; omega, by
          rw [S_cat]
          exact h.go _ cs true c H2 (by rw [List.length_append]; omega) (by omega) (kp2 ca _ h.ncb h.ncw h.hc) h.hcs hW2 hb2 (fun x o n1 n2 n3 e => kp2 x o n1 n2 (h.kp x o n1 n2 n3 e))⟩⟩
      · refine ⟨_, rfl, _, _, rfl, rfl, _, rfl, iteD (b := decide ((0 : Int) < (bends : Int))) (fun _ => ?_) (fun _ => ?_)⟩
        · exact ⟨_, rfl, _, rfl, _, rfl, _, rfl, _, rfl, b, wa, ca, cs, 9 + 5 * i, _, rfl, hb1, h.hW, h.hc, h.hcs, h.nwb, h.ncb, h.ncw, by omega, by omega, fun m H2 hm hb2 hW2 kp2 => ⟨_, _, rfl, rfl, by rw [S_len, S_len]; omega, by
          rw [S_cat]
          exact h.go _ cs true c H2 (by rw [List.length_append]; omega) (by omega) (kp2 ca _ h.ncb h.ncw h.hc) h.hcs hW2 hb2 (fun x o n1 n2 n3 e => kp2 x o n1 n2 (h.kp x o n1 n2 n3 e))⟩⟩
        · exact ⟨_, rfl, _, rfl, _, _, rfl, rfl, by rw [S_len, S_len]; omega, by
        rw [S_cat]
        exact ⟨_, rfl, b, rfl, hb1, fun m H2 hm st2 => ⟨_, _, rfl, rfl, by rw [S_len, S_len, List.length_append]; omega, by
          rw [S_cat]
          exact (h.step st2).txt _ c (by rw [List.length_append, List.length_append]; omega)⟩⟩⟩
    · exact ⟨_, rfl, _, rfl, _, _, rfl, rfl, by rw [S_len, S_len]; omega, by
        rw [S_cat]
        exact ⟨_, rfl, b, rfl, hb1, fun m H2 hm st2 => ⟨_, _, rfl, rfl, by rw [S_len, S_len, List.length_append]; omega, by
          rw [S_cat]
          exact (h.step st2).txt _ c (by rw [List.length_append, List.length_append]; omega)⟩⟩⟩
  obtain ⟨t1, ht1, hg1⟩ : ∃ t, PSs (cxOf CX0 P w K mg base n__law_pieces "_law_pieces" (defScope s__law_pieces) f cdv A outer s H E).nox (ob ((fb ((defBody s__law_pieces).getD 4 (.Pass ⟨0, 0, 0, 0⟩))).getD 4 (.Pass ⟨0, 0, 0, 0⟩))) t ∧ ∀ (D : Ends) (wa ca : Addr) (a c d : Option V) (i : Nat) (l gp : List Nat) (cs : List (List Nat)) (wy : Int) (H0 H1 : Hp), PcH b wa ca bends a d i l gp cs wy H0 H1 D →
        t D [some (.ref b), some (.int bends), some (.str (S l)), some (.ref wa), some (.ref ca), some (.bl false), a, some (.int wy), some (.str (S gp)), c, d] H1 := by
    refine ⟨_, (pss_one (ps_if (pt_cmpR op_lt (pv 7) pe_int (nomark _)) (pss_cons (ps_set (i := 9) sc__law_pieces.nd rfl (.inl rfl) (pcall Ot hr (pa_cons (pv 0) (pa_cons pe_int pa_nil))))
      (pss_cons (ps_set (i := 2) sc__law_pieces.nd rfl (.inl rfl) (pe_op op_add_str (pe_op op_add_str (pv 2) (pv 8)) (pe_ix ix_str pe_str (pv 9) (fun _ _ => rfl))))
      (pss_one (ps_expr (pe_bm PySem.F.plainAttrs_list PySem.F.slot_list_append PySem.F.type_list_append mt_append (pv 4) (pa_cons (pe_ix ix_str pe_str (pv 9) (fun _ _ => rfl)) pa_nil)))))) (pss_one (ps_if (PW.pt (pw_and (pt_cmpR op_lt (pv 7) pe_int (nomark _)) (pw_and1 (pt_cmpR (op_neD hr.units) (pv 4) (pe_lst pa_nil) (nomark _))))) (pss_one (ps_set (i := 2) sc__law_pieces.nd rfl (.inl rfl) (pe_op op_add_str (pe_op op_add_str (pv 2) (pv 8)) (pe_bm0 PySem.F.plainAttrs_list PySem.F.slot_list_pop PySem.F.type_list_pop mt_pop (pv 4))))) ht2)))), ?_⟩
    intro D wa ca a c d i l gp cs wy H0 H1 h
    have hi := h.hi
    have hl := h.hl
    have hgp := h.hg
    have hb1 := h.hb
    have hn := h.hn
    refine ⟨_, rfl, _, _, rfl, rfl, _, rfl, iteD (b := decide (wy < (2 : Int))) (fun _ => ?_) (fun _ => ?_)⟩
    · refine ⟨_, rfl, b, 3, rfl, hb1, by decide, by decide, fun r H2 r0 r1 st2 => ?_⟩
      have h2 := h.step st2
      obtain ⟨k, rfl⟩ : ∃ k : Nat, r = (k : Int) := ⟨r.toNat, by omega⟩
      have hk : k < 3 := by omega
      have g1 : ([40, 91, 123] : List Nat)[k]? = some (([40, 91, 123] : List Nat)[k]'hk) := List.getElem?_eq_getElem hk
      have g2 : ([41, 93, 125] : List Nat)[k]? = some (([41, 93, 125] : List Nat)[k]'hk) := List.getElem?_eq_getElem hk
      have g3 : [([41, 93, 125] : List Nat)[k]'hk] ∈ CLS := (by decide : ∀ (k : Nat) (hk : k < 3), [([41, 93, 125] : List Nat)[k]'hk] ∈ CLS) k hk
      generalize ([40, 91, 123] : List Nat)[k]'hk = c1 at g1
      generalize ([41, 93, 125] : List Nat)[k]'hk = c2 at g2 g3
      refine ⟨_, rfl, _, rfl, _, _, rfl, rfl, by rw [S_len, S_len]; omega, ?_⟩
      rw [S_cat]
      refine ⟨_, rfl, S [40, 91, 123], k, c1, by rw [← z0.2.1], rfl, by rw [S_len]; show 3 ≤ sizeLine; omega, at_S g1, ?_⟩
      refine ⟨_, _, rfl, rfl, ?_, ?_⟩
      · show (S (l ++ gp)).length + (S [c1]).length ≤ _; rw [S_len, S_len, List.length_append]; show _ + 1 ≤ _; omega
      have e1 : S (l ++ gp) ++ (⟨#[c1]⟩ : Str) = S (l ++ gp ++ [c1]) := S_cat (l ++ gp) [c1]
      rw [e1]
      refine ⟨_, rfl, .inl ⟨rfl, _, SqL.of h2.hc⟩, ?_⟩
      refine ⟨_, rfl, S [41, 93, 125], k, c2, by rw [← z0.2.2], rfl, by rw [S_len]; show 3 ≤ sizeLine; omega, at_S g2, ?_⟩
      refine ⟨ca, _, _, rfl, rfl, h2.hc, by rw [List.length_map]; omega, ?_⟩
      have nwc : wa ≠ ca := Ne.symm h.ncw
      obtain ⟨ws, w1, w2, w3, w4⟩ := (h2.hW.up (show 9 + 5 * i ≤ 9 + 5 * (i + 1) by omega)).ex
      obtain ⟨q1, q2, q3, q4⟩ := h2.hb
      refine h2.go _ (cs ++ [[c2]]) false _ _ (by rw [List.length_append, List.length_append]; show _ + 1 ≤ _; omega) (by rw [List.length_append]; show _ + 1 ≤ _; omega) (by rw [upd_same, List.map_append]; rfl) ?_ ⟨ws, by rw [upd_ne nwc]; exact w1, w2, w3, w4⟩ ⟨q1, q2, q3, by rw [upd_ne (Ne.symm h.ncb)]; exact q4⟩ (fun x o n1 n2 n3 e => by rw [upd_ne n3]; exact h2.kp x o n1 n2 n3 e)
      intro x hx
      rcases List.mem_append.mp hx with hx | hx
      · exact h.hcs x hx
      · rw [List.mem_singleton.mp hx]; exact g3
    refine ⟨_, rfl, _, _, rfl, rfl, _, rfl, iteD (b := decide (wy < (4 : Int))) (fun _ => ?_) (fun _ => hg2 D wa ca a c d i l gp cs wy H0 H1 h)⟩
    refine ⟨_, rfl, by show 0 ≤ sizeLine; omega, fun p hp => ?_⟩
    have sm1 := same_new hp (.lst [])
    have h2 := h.step (Stp.same hb1 sm1)
    refine ⟨.list (dS cs), .list [], .lst (SqL.of h2.hc) (dS_dp _), .lst (SqL.of upd_same) .nil, dS_shaped _ (fun l hl => CLS_ok l (h.hcs l hl)), by decide, _, rfl, ?_⟩
    rw [dS_nil]
    refine iteD (b := !decide (cs = [])) (fun cc => ?_) (fun _ => hg2 D wa ca a c d i l gp cs wy H0 _ h2)
    have hne : cs ≠ [] := fun z => by rw [z] at cc; exact absurd cc (by decide)
    refine ⟨_, rfl, _, rfl, _, _, rfl, rfl, by rw [S_len, S_len]; omega, ?_⟩
    rw [S_cat]
    refine ⟨_, rfl, .inl ⟨rfl, _, SqL.of h2.hc⟩, ca, _, .str (S (cs.getLast hne)), rfl, rfl, h2.hc, ?_, ?_⟩
    · rw [List.length_map, List.getElem?_map, ← List.getLast?_eq_getElem?, List.getLast?_eq_some_getLast hne]; rfl
    have hm := h.hcs _ (List.getLast_mem hne)
    have hl3 : ∀ s ∈ CLS, s.length = 1 := by decide
    have hml := hl3 _ hm
    refine ⟨_, _, rfl, rfl, by rw [S_len, S_len, List.length_append, hml]; omega, ?_⟩
    rw [S_cat]
    have nwc : wa ≠ ca := Ne.symm h.ncw
    obtain ⟨ws, w1, w2, w3, w4⟩ := (h2.hW.up (show 9 + 5 * i ≤ 9 + 5 * (i + 1) by omega)).ex
    obtain ⟨q1, q2, q3, q4⟩ := h2.hb
    refine h2.go _ cs.dropLast false c _ (by rw [List.length_append, List.length_append, hml]; omega) (by rw [List.length_dropLast]; omega) (by rw [upd_same, List.map_dropLast]) (fun x hx => h.hcs x (List.dropLast_subset _ hx)) ⟨ws, by rw [upd_ne nwc]; exact w1, w2, w3, w4⟩ ⟨q1, q2, q3, by rw [upd_ne (Ne.symm h.ncb)]; exact q4⟩ (fun x o n1 n2 n3 e => by rw [upd_ne n3]; exact h2.kp x o n1 n2 n3 e)
  obtain ⟨t0, ht0, hg0⟩ : ∃ t, PSs (cxOf CX0 P w K mg base n__law_pieces "_law_pieces" (defScope s__law_pieces) f cdv A outer s H E).nox (List.drop 3 (fb ((defBody s__law_pieces).getD 4 (.Pass ⟨0, 0, 0, 0⟩)))) t ∧ ∀ (D : Ends) (wa ca : Addr) (a c d : Option V) (i : Nat) (fr : V) (l gp : List Nat) (cs : List (List Nat)) (wy : Int) (H0 H1 : Hp), PcH b wa ca bends a d i l gp cs wy H0 H1 D →
        t D [some (.ref b), some (.int bends), some (.str (S l)), some (.ref wa), some (.ref ca), some fr, a, some (.int wy), some (.str (S gp)), c, d] H1 := by
    refine ⟨_, pss_cons (ps_set (i := 5) sc__law_pieces.nd rfl (.inl rfl) pe_bl) (pss_one (ps_if (PW.pt (pw_and (pt_cmpR op_gt (pv 1) pe_int (nomark _)) (pw_and1 (pt_cmpR op_eq (pcall Ot hr (pa_cons (pv 0) (pa_cons (pv 1) pa_nil))) pe_int (nomark _))))) (pss_one (ps_set (i := 2) sc__law_pieces.nd rfl (.inl rfl) (pe_op op_add_str (pe_op op_add_str (pv 2) (pv 8)) (pcall Oo hr (pa_cons (pv 0) pa_nil))))) ht1)), ?_⟩
    intro D wa ca a c d i fr l gp cs wy H0 H1 h
    have hi := h.hi
    have hl := h.hl
    have hgp := h.hg
    have hb1 := h.hb
    refine ⟨_, rfl, _, _, rfl, rfl, _, rfl, iteD (b := decide ((0 : Int) < (bends : Int))) (fun cb => ?_) (fun _ => hg1 D wa ca a c d i l gp cs wy H0 H1 h)⟩
    have cb := of_decide_eq_true cb
    refine ⟨_, rfl, _, rfl, b, (bends : Int), rfl, hb1, cb, by omega, fun r H2 r0 r1 st2 => ⟨rfl, _, rfl, iteD (b := decide (V.int r = V.int 0)) (fun _ => ?_) (fun _ => hg1 D wa ca a c d i l gp cs wy H0 H2 (h.step st2))⟩⟩
    refine ⟨_, rfl, _, rfl, _, _, rfl, rfl, by rw [S_len, S_len]; omega, ?_⟩
    rw [S_cat]
    refine ⟨_, rfl, b, rfl, st2.b1, fun m H3 hm st3 => ⟨_, _, rfl, rfl, by rw [S_len, S_len, List.length_append]; omega, ?_⟩⟩
    rw [S_cat]
    exact ((h.step st2).step st3).txt _ c (by rw [List.length_append, List.length_append]; omega)
  refine ⟨_, pss_cons (ps_set (i := 2) sc__law_pieces.nd rfl (.inl rfl) pe_str) (pss_cons (ps_set (i := 3) sc__law_pieces.nd rfl (.inl rfl) (pe_lst (pa_cons pe_int pa_nil))) (pss_cons (ps_set (i := 4) sc__law_pieces.nd rfl (.inl rfl) (pe_lst pa_nil)) (pss_cons (ps_set (i := 5) sc__law_pieces.nd rfl (.inl rfl) pe_bl) (pss_cons
    (ps_for PassesOwn.never rfl (pi_range1 rfl T.z_range (pa_cons (pcall Ot hr (pa_cons (pv 0) (pa_cons pe_int pa_nil))) pa_nil)) (pg_name (i := 6) sc__law_pieces.nd rfl (Or.inl rfl)) (pss_cons (ps_set (i := 7) sc__law_pieces.nd rfl (.inl rfl) (pcall Ot hr (pa_cons (pv 0) (pa_cons pe_int pa_nil)))) (pss_cons (ps_set (i := 8) sc__law_pieces.nd rfl (.inl rfl) (pe_op op_mulS pe_str (pe_ix ix_list (pe_lst (pa_cons pe_int (pa_cons pe_int (pa_cons pe_int (pa_cons pe_int (pa_cons pe_int (pa_cons pe_int pa_nil))))))) (pcall Ot hr (pa_cons (pv 0) (pa_cons pe_int pa_nil))) (fun _ _ => rfl)))) (pss_cons (ps_if (pt_val (pv 5)) (pss_one (ps_set (i := 8) sc__law_pieces.nd rfl (.inl rfl) pe_str)) pss_nil) ht0))))
    ht)))), ?_⟩
  refine ⟨by show 1 ≤ sizeLine; omega, fun wa hwa => ⟨by show 0 ≤ sizeLine; omega, fun ca hca => ?_⟩⟩
  have nwb : wa ≠ b := hb.ne hwa
  have s1 := same_new hwa (.lst [V.int 0])
  have ncb : ca ≠ b := (hb.same s1).ne hca
  have ncw : ca ≠ wa := fun z => by rw [z, upd_same] at hca; cases hca
  have s2 := s1.trans (same_new hca (.lst []))
  refine ⟨_, rfl, b, 61, rfl, hb.same s2, by decide, by decide, fun n H0 n0 n1 st0 => ⟨n, rfl, by omega, by omega, ?_⟩⟩
  have stA : Stp b H H0 := (Stp.same hb s2).trans st0
  refine for_range (lo := 0) (n := n.toNat) (fun i σ H' => ∃ (l : List Nat) (cs : List (List Nat)) (fr : Bool) (y1 y2 y3 y4 : Option V), σ = [some (.ref b), some (.int bends), some (.str (S l)), some (.ref wa), some (.ref ca), some (.bl fr), y1, y2, y3, y4, none] ∧ l.length ≤ 1000 * i ∧ cs.length ≤ i ∧ H' ca = some (.lst (cs.map fun l => V.str (S l))) ∧ (∀ l ∈ cs, l ∈ CLS) ∧ Wid H' wa (9 + 5 * i) ∧ Bag H' b ∧ (∀ a o, a ≠ b → a ≠ wa → a ≠ ca → H0 a = some o → H' a = some o))
    ⟨[], [], true, none, none, none, none, by rw [← z0.1]; rfl, Nat.zero_le _, Nat.zero_le _, st0.keep ca _ ncb upd_same, (fun l hl => by cases hl), ⟨[0], st0.keep wa _ nwb ((same_new hca _) _ _ upd_same), by simp, by show 1 ≤ _; omega, fun n hn => by rw [List.mem_singleton.mp hn]; omega⟩, st0.b1, fun a o _ _ _ e => e⟩ ?_ ?_
  · rintro i σ H1 hi ⟨l, cs, fr, y1, y2, y3, y4, rfl, hl, hcl, hca1, hcs, hW, hb1, kp⟩
    refine ⟨_, rfl, b, 16, rfl, hb1, by decide, by decide, fun wy H2 wy0 wy1 st2 => ?_⟩
    refine ⟨by show 6 ≤ sizeLine; omega, fun g hg => ?_⟩
    have hb2 := st2.b1
    have sg := same_new hg (.lst [V.int 1, V.int 1, V.int 1, V.int 1, V.int 0, V.int 2])
    have ngb : g ≠ b := hb2.ne hg
    refine ⟨_, rfl, b, 6, rfl, hb2.same sg, by decide, by decide, fun r H3 r0 r1 st3 => ?_⟩
    obtain ⟨k, rfl⟩ : ∃ k : Nat, r = (k : Int) := ⟨r.toNat, by omega⟩
    obtain ⟨gn, hgn, hg2'⟩ := six k (by omega)
    refine ⟨g, _, _, .int (gn : Nat), rfl, rfl, SqL.of (st3.keep g _ ngb upd_same), atI_nat hgn, ?_⟩
    refine ⟨_, _, rfl, rfl, mul_ok sp1 (by omega) (by omega), ?_⟩
    obtain ⟨m, em, hm⟩ := spaces (n := (gn : Int)) (by omega)
    rw [em]
    have st4 : Stp b H1 H3 := st2.trans ((Stp.same hb2 sg).trans st3)
    obtain ⟨q1, q2, q3, q4⟩ := st4.b1
    obtain ⟨ws, w1, w2, w3, w4⟩ := hW.ex
    have hP : ∀ (gp : List Nat) (D : Ends), gp.length ≤ 2 → (∀ (l' : List Nat) (cs' : List (List Nat)) (fr' : Bool) (c' : Option V) (H2 : Hp), l'.length ≤ 1000 * (i + 1) → cs'.length ≤ i + 1 → H2 ca = some (.lst (cs'.map fun l => V.str (S l))) → (∀ l ∈ cs', l ∈ CLS) → Wid H2 wa (9 + 5 * (i + 1)) → Bag H2 b → (∀ a o, a ≠ b → a ≠ wa → a ≠ ca → H0 a = some o → H2 a = some o) →
          D.nx [some (.ref b), some (.int bends), some (.str (S l')), some (.ref wa), some (.ref ca), some (.bl fr'), some (.int (0 + (i : Nat))), some (.int wy), some (.str (S gp)), c', none] H2) → PcH b wa ca bends (some (.int (0 + (i : Nat)))) none i l gp cs wy H0 H3 D := fun gp D hgl hgo =>
      ⟨by omega, hl, hgl, hcl, st4.keep ca _ ncb hca1, hcs, ⟨ws, st4.keep wa _ nwb w1, w2, w3, w4⟩, st4.b1, nwb, ncb, ncw, fun a o n1 n2 n3 e => st4.keep a o n1 (kp a o n1 n2 n3 e), hgo⟩
    refine ⟨_, rfl, fr, rfl, iteD (b := fr) (fun _ => ?_) (fun _ => ?_)⟩
    · rw [z0.1]
      exact hg0 _ wa ca _ y4 none i (.bl fr) l [] cs wy H0 H3 (hP [] _ (by decide) (fun l' cs' fr' c' H4 a1 a2 a3 a4 a5 a6 a7 => ⟨l', cs', fr', _, _, _, c', rfl, a1, a2, a3, a4, a5, a6, a7⟩))
    · exact hg0 _ wa ca _ y4 none i (.bl fr) l m cs wy H0 H3 (hP m _ (by omega) (fun l' cs' fr' c' H4 a1 a2 a3 a4 a5 a6 a7 => ⟨l', cs', fr', _, _, _, c', rfl, a1, a2, a3, a4, a5, a6, a7⟩))
  · rintro σ H1 ⟨l, cs, fr, y1, y2, y3, y4, rfl, hl, hcl, hca1, hcs, hW, hb1, kp⟩
    refine hg l wa ca cs (.bl fr) y1 y2 y3 y4 H1 (by omega) (by omega) hca1 hcs ⟨hb, hb1, fun a o n1 e => ?_⟩
    have e2 := stA.keep a o n1 e
    refine kp a o n1 (fun z => ?_) (fun z => ?_) e2
    · rw [z, hwa] at e; cases e
    · have e3 := s1 _ _ e; rw [z, hca] at e3; cases e3
end
end D0
namespace D0
open PySem PySem.Spec PyProof.Rows L2 SX NumText
section
variable {P : Program} {w : World} {K : PySem.W.Frag} {mg : Str → Option Value} {base : Heap}
theorem ok__law_source (T : Txt K w mg) (Ot : OkD P w K mg base CX0 1 "_law_take" p__law_take spTake) (Oa : OkD P w K mg base CX0 1 "_law_allowed" p__law_allowed (spConst allL))
    (Op : OkD P w K mg base CX0 4 "_law_pieces" p__law_pieces spPieces) : OkD P w K mg base CX0 5 "_law_source" p__law_source (spTxt 70001) := by
  refine T.g__law_source.ok sc__law_source (fun vs H Q E h => ?_) (fun f cdv A outer s H vs Q E hr h => ?_)
  · obtain ⟨b, rfl, _⟩ := h; rfl
  obtain ⟨b, rfl, hb, q⟩ := h
  have z0 : Str.ofString "" = S [] ∧ Str.ofString "\t" = S [9] := by decide +kernel
  have lim : (1000000 : Nat) ≤ sizeLine := by decide
  have hL : allL.length = 95 := by decide
  refine split_at 3 (fun t => ∀ (l : List Nat) (y : V) (y1 y2 : Option V) (H1 : Hp), l.length ≤ 70000 → Stp b H H1 →
    t { nx := fun _ H' => Q .non H', rt := Q } [some (.ref b), some y, some (.str (S l)), y1, y2, none] H1) ?_ (fun t ht hg => ?_)
  · refine ⟨_, (pss_cons (ps_if (pt_cmpR op_eq (pcall Ot hr (pa_cons (pv 0) (pa_cons pe_int pa_nil))) pe_int (nomark _)) (pss_cons (ps_set (i := 5) sc__law_source.nd rfl (.inl rfl) (pcall Ot hr (pa_cons (pv 0) (pa_cons (pe_op op_add (pe_callB call_len_str (by rfl) T.z_len PySem.boot_len (pa_cons (pv 2) pa_nil)) pe_int) pa_nil))))
      (pss_one (ps_set (i := 2) sc__law_source.nd rfl (.inl rfl) (pe_op op_add_str (pe_op op_add_str (pe_slice sl_str (pv 2) po_none (po_some (pv 5))) pe_str) (pe_slice sl_str (pv 2) (po_some (pv 5)) po_none))))) pss_nil)
      (pss_one (ps_ret (pv 2)))), ?_⟩
    intro l y y1 y2 H1 hl st
    have hS : (S l).length ≤ sizeLine := by rw [S_len]; omega
    refine ⟨_, rfl, b, 12, rfl, st.b1, by decide, by decide, fun r H2 r0 r1 st2 => ⟨rfl, _, rfl, iteD (b := decide (V.int r = V.int 0)) (fun _ => ?_) (fun _ => ⟨_, rfl, q l H2 (by omega) (st.trans st2)⟩)⟩⟩
    refine ⟨_, rfl, _, rfl, _, rfl, hS, _, _, rfl, rfl, b, (l.length : Int) + 1, (by rw [S_len]; rfl), st2.b1, by omega, by omega, fun r3 H3 r30 r31 st3 => ?_⟩
    obtain ⟨k, rfl⟩ : ∃ k : Nat, r3 = (k : Int) := ⟨r3.toNat, by omega⟩
    refine ⟨_, rfl, _, rfl, _, rfl, S l, rfl, hS, _, _, rfl, rfl, ?_, ?_⟩
    · rw [show cutS (S l) none (some (k : Int)) = S (l.take k) from cut_0 l k, z0.2, S_len, S_len, List.length_take]; show _ + 1 ≤ _; omega
    rw [show cutS (S l) none (some (k : Int)) = S (l.take k) from cut_0 l k, z0.2, S_cat]
    refine ⟨_, rfl, _, rfl, _, rfl, S l, rfl, hS, _, _, rfl, rfl, ?_, ?_⟩
    · rw [show cutS (S l) (some (k : Int)) none = S (l.drop k) from cut_n l k, S_len, S_len, List.length_append, List.length_take, List.length_drop]; show _ + 1 + _ ≤ _; omega
    rw [show cutS (S l) (some (k : Int)) none = S (l.drop k) from cut_n l k, S_cat]
    exact ⟨_, rfl, q _ H3 (by rw [List.length_append, List.length_append, List.length_take, List.length_drop]; show _ + 1 + _ ≤ _; omega) (st.trans (st2.trans st3))⟩
  · refine ⟨_, pss_cons (ps_set (i := 1) sc__law_source.nd rfl (.inl rfl) (pcall Ot hr (pa_cons (pv 0) (pa_cons pe_int pa_nil)))) (pss_cons (ps_set (i := 2) sc__law_source.nd rfl (.inl rfl) pe_str) (pss_cons (ps_if (pt_cmpR op_eq (pv 1) pe_int (nomark _)) (pss_cons (ps_set (i := 3) sc__law_source.nd rfl (.inl rfl) (pcall0 Oa hr))
      (pss_one (ps_for PassesOwn.never rfl (pi_range1 rfl T.z_range (pa_cons (pcall Ot hr (pa_cons (pv 0) (pa_cons pe_int pa_nil))) pa_nil)) (pg_name (i := 4) sc__law_source.nd rfl (Or.inl rfl)) (pss_one (ps_set (i := 2) sc__law_source.nd rfl (.inl rfl) (pe_op op_add_str (pv 2) (pe_ix ix_str (pv 3) (pcall Ot hr (pa_cons (pv 0) (pa_cons (pe_callB call_len_str (by rfl) T.z_len PySem.boot_len (pa_cons (pv 3) pa_nil)) pa_nil))) (fun _ _ => rfl)))))))) (pss_one (ps_set (i := 2) sc__law_source.nd rfl (.inl rfl) (pcall Op hr (pa_cons (pv 0) (pa_cons (pe_ix ix_list (pe_lst (pa_cons pe_int (pa_cons pe_int (pa_cons pe_int (pa_cons pe_int (pa_cons pe_int (pa_cons pe_int (pa_cons pe_int pa_nil)))))))) (pv 1) (fun _ _ => rfl)) pa_nil)))))) ht)), ?_⟩
    refine ⟨_, rfl, b, 8, rfl, hb, by decide, by decide, fun r H1 r0 r1 st => ?_⟩
    obtain ⟨wy, rfl⟩ : ∃ k : Nat, r = (k : Int) := ⟨r.toNat, by omega⟩
    refine ⟨_, rfl, rfl, _, rfl, iteD (b := decide (V.int (wy : Int) = V.int ((7 : Nat) : Int))) (fun _ => ?_) (fun c => ?_)⟩
    · refine ⟨rfl, ?_⟩
      refine ⟨_, rfl, b, 121, rfl, st.b1, by decide, by decide, fun r2 H2 r20 r21 st2 => ⟨r2, rfl, by omega, by omega, ?_⟩⟩
      refine for_range (lo := 0) (n := r2.toNat) (fun i σ H' => ∃ (l : List Nat) (y : Option V), σ = [some (.ref b), some (.int wy), some (.str (S l)), some (.str (S allL)), y, none] ∧ Stp b H H' ∧ l.length = i) ⟨[], none, by rw [← z0.1]; rfl, st.trans st2, rfl⟩ ?_ ?_
      · rintro i σ H3 hi ⟨l, y, rfl, st3, hlen⟩
        refine ⟨_, rfl, _, rfl, _, rfl, _, rfl, _, rfl, by rw [S_len, hL]; omega, b, 95, by rw [S_len, hL]; rfl, st3.b1, by decide, by decide, fun r H4 r0 r1 st4 => ?_⟩
        obtain ⟨k, rfl⟩ : ∃ k : Nat, r = (k : Int) := ⟨r.toNat, by omega⟩
        have gk : allL[k]? = some (allL[k]'(by omega)) := List.getElem?_eq_getElem (by omega)
        generalize allL[k]'_ = c2 at gk
        refine ⟨S allL, _, c2, rfl, rfl, by rw [S_len, hL]; omega, at_S gk, ?_⟩
        refine ⟨_, _, rfl, rfl, ?_, ?_⟩
        · show (S l).length + (S [c2]).length ≤ _; rw [S_len, S_len]; show _ + 1 ≤ _; omega
        · exact ⟨l ++ [c2], _, by rw [← S_cat l [c2]]; rfl, st3.trans st4, by rw [List.length_append, hlen]; rfl⟩
      · rintro σ H3 ⟨l, y, rfl, st3, hlen⟩
        exact hg l (.int wy) _ y H3 (by omega) st3
    · rw [int_dec] at c
      have c := of_decide_eq_false c
      have hwy : wy < 7 := by omega
      refine ⟨_, rfl, by show 7 ≤ sizeLine; omega, fun g hg2 => ?_⟩
      obtain ⟨n, hn, hn2⟩ : ∃ n : Nat, ([.int 0, .int 0, .int 0, .int 60, .int 25, .int 12, .int 3] : List V)[wy]? = some (V.int (n : Nat)) ∧ n ≤ 100 := by
        match wy, hwy with
        | 0, _ => exact ⟨0, rfl, by decide⟩
        | 1, _ => exact ⟨0, rfl, by decide⟩
        | 2, _ => exact ⟨0, rfl, by decide⟩
        | 3, _ => exact ⟨60, rfl, by decide⟩
        | 4, _ => exact ⟨25, rfl, by decide⟩
        | 5, _ => exact ⟨12, rfl, by decide⟩
        | 6, _ => exact ⟨3, rfl, by decide⟩
      have sg := same_new hg2 (.lst [V.int 0, V.int 0, V.int 0, V.int 60, V.int 25, V.int 12, V.int 3])
      refine ⟨_, rfl, g, _, _, .int (n : Nat), rfl, rfl, SqL.of upd_same, atI_nat hn, ?_⟩
      exact ⟨b, n, rfl, st.b1.same sg, hn2, fun l H3 hl st3 => hg l (.int wy) none none H3 hl (st.trans ((Stp.same st.b1 sg).trans st3))⟩
end
end D0
namespace D0
open PySem PySem.Spec PyProof.Rows L2 SX NumText
def nextFrom : List (List Nat) → Nat → Nat → Nat × Nat
  | [], r, _ => (r, 0)
  | l :: rest, r, c => match spotIn l c with
    | some a => (r, a)
    | none => nextFrom rest (r + 1) 0
def nextSpot (rows : List (List Nat)) (r c : Nat) : Nat × Nat := nextFrom (rows.drop r) r c
theorem spotIn_step {l : List Nat} {i c : Nat} (h : l[i]? = some c) : spotIn l i = if c = 35 then none else if c = 32 then spotIn l (i + 1) else some i := by
  obtain ⟨hi, e⟩ := List.getElem?_eq_some_iff.mp h
  rw [spotIn, if_pos hi, h]
  by_cases a : c = 35
  · subst a; rfl
  by_cases b : c = 32
  · subst b; rfl
  rw [if_neg (fun z => a (Option.some.inj z)), if_neg (fun z => b (Option.some.inj z)), if_neg a, if_neg b]
theorem spotIn_end {l : List Nat} {i : Nat} (h : l.length ≤ i) : spotIn l i = none := by rw [spotIn, if_neg (by omega)]
/-- the rows at a -/
structure RowsAt (K : PySem.W.Frag) (H : Hp) (a : Addr) (rows : List (List Nat)) : Prop where
  at_ : H a = some (.lst (rows.map fun l => V.str (S l)))
  len : rows.length ≤ big
  row : ∀ l ∈ rows, l.length ≤ big
theorem RowsAt.same {K : PySem.W.Frag} {H H' : Hp} {a : Addr} {rows : List (List Nat)} (h : RowsAt K H a rows) (s : Same H H') : RowsAt K H' a rows := ⟨s _ _ h.at_, h.len, h.row⟩
def spNext (K : PySem.W.Frag) : Sp := fun vs H Q _ => ∃ (ra sa : Addr) (rows : List (List Nat)) (r c : Nat), vs = [.ref ra, .ref sa] ∧ RowsAt K H ra rows ∧ H sa = some (.lst [.int r, .int c]) ∧ r ≤ rows.length ∧ c ≤ big ∧
  ∀ H' p, Same H H' → H p = none → H' p = some (.lst [.int (nextSpot rows r c).1, .int (nextSpot rows r c).2]) → Q (.ref p) H'
section
variable {P : Program} {w : World} {K : PySem.W.Frag} {mg : Str → Option Value} {base : Heap}
theorem ok__law_next_spot (T : Txt K w mg) : OkD P w K mg base CX0 1 "_law_next_spot" p__law_next_spot (spNext K) := by
  refine T.g__law_next_spot.ok sc__law_next_spot (fun vs H Q E h => ?_) (fun f cdv A outer s H vs Q E hr h => ?_)
  · obtain ⟨ra, sa, rows, r, c, rfl, _⟩ := h; rfl
  obtain ⟨ra, sa, rows, r, c, rfl, hR, hs, hrl, hcb, q⟩ := h
  have z : Str.ofString "#" = S [35] ∧ Str.ofString " " = S [32] := by decide +kernel
  have two : 2 ≤ sizeLine := by decide
  have ix0 : atI ([.int r, .int c] : List V) (0 : Int) = some (.int r) := atI_nat (j := 0) rfl
  have ix1 : atI ([.int r, .int c] : List V) (1 : Int) = some (.int c) := atI_nat (j := 1) rfl
  refine ⟨_, (pss_cons (ps_for PassesOwn.never rfl (pi_range2 (by rfl) T.z_range (pa_cons (pe_ix ix_list (pv 1) pe_int (fun _ _ => rfl)) (pa_cons (pe_callB call_len_seq (by rfl) T.z_len PySem.boot_len (pa_cons (pv 0) pa_nil)) pa_nil))) (pg_name (i := 2) sc__law_next_spot.nd rfl (Or.inl rfl))
      (pss_one (ps_for PassesOwn.never rfl (pi_range2 (by rfl) T.z_range (pa_cons (PE.of (t' := fun σ H Q => ∃ (i : Nat), σ[2]? = some (some (.int ((r : Int) + (i : Nat)))) ∧ σ[1]? = some (some (.ref sa)) ∧ H sa = some (.lst [.int r, .int c]) ∧ Q (.int ((if i = 0 then c else 0 : Nat) : Int)) H)
          (pe_ifExp (pt_cmpR op_eq (pv 2) (pe_ix ix_list (pv 1) pe_int (fun _ _ => rfl)) (nomark _)) (pe_ix ix_list (pv 1) pe_int (fun _ _ => rfl)) pe_int) ?a1) (pa_cons (pe_callB call_len_str (by rfl) T.z_len PySem.boot_len (pa_cons (pe_ix ix_list (pv 0) (pv 2) (fun _ _ => rfl)) pa_nil)) pa_nil))) (pg_name (i := 3) sc__law_next_spot.nd rfl (Or.inl rfl))
        (pss_cons (ps_if (pt_cmpR op_eq (pe_ix ix_str (pe_ix ix_list (pv 0) (pv 2) (fun _ _ => rfl)) (pv 3) (fun _ _ => rfl)) pe_str (nomark _)) (pss_one ps_break) pss_nil)
      (pss_one (ps_if (pt_cmpR op_ne (pe_ix ix_str (pe_ix ix_list (pv 0) (pv 2) (fun _ _ => rfl)) (pv 3) (fun _ _ => rfl)) pe_str (nomark _)) (pss_one (ps_ret (pe_lst (pa_cons (pv 2) (pa_cons (pv 3) pa_nil))))) pss_nil))))))
      (pss_one (ps_ret (pe_lst (pa_cons (pe_callB call_len_seq (by rfl) T.z_len PySem.boot_len (pa_cons (pv 0) pa_nil)) (pa_cons pe_int pa_nil)))))), ?_⟩
  case a1 =>
    rintro σ H Q ⟨i, h2, h1, hs, q⟩
    refine ⟨_, h2, _, h1, sa, _, 0, _, rfl, rfl, SqL.of hs, ix0, rfl, _, rfl, ?_⟩
    by_cases hi : i = 0
    · subst hi
      refine iteT' (decide_eq_true (by simp)) ?_
      exact ⟨_, h1, sa, _, 1, _, rfl, rfl, SqL.of hs, ix1, q⟩
    · refine iteF' (decide_eq_false (fun z => hi (by have := V.int.inj z; omega))) ?_
      rw [if_neg hi] at q
      exact q
  have hlen : ((rows.map fun l => V.str (S l)).length : Int) = (rows.length : Int) := by rw [List.length_map]
  have hrb : rows.length ≤ 1000000 := hR.len
  refine ⟨_, rfl, sa, _, 0, _, rfl, rfl, SqL.of hs, ix0, _, rfl, ra, _, rfl, .inl (SqL.of hR.at_), (r : Int), (rows.length : Int), by rw [hlen], by omega, ?_⟩
  have hN : ((rows.length : Int) - (r : Int)).toNat = rows.length - r := by omega
  refine for_range (lo := (r : Int)) (n := ((rows.length : Int) - (r : Int)).toNat) (fun i σ H' => ∃ (y y2 : Option V) (c2 : Nat), σ = [some (.ref ra), some (.ref sa), y, y2] ∧ H' = H ∧ (c2 = if i = 0 then c else 0) ∧ nextSpot rows r c = nextFrom (rows.drop (r + i)) (r + i) c2)
    ⟨none, none, c, rfl, rfl, rfl, rfl⟩ ?_ ?_
  · rintro i σ H1 hi ⟨y, y2, c2, rfl, rfl, hc2, hn⟩
    have hri : r + i < rows.length := by omega
    have gr : rows[r + i]? = some rows[r + i] := List.getElem?_eq_getElem hri
    have hd : rows.drop (r + i) = rows[r + i] :: rows.drop (r + i + 1) := List.drop_eq_getElem_cons hri
    have hll : rows[r + i].length ≤ 1000000 := hR.row _ (List.getElem_mem hri)
    generalize rows[r + i] = l at *
    have gl : atI (rows.map fun l => V.str (S l)) ((r : Int) + (i : Nat)) = some (.str (S l)) := by
      rw [show (r : Int) + (i : Nat) = ((r + i : Nat) : Int) by omega]
      exact atI_nat (by rw [List.getElem?_map, gr]; rfl)
    rw [hd] at hn
    refine ⟨i, rfl, rfl, hs, _, rfl, _, rfl, ra, _, _, _, rfl, rfl, SqL.of hR.at_, gl, _, rfl, S_line hll, ?_⟩
    rw [← hc2]
    have hcb2 : c ≤ 1000000 := hcb
    have hcb : (c2 : Int) < 2 ^ 62 := by rw [hc2]; split <;> omega
    refine ⟨(c2 : Int), ((S l).length : Int), rfl, by rw [S_len]; omega, ?_⟩
    rw [S_len]
    refine for_range (lo := (c2 : Int)) (n := ((l.length : Int) - (c2 : Int)).toNat) (fun j σ H' => ∃ (y2 : Option V), σ = [some (.ref ra), some (.ref sa), some (.int ((r : Int) + (i : Nat))), y2] ∧ H' = H1 ∧ spotIn l c2 = spotIn l (c2 + j)) ⟨y2, rfl, rfl, rfl⟩ ?_ ?_
    · rintro j σ H2 hj ⟨y3, rfl, rfl, hsp⟩
      have hjl : c2 + j < l.length := by omega
      have gk : l[c2 + j]? = some l[c2 + j] := List.getElem?_eq_getElem hjl
      rw [spotIn_step gk] at hsp
      generalize l[c2 + j] = ch at *
      rw [show (c2 : Int) + (j : Nat) = ((c2 + j : Nat) : Int) by omega]
      refine ⟨_, rfl, _, rfl, ra, _, _, _, rfl, rfl, SqL.of hR.at_, gl, _, rfl, S l, c2 + j, ch, rfl, rfl, S_line hll, at_S gk, rfl, _, rfl, ?_⟩
      have e35 : decide (V.str (S [ch]) = V.str (Str.ofString "#")) = decide (ch = 35) := by rw [z.1, one_dec]
      have e32 : (!decide (V.str (S [ch]) = V.str (Str.ofString " "))) = !decide (ch = 32) := by rw [z.2, one_dec]
      by_cases c35 : ch = 35
      · refine iteT' (e35.trans (decide_eq_true c35)) ?_
        rw [if_pos c35] at hsp
        refine ⟨_, _, 0, rfl, rfl, rfl, ?_⟩
        rw [hn]
        show (match spotIn l c2 with | some a => (r + i, a) | none => nextFrom (rows.drop (r + i + 1)) (r + i + 1) 0) = _
        rw [hsp]; rfl
      refine iteF' (e35.trans (decide_eq_false c35)) ?_
      rw [if_neg c35] at hsp
      refine ⟨_, rfl, _, rfl, ra, _, _, _, rfl, rfl, SqL.of hR.at_, gl, _, rfl, S l, c2 + j, ch, rfl, rfl, S_line hll, at_S gk, rfl, _, rfl, ?_⟩
      by_cases c32 : ch = 32
      · refine iteF' (e32.trans (by rw [decide_eq_true c32]; rfl)) ?_
        rw [if_pos c32] at hsp
        exact ⟨_, rfl, rfl, hsp⟩
      · refine iteT' (e32.trans (by rw [decide_eq_false c32]; rfl)) ?_
        rw [if_neg c32] at hsp
        refine ⟨_, rfl, _, rfl, two, fun p hp => ?_⟩
        refine q _ p (same_new hp _) hp ?_
        rw [upd_same, hn]
        show _ = some (HO.lst [.int ((match spotIn l c2 with | some a => (r + i, a) | none => nextFrom (rows.drop (r + i + 1)) (r + i + 1) 0).1 : Nat), .int ((match spotIn l c2 with | some a => (r + i, a) | none => nextFrom (rows.drop (r + i + 1)) (r + i + 1) 0).2 : Nat)])
        rw [hsp]
        rfl
    · rintro σ H2 ⟨y3, rfl, rfl, hsp⟩
      refine ⟨_, _, 0, rfl, rfl, rfl, ?_⟩
      rw [hn]
      show (match spotIn l c2 with | some a => (r + i, a) | none => nextFrom (rows.drop (r + i + 1)) (r + i + 1) 0) = _
      rw [hsp, spotIn_end (by omega)]; rfl
  · rintro σ H1 ⟨y, y2, c2, rfl, rfl, hc2, hn⟩
    refine ⟨_, rfl, ra, _, rfl, .inl (SqL.of hR.at_), two, fun p hp => ?_⟩
    refine q _ p (same_new hp _) hp ?_
    rw [upd_same, hn, hN, show r + (rows.length - r) = rows.length by omega, List.drop_length, hlen]
    rfl
end
end D0
namespace D0
open PySem PySem.Spec PyProof.Rows L2 SX NumText
def finM (ln : Nat) : Mk := ⟨.fin, .s [], ln, 1⟩
def indM (r c : Nat) : Mk := ⟨.indent, .s [], r + 1, c + 1⟩
/-- the marks due ahead of the spot, the blocks behind them -/
def margin (st : List Nat) (sp : Nat × Nat) (many behind : Nat) : List Nat × List Mk :=
  if sp.1 = many then (st, List.replicate (st.length - 1) (dedent behind 1) ++ [finM behind])
  else if st.headD 0 < sp.2 then (sp.2 :: st, [indM sp.1 sp.2])
  else (popW sp.2 st, List.replicate (st.length - (popW sp.2 st).length) (dedent (sp.1 + 1) (sp.2 + 1)))
abbrev Blk (H : Hp) (a : Addr) (st : List Nat) : Prop := H a = some (.lst (st.reverse.map fun n => V.int (n : Nat)))
def spMargin : Sp := fun vs H Q _ => ∃ (ba sa : Addr) (st : List Nat) (r c many behind : Nat), vs = [.ref ba, .ref sa, .int many, .int behind] ∧ Blk H ba st ∧ Ind st ∧ H sa = some (.lst [.int r, .int c]) ∧ ba ≠ sa ∧
  ∀ H' p us, H p = none → H' p = some (.lst us) → Mks H' us (margin st (r, c) many behind).2 → Blk H' ba (margin st (r, c) many behind).1 → (∀ b o, b ≠ ba → H b = some o → H' b = some o) → Q (.ref p) H'
theorem Mks.same {H H' : Hp} {us : List V} {ms : List Mk} (h : Mks H us ms) (s : Same H H') : Mks H' us ms := h.mono fun a t e => s _ _ e
section
variable {P : Program} {w : World} {K : PySem.W.Frag} {mg : Str → Option Value} {base : Heap}
theorem ok__law_margin (T : Txt K w mg) : OkD P w K mg base CX0 1 "_law_margin" p__law_margin spMargin := by
  refine T.g__law_margin.ok sc__law_margin (fun vs H Q E h => ?_) (fun f cdv A outer s H vs Q E hr h => ?_)
  · obtain ⟨ba, sa, st, r, c, many, behind, rfl, _⟩ := h; rfl
  obtain ⟨ba, sa, st, r, c, many, behind, rfl, hB, hI, hs, nbs, q⟩ := h
  have z : Str.ofString "dedent" = S (Kd.cp .dedent) ∧ Str.ofString "indent" = S (Kd.cp .indent) ∧ Str.ofString "end" = S (Kd.cp .fin) ∧ Str.ofString "" = S [] := by decide +kernel
  have lim : (1000 : Nat) ≤ sizeLine := by decide
  have hIl := hI.2
  have ix0 : atI ([.int r, .int c] : List V) (0 : Int) = some (.int r) := atI_nat (j := 0) rfl
  have ix1 : atI ([.int r, .int c] : List V) (1 : Int) = some (.int c) := atI_nat (j := 1) rfl
  refine ⟨_, (pss_cons (ps_if (pt_cmpR op_eq (pe_ix ix_list (pv 1) pe_int (fun _ _ => rfl)) (pv 2) (nomark _)) (pss_one (ps_ret (pe_op op_cat
      (pe_lc (own := [("one", 6)]) (g := gName 6) (tt := tYes) (by rfl) sc__law_margin.nd (pi_list (pe_slice sl_list (pv 0) (po_some pe_int) po_none)) (blkOk_by (own := [("one", 6)]) (N := n__law_margin) (sc := defScope s__law_margin) (by decide +kernel))
          (fun _ _ _ _ _ => (pg_name (i := 6) sc__law_margin.nd rfl (Or.inl rfl))) (fun _ _ _ _ _ => pts_nil) (fun _ _ _ _ _ => (pe_tup (pa_cons pe_str (pa_cons pe_str (pa_cons (pv 3) (pa_cons pe_int pa_nil)))))))
      (pe_lst (pa_cons (pe_tup (pa_cons pe_str (pa_cons pe_str (pa_cons (pv 3) (pa_cons pe_int pa_nil))))) pa_nil))))) pss_nil)
      (pss_cons (ps_if (pt_cmpR op_gt (pe_ix ix_list (pv 1) pe_int (fun _ _ => rfl)) (pe_ix ix_list (pv 0) (pe_un un_neg pe_int) (fun _ _ => rfl)) (nomark _)) (pss_cons (ps_expr (pe_bm PySem.F.plainAttrs_list PySem.F.slot_list_append PySem.F.type_list_append mt_append (pv 0) (pa_cons (pe_ix ix_list (pv 1) pe_int (fun _ _ => rfl)) pa_nil)))
      (pss_one (ps_ret (pe_lst (pa_cons (pe_tup (pa_cons pe_str (pa_cons pe_str (pa_cons (pe_op op_add (pe_ix ix_list (pv 1) pe_int (fun _ _ => rfl)) pe_int) (pa_cons (pe_op op_add (pe_ix ix_list (pv 1) pe_int (fun _ _ => rfl)) pe_int) pa_nil))))) pa_nil))))) pss_nil)
      (pss_cons (ps_set (i := 4) sc__law_margin.nd rfl (.inl rfl) (pe_lst pa_nil))
      (pss_cons (ps_for PassesOwn.never rfl (pi_range1 rfl T.z_range (pa_cons (pe_callB call_len_seq (by rfl) T.z_len PySem.boot_len (pa_cons (pv 0) pa_nil)) pa_nil)) (pg_name (i := 5) sc__law_margin.nd rfl (Or.inl rfl)) (pss_one (ps_if (pt_cmpR op_gt (pe_ix ix_list (pv 0) (pe_un un_neg pe_int) (fun _ _ => rfl)) (pe_ix ix_list (pv 1) pe_int (fun _ _ => rfl)) (nomark _)) (pss_cons (ps_expr (pe_bm0 PySem.F.plainAttrs_list PySem.F.slot_list_pop PySem.F.type_list_pop mt_pop (pv 0)))
      (pss_one (ps_expr (pe_bm PySem.F.plainAttrs_list PySem.F.slot_list_append PySem.F.type_list_append mt_append (pv 4) (pa_cons (pe_tup (pa_cons pe_str (pa_cons pe_str (pa_cons (pe_op op_add (pe_ix ix_list (pv 1) pe_int (fun _ _ => rfl)) pe_int) (pa_cons (pe_op op_add (pe_ix ix_list (pv 1) pe_int (fun _ _ => rfl)) pe_int) pa_nil))))) pa_nil))))) pss_nil)))
      (pss_one (ps_ret (pv 4))))))), ?_⟩
  unfold margin at q
  refine ⟨_, rfl, sa, _, 0, _, rfl, rfl, SqL.of hs, ix0, _, rfl, rfl, _, rfl, ?_⟩
  have e1 : decide (V.int (r : Int) = V.int (many : Int)) = decide (r = many) := int_dec
  by_cases c1 : r = many
  · refine iteT' (e1.trans (decide_eq_true c1)) ?_
    rw [if_pos (show (r, c).1 = many from c1)] at q
    refine ⟨_, rfl, 1, rfl, ba, _, rfl, SqL.of hB, fun g hg => ?_⟩
    have hcl := cutV_len (st.reverse.map fun n => V.int (n : Nat))
    rw [List.length_map, List.length_reverse] at hcl
    generalize cutV (st.reverse.map fun n => V.int (n : Nat)) (some (1 : Int)) none = ys at *
    have sg := same_new hg (.lst ys)
    refine ⟨g, rfl, ⟨_, SqL.of upd_same⟩, fun D hD => ?_⟩
    have nDg : g ≠ D := ne_of_none upd_same hD
    refine lc_it (walk_list (xs := ys)) (fun i H' => Same (upd H g (.lst ys)) H' ∧ ∃ us, H' D = some (.lst us) ∧ Mks H' us (List.replicate i (dedent behind 1))) ⟨same_new hD _, [], upd_same, Mks.nil⟩ (fun i H' _ h => SqL.of (h.1 _ _ upd_same)) ?_ ?_
    · rintro i x H3 H4 hi ⟨sm3, us, hl3, hm3⟩ ⟨rfl, hx⟩
      refine ⟨rfl, ?_⟩
      unfold tYes
      dsimp only
      rw [if_pos rfl]
      refine ⟨_, rfl, by show 4 ≤ sizeLine; omega, fun u hu => ?_⟩
      have nDu : D ≠ u := ne_of_none hl3 hu
      have su := same_new hu (.tup [.str (Str.ofString "dedent"), .str (Str.ofString ""), .int (behind : Nat), .int 1])
      refine ⟨us, by rw [upd_ne nDu]; exact hl3, by rw [hm3.1, List.length_replicate]; omega, same_upd (sm3.trans su) hD, us ++ [.ref u], upd_same, ?_⟩
      rw [List.replicate_succ']
      refine Mks.snoc (Mks.mono (Mks.same hm3 su) fun a t e => ?_) ?_
      · rw [upd_ne]; exact e
        intro z2; rw [z2, upd_ne nDu, hl3] at e; cases e
      · rw [upd_ne (Ne.symm nDu), upd_same, z.1, z.2.2.2]; rfl
    · rintro H3 ⟨sm3, us, hl3, hm3⟩
      rw [hcl] at hm3
      refine ⟨_, rfl, by show 4 ≤ sizeLine; omega, fun u hu => ?_⟩
      have su := same_new hu (.tup [.str (Str.ofString "end"), .str (Str.ofString ""), .int (behind : Nat), .int 1])
      refine ⟨by show 1 ≤ sizeLine; omega, fun e he => ?_⟩
      have se := same_new he (.lst [V.ref u])
      refine ⟨D, e, us, [.ref u], rfl, rfl, se _ _ (su _ _ hl3), upd_same, by rw [hm3.1, List.length_replicate]; show _ + 1 ≤ _; omega, fun p hp => ?_⟩
      have sp := same_new hp (.lst (us ++ [V.ref u]))
      have sB := sg.trans (sm3.trans (su.trans se))
      have sAll := sB.trans sp
      refine q _ p (us ++ [.ref u]) (sB.free hp) upd_same (Mks.snoc ((((hm3.same su).same se).same sp)) (sp _ _ (se _ _ (by rw [upd_same, z.2.2.1, z.2.2.2]; rfl)))) (sAll _ _ hB) (fun b o _ e => sAll _ _ e)
  refine iteF' (e1.trans (decide_eq_false c1)) ?_
  rw [if_neg (show ¬ (r, c).1 = many from c1)] at q
  obtain ⟨t0, r0, rfl⟩ : ∃ t0 r0, st = t0 :: r0 := by
    cases st with
    | nil => exact absurd rfl hI.ne
    | cons x y => exact ⟨x, y, rfl⟩
  refine ⟨_, rfl, sa, _, 1, _, rfl, rfl, SqL.of hs, ix1, _, rfl, 1, rfl, ba, _, -1, _, rfl, rfl, SqL.of hB, top_at, _, _, rfl, rfl, _, rfl, iteD (b := decide ((t0 : Int) < (c : Int))) (fun c2 => ?_) (fun c2 => ?_)⟩
  · have c' : t0 < c := by have := of_decide_eq_true c2; omega
    rw [if_pos (show (t0 :: r0).headD 0 < (r, c).2 from c')] at q
    refine ⟨_, rfl, .inl ⟨rfl, _, SqL.of hB⟩, _, rfl, sa, _, 1, _, rfl, rfl, SqL.of hs, ix1, ba, _, _, rfl, rfl, hB, by rw [List.length_map, List.length_reverse]; omega, ?_⟩
    have nsb : sa ≠ ba := Ne.symm nbs
    have hs2 : upd H ba (.lst (((t0 :: r0).reverse.map fun n => V.int (n : Nat)) ++ [V.int (c : Nat)])) sa = some (.lst [.int r, .int c]) := by rw [upd_ne nsb]; exact hs
    refine ⟨_, rfl, sa, _, 0, _, rfl, rfl, SqL.of hs2, ix0, _, _, rfl, rfl, _, rfl, sa, _, 1, _, rfl, rfl, SqL.of hs2, ix1, _, _, rfl, rfl, by show 4 ≤ sizeLine; omega, fun u hu => ?_⟩
    have eL : (((t0 :: r0).reverse.map fun n => V.int (n : Nat)) ++ [V.int (c : Nat)]) = (c :: t0 :: r0).reverse.map fun n => V.int (n : Nat) := by
      rw [List.reverse_cons (a := c), List.map_append]; rfl
    rw [eL] at hu ⊢
    refine ⟨by show 1 ≤ sizeLine; omega, fun p hp => ?_⟩
    have su := same_new hu (.tup [.str (Str.ofString "indent"), .str (Str.ofString ""), .int ((r : Int) + 1), .int ((c : Int) + 1)])
    have sp := same_new hp (.lst [V.ref u])
    have keep : ∀ b o, b ≠ ba → H b = some o → _ := fun b o hb e => sp _ _ (su _ _ (by rw [upd_ne hb]; exact e))
    have np : p ≠ ba := fun z2 => by rw [z2] at hp; have := su _ _ (upd_same (H := H) (a := ba) (o := .lst ((c :: t0 :: r0).reverse.map fun n => V.int (n : Nat)))); rw [hp] at this; cases this
    refine q _ p [.ref u] ?_ upd_same (Mks.snoc Mks.nil (sp _ _ (by rw [upd_same, z.2.1, z.2.2.2]; rfl))) (sp _ _ (su _ _ upd_same)) keep
    have := su.free hp
    rw [upd_ne np] at this
    exact this
  · have c' : ¬ t0 < c := by have := of_decide_eq_false c2; omega
    rw [if_neg (show ¬ (t0 :: r0).headD 0 < (r, c).2 from c')] at q
    generalize hst0 : t0 :: r0 = st at *
    refine ⟨by show 0 ≤ sizeLine; omega, fun D hD => ?_⟩
    have nbD : ba ≠ D := ne_of_none hB hD
    have nsD : sa ≠ D := ne_of_none hs hD
    have k1 := same_new hD (.lst [])
    refine ⟨_, rfl, ba, _, rfl, .inl (SqL.of (k1 _ _ hB)), _, rfl, Int.natCast_nonneg _, by rw [List.length_map, List.length_reverse]; omega, ?_⟩
    have el : (((st.reverse.map fun n => V.int (n : Nat)).length : Nat) : Int).toNat = st.length := by rw [List.length_map, List.length_reverse]; rfl
    refine for_range (lo := 0) (n := (((st.reverse.map fun n => V.int (n : Nat)).length : Nat) : Int).toNat) (fun i σ H' => ∃ (s1 : List Nat) (y : Option V) (us : List V), σ = [some (.ref ba), some (.ref sa), some (.int many), some (.int behind), some (.ref D), y, none] ∧ Blk H' ba s1 ∧
      (∀ b o, b ≠ ba → H b = some o → H' b = some o) ∧ Ind s1 ∧ popW c s1 = popW c st ∧ (s1 = popW c s1 ∨ s1.length + i = st.length) ∧ s1.length ≤ st.length ∧ H' D = some (.lst us) ∧ Mks H' us (List.replicate (st.length - s1.length) (dedent (r + 1) (c + 1))))
      ⟨st, none, [], rfl, k1 _ _ hB, (fun b o _ e => k1 _ _ e), hI, rfl, .inr rfl, Nat.le_refl _, upd_same, by rw [Nat.sub_self]; exact Mks.nil⟩ ?_ ?_
    · rintro i σ H2 hi ⟨s1, y, us, rfl, hs1, hk, hI1, hp1, hor, hle, hD2, hM2⟩
      obtain ⟨t1, r1, rfl⟩ : ∃ t1 r1, s1 = t1 :: r1 := by
        cases s1 with
        | nil => exact absurd rfl hI1.ne
        | cons x y => exact ⟨x, y, rfl⟩
      have hs2 := hk sa _ (Ne.symm nbs) hs
      refine ⟨_, rfl, 1, rfl, ba, _, -1, _, rfl, rfl, SqL.of hs1, top_at, _, rfl, sa, _, 1, _, rfl, rfl, SqL.of hs2, ix1, _, _, rfl, rfl, _, rfl, iteD (b := decide ((c : Int) < (t1 : Int))) (fun c3 => ?_) (fun c3 => ?_)⟩
      · have c4 : c < t1 := by have := of_decide_eq_true c3; omega
        have epop : popW c (t1 :: r1) = popW c r1 := by show (if c < t1 then popW c r1 else t1 :: r1) = _; rw [if_pos c4]
        refine ⟨_, rfl, .inl ⟨rfl, _, SqL.of hs1⟩, ba, _, .int (t1 : Nat), rfl, rfl, hs1, ?_, ?_⟩
        · show (((t1 :: r1).reverse.map fun n => V.int (n : Nat)))[((t1 :: r1).reverse.map fun n => V.int (n : Nat)).length - 1]? = some (V.int (t1 : Nat))
          rw [List.reverse_cons, List.map_append, List.length_append, List.getElem?_append_right (by simp)]
          simp
        have edl : ((t1 :: r1).reverse.map fun n => V.int (n : Nat)).dropLast = r1.reverse.map fun n => V.int (n : Nat) := by rw [List.reverse_cons, List.map_append]; simp
        rw [edl]
        have hD3 : upd H2 ba (.lst (r1.reverse.map fun n => V.int (n : Nat))) D = some (.lst us) := by rw [upd_ne (Ne.symm nbD)]; exact hD2
        have hs3 : upd H2 ba (.lst (r1.reverse.map fun n => V.int (n : Nat))) sa = some (.lst [.int r, .int c]) := by rw [upd_ne (Ne.symm nbs)]; exact hs2
        refine ⟨_, rfl, .inl ⟨rfl, _, SqL.of hD3⟩, _, rfl, sa, _, 0, _, rfl, rfl, SqL.of hs3, ix0, _, _, rfl, rfl, _, rfl, sa, _, 1, _, rfl, rfl, SqL.of hs3, ix1, _, _, rfl, rfl, by show 4 ≤ sizeLine; omega, fun u hu => ?_⟩
        have su := same_new hu (.tup [.str (Str.ofString "dedent"), .str (Str.ofString ""), .int ((r : Int) + 1), .int ((c : Int) + 1)])
        have nDu : D ≠ u := ne_of_none hD3 hu
        simp only [List.length_cons] at hle
        refine ⟨D, _, _, rfl, rfl, su _ _ hD3, by rw [hM2.1, List.length_replicate]; omega, ?_⟩
        refine ⟨r1, _, us ++ [.ref u], rfl, ?_, ?_, hI1.tail (by omega), by rw [← epop]; exact hp1, ?_, by omega, upd_same, ?_⟩
        · show upd _ D _ ba = _
          rw [upd_ne nbD]; exact su _ _ upd_same
        · intro b o hb e
          have e2 := hk b o hb e
          have e3 : upd H2 ba (.lst (r1.reverse.map fun n => V.int (n : Nat))) b = some o := by rw [upd_ne hb]; exact e2
          have nbD2 : b ≠ D := fun z2 => by rw [z2, hD] at e; cases e
          rw [upd_ne nbD2]; exact su _ _ e3
        · rcases hor with h | h
          · rw [epop] at h
            have h1 := congrArg List.length h
            have h2 := (popW_suf c r1).length_le
            simp only [List.length_cons] at h1
            omega
          · exact .inr (by simp only [List.length_cons] at h; omega)
        · have hlen : st.length - r1.length = (st.length - (t1 :: r1).length) + 1 := by simp only [List.length_cons]; omega
          rw [hlen, List.replicate_succ']
          refine Mks.snoc (Mks.mono hM2 fun a t e => ?_) ?_
          · have nab : a ≠ ba := fun z2 => by rw [z2, hs1] at e; cases e
            have naD : a ≠ D := fun z2 => by rw [z2, hD2] at e; cases e
            rw [upd_ne naD]
            exact su _ _ (by rw [upd_ne nab]; exact e)
          · rw [upd_ne (Ne.symm nDu), upd_same, z.1, z.2.2.2]; rfl
      · have c4 : ¬ c < t1 := by have := of_decide_eq_false c3; omega
        have epop : popW c (t1 :: r1) = t1 :: r1 := by show (if c < t1 then popW c r1 else t1 :: r1) = _; rw [if_neg c4]
        exact ⟨t1 :: r1, _, us, rfl, hs1, hk, hI1, hp1, .inl epop.symm, hle, hD2, hM2⟩
    · rintro σ H2 ⟨s1, y, us, rfl, hs1, hk, hI1, hp1, hor, hle, hD2, hM2⟩
      have es : s1 = popW c st := by
        rcases hor with h | h
        · rw [← hp1]; exact h
        · rw [el] at h
          exact absurd (List.eq_nil_of_length_eq_zero (by omega)) hI1.ne
      subst es
      exact ⟨_, rfl, q H2 D us hD hD2 hM2 hs1 hk⟩
end
end D0
namespace D0
open PySem PySem.Spec PyProof.Rows L2 SX NumText
theorem scanT_pre {q st : Nat} : ∀ {r : List Nat} {b : Bool} {k : Nat} {acc : List Nat} {t : Tr}, scanT q st b r k acc = .ok t → ∃ w e, t = (.text, .s w, e) ∧ acc <+: w
  | [], b, k, acc, t, h => by unfold scanT at h; cases b <;> cases h
  | c :: r, true, k, acc, t, h => by
    unfold scanT at h
    cases hx : escV [c] with
    | none => rw [hx] at h; cases h
    | some m =>
      rw [hx] at h
      obtain ⟨w, e, h1, h2⟩ := scanT_pre (r := r) (b := false) h
      exact ⟨w, e, h1, (List.prefix_append acc m).trans h2⟩
  | c :: r, false, k, acc, t, h => by
    unfold scanT at h
    split at h
    · cases h; exact ⟨acc, _, rfl, List.prefix_refl _⟩
    split at h
    · exact scanT_pre (r := r) h
    · obtain ⟨w, e, h1, h2⟩ := scanT_pre (r := r) h
      exact ⟨w, e, h1, (List.prefix_append acc [c]).trans h2⟩
/-- the next sign of the word, as it is written -/
theorem scanT_next {q st k e : Nat} {r w : List Nat} {j : Nat} (h : scanT q st false r k (w.take j) = .ok (.text, .s w, e)) (hj : j < w.length) :
    (∃ c r', r = c :: r' ∧ c ≠ q ∧ c ≠ 92 ∧ w[j]? = some c ∧ scanT q st false r' (k + 1) (w.take (j + 1)) = .ok (.text, .s w, e)) ∨
    (∃ c d r', r = 92 :: c :: r' ∧ 92 ≠ q ∧ escV [c] = some [d] ∧ w[j]? = some d ∧ scanT q st false r' (k + 2) (w.take (j + 1)) = .ok (.text, .s w, e)) := by
  have gw : ∀ {d : Nat}, w.take j ++ [d] <+: w → w[j]? = some d ∧ w.take j ++ [d] = w.take (j + 1) := fun {d} hp => by
    have hl : (w.take j).length = j := by rw [List.length_take]; omega
    have e1 : w[j]? = some d := by
      have h3 : (w.take j ++ [d])[j]? = some d := by rw [List.getElem?_append_right (by omega), hl, Nat.sub_self]; rfl
      obtain ⟨z, hz⟩ := hp
      rw [← hz, List.getElem?_append_left (by rw [List.length_append, hl]; show j < j + 1; omega)]; exact h3
    refine ⟨e1, ?_⟩
    rw [List.take_add_one, e1]; rfl
  cases r with
  | nil => unfold scanT at h; cases h
  | cons c r =>
    unfold scanT at h
    by_cases cq : c = q
    · rw [if_pos cq] at h
      have h1 := Except.ok.inj h
      have h2 : w.take j = w := by have := congrArg (fun t : Tr => t.2.1) h1; exact Wd.s.inj this
      have := congrArg List.length h2
      rw [List.length_take] at this; omega
    rw [if_neg cq] at h
    by_cases c92 : c = 92
    · rw [if_pos c92] at h
      subst c92
      cases r with
      | nil => unfold scanT at h; cases h
      | cons c2 r =>
        unfold scanT at h
        cases hx : escV [c2] with
        | none => rw [hx] at h; cases h
        | some m =>
          rw [hx] at h
          obtain ⟨d, rfl⟩ := escV_one hx
          have h : scanT q st false r (k + 1 + 1) (w.take j ++ [d]) = .ok (.text, .s w, e) := h
          obtain ⟨w2, e2, h1, h2⟩ := scanT_pre h
          have : w2 = w := by have := congrArg (fun t : Tr => t.2.1) h1; exact (Wd.s.inj this).symm
          subst this
          obtain ⟨g1, g2⟩ := gw h2
          rw [g2] at h
          exact .inr ⟨c2, d, r, rfl, cq, hx, g1, h⟩
    · rw [if_neg c92] at h
      obtain ⟨w2, e2, h1, h2⟩ := scanT_pre h
      have : w2 = w := by have := congrArg (fun t : Tr => t.2.1) h1; exact (Wd.s.inj this).symm
      subst this
      obtain ⟨g1, g2⟩ := gw h2
      rw [g2] at h
      exact .inl ⟨c, r, rfl, cq, c92, g1, h⟩
theorem scanT_last {q st k e : Nat} {r w : List Nat} (h : scanT q st false r k w = .ok (.text, .s w, e)) : ∃ r', r = q :: r' ∧ e = k + 1 := by
  have no : ∀ {d : Nat}, ¬ w ++ [d] <+: w := fun {d} hp => by have := hp.length_le; rw [List.length_append] at this; simp only [List.length_cons, List.length_nil] at this; omega
  cases r with
  | nil => unfold scanT at h; cases h
  | cons c r =>
    unfold scanT at h
    by_cases cq : c = q
    · rw [if_pos cq] at h
      have h1 := Except.ok.inj h
      have h2 : k + 1 = e := congrArg (fun t : Tr => t.2.2) h1
      exact ⟨r, by rw [cq], h2.symm⟩
    rw [if_neg cq] at h
    by_cases c92 : c = 92
    · rw [if_pos c92] at h
      cases r with
      | nil => unfold scanT at h; cases h
      | cons c2 r =>
        unfold scanT at h
        cases hx : escV [c2] with
        | none => rw [hx] at h; cases h
        | some m =>
          rw [hx] at h
          obtain ⟨d, rfl⟩ := escV_one hx
          obtain ⟨w2, e2, h1, h2⟩ := scanT_pre (r := r) (b := false) h
          have : w2 = w := by have := congrArg (fun t : Tr => t.2.1) h1; exact (Wd.s.inj this).symm
          subst this
          exact absurd h2 no
    · rw [if_neg c92] at h
      obtain ⟨w2, e2, h1, h2⟩ := scanT_pre (r := r) h
      have : w2 = w := by have := congrArg (fun t : Tr => t.2.1) h1; exact (Wd.s.inj this).symm
      subst this
      exact absurd h2 no
theorem escV_cases {c d : Nat} (h : escV [c] = some [d]) : (c = 110 ∧ d = 10) ∨ (c ≠ 110 ∧ d = c ∧ (c = 92 ∨ c = 39 ∨ c = 34)) := by
  unfold escV at h
  split at h
  · rename_i hh; have := (List.cons.inj hh).1; have := (List.cons.inj (Option.some.inj h)).1; exact .inl ⟨by assumption, this.symm⟩
  · rename_i hh; have := (List.cons.inj hh).1; have h2 := (List.cons.inj (Option.some.inj h)).1; exact .inr (by omega)
  · rename_i hh; have := (List.cons.inj hh).1; have h2 := (List.cons.inj (Option.some.inj h)).1; exact .inr (by omega)
  · rename_i hh; have := (List.cons.inj hh).1; have h2 := (List.cons.inj (Option.some.inj h)).1; exact .inr (by omega)
  · cases h
def spQSize : Sp := fun vs H Q _ => ∃ (l w : List Nat) (i e : Nat), vs = [.str (S l), .int i, .str (S w)] ∧ l.length ≤ big ∧ w.length ≤ big ∧ i < l.length ∧ (∀ c, l[i]? = some c → c = 34 ∨ c = 39) ∧ scanText l i = .ok (.text, .s w, e) ∧ ∀ H', Same H H' → Q (.int ((e : Int) - (i : Int))) H'
section
variable {P : Program} {w : World} {K : PySem.W.Frag} {mg : Str → Option Value} {base : Heap}
theorem ok__law_quoted_size (T : Txt K w mg) : OkD P w K mg base CX0 1 "_law_quoted_size" p__law_quoted_size spQSize := by
  refine T.g__law_quoted_size.ok sc__law_quoted_size (fun vs H Q E h => ?_) (fun f cdv A outer s H vs Q E hr h => ?_)
  · obtain ⟨l, w, i, e, rfl, _⟩ := h; rfl
  obtain ⟨l, w, i, e, rfl, hl, hw, hi, hq0, hsc, q⟩ := h
  have z : (Str.ofString "\"'").cps.toList = [34, 39] ∧ Str.ofString "\\" = S [92] ∧ Str.ofString "n" = S [110] ∧ Str.ofString "\n" = S [10] ∧ Str.ofString "'" = S [39] ∧ Str.ofString "\"" = S [34] := by decide +kernel
  have lim : (1000100 : Nat) ≤ sizeLine := by decide
  have hl' : l.length ≤ 1000000 := hl
  have hw' : w.length ≤ 1000000 := hw
  have gi : l[i]? = some l[i] := List.getElem?_eq_getElem hi
  have hq := hq0 _ gi
  unfold scanText at hsc
  rw [show (l.drop i).headD 0 = l[i] by rw [List.drop_eq_getElem_cons hi]; rfl] at hsc
  generalize l[i] = qc at *
  refine ⟨_, (pss_cons (ps_set (i := 3) sc__law_quoted_size.nd rfl (.inl rfl) (pe_ix ix_str (pv 0) (pv 1) (fun _ _ => rfl)))
      (pss_cons (ps_if (pt_cmpR op_notIn_sign (pv 3) pe_str (by rfl)) (pss_one (ps_ret pe_int)) pss_nil)
      (pss_cons (ps_set (i := 4) sc__law_quoted_size.nd rfl (.inl rfl) (pe_op op_add (pv 1) pe_int))
      (pss_cons (ps_for PassesOwn.never rfl (pi_str (pv 2)) (pg_name (i := 5) sc__law_quoted_size.nd rfl (Or.inl rfl)) (pss_cons (ps_set (i := 6) sc__law_quoted_size.nd rfl (.inl rfl) (pe_slice sl_str (pv 0) (po_some (pv 4)) (po_some (pe_op op_add (pv 4) pe_int))))
      (pss_cons (ps_set (i := 4) sc__law_quoted_size.nd rfl (.inl rfl) (pe_op op_add (pv 4) pe_int))
      (pss_cons (ps_if (pt_cmpR op_eq (pv 6) (pv 3) (nomark _)) (pss_one (ps_ret pe_int)) pss_nil)
      (pss_cons (ps_if (pt_cmpR op_eq (pv 6) pe_str (nomark _)) (pss_cons (ps_set (i := 6) sc__law_quoted_size.nd rfl (.inl rfl) (pe_slice sl_str (pv 0) (po_some (pv 4)) (po_some (pe_op op_add (pv 4) pe_int))))
      (pss_cons (ps_set (i := 4) sc__law_quoted_size.nd rfl (.inl rfl) (pe_op op_add (pv 4) pe_int))
      (pss_one (ps_if (pt_cmpR op_eq (pv 6) pe_str (nomark _)) (pss_one (ps_set (i := 6) sc__law_quoted_size.nd rfl (.inl rfl) pe_str)) (pss_one (ps_if (pt_cmpR op_notIn_seq (pv 6) (pe_lst (pa_cons pe_str (pa_cons pe_str (pa_cons pe_str pa_nil)))) (by rfl)) (pss_one (ps_ret pe_int)) pss_nil)))))) pss_nil)
      (pss_one (ps_if (pt_cmpR op_ne (pv 6) (pv 5) (nomark _)) (pss_one (ps_ret pe_int)) pss_nil)))))))
      (pss_cons (ps_if (pt_cmpR op_ne (pe_slice sl_str (pv 0) (po_some (pv 4)) (po_some (pe_op op_add (pv 4) pe_int))) (pv 3) (nomark _)) (pss_one (ps_ret pe_int)) pss_nil)
      (pss_one (ps_ret (pe_op op_sub (pe_op op_add (pv 4) pe_int) (pv 1))))))))), ?_⟩
  have hS : (S l).length ≤ sizeLine := by rw [S_len]; omega
  have eqn : ∀ (k c : Nat), decide (V.str (S (at1 l k)) = V.str (S [c])) = decide ((l.drop k).head? = some c) := fun k c => at1_eq l k c
  refine ⟨_, rfl, _, rfl, S l, i, qc, rfl, rfl, S_line hl, at_S gi, ?_⟩
  refine ⟨_, rfl, qc, _, rfl, rfl, _, rfl, iteF' (by rw [z.1]; rcases hq with h | h <;> rw [h] <;> rfl) ?_⟩
  refine ⟨_, rfl, _, _, rfl, rfl, ?_⟩
  have hsz : (S w).cps.size = w.length := by show w.toArray.size = _; simp
  have hget : ∀ j : Nat, (S w).cps[j]? = w[j]? := fun j => by show w.toArray[j]? = _; simp
  refine ⟨_, rfl, S w, rfl, for_it walk_str (fun j σ H' => ∃ (k : Nat) (y y2 : Option V), σ = [some (.str (S l)), some (.int i), some (.str (S w)), some (.str (S [qc])), some (.int k), y, y2] ∧ Same H H' ∧ scanT qc i false (l.drop k) k (w.take j) = .ok (.text, .s w, e))
    ⟨i + 1, none, none, rfl, Same.refl H, hsc⟩ (fun _ _ _ _ _ => trivial) ?_ ?_⟩
  · rintro j x σ H1 H2 hj ⟨k, y, y2, rfl, sm, hk⟩ ⟨rfl, c, hc, rfl⟩
    rw [hsz] at hj
    rw [hget] at hc
    have e1 : cutS (S l) (some (k : Int)) (some ((k : Int) + 1)) = S (at1 l k) := at1_cut l k
    refine ⟨_, rfl, _, rfl, _, rfl, _, rfl, _, _, rfl, rfl, _, rfl, S l, rfl, hS, ?_⟩
    rw [e1]
    refine ⟨_, rfl, _, _, rfl, rfl, ?_⟩
    refine ⟨_, rfl, _, rfl, rfl, _, rfl, ?_⟩
    rcases scanT_next hk hj with ⟨c', r', hr', n1, n2, hw1, hk2⟩ | ⟨c', d, r', hr', n1, hes, hw1, hk2⟩
    · have : c' = c := Option.some.inj (hw1.symm.trans hc)
      subst this
      have e3 : at1 l k = [c'] := at1_cons hr'
      have hd : l.drop (k + 1) = r' := by rw [← List.drop_drop, hr']; rfl
      refine iteF' ((eqn k qc).trans (decide_eq_false (fun z2 => by rw [hr'] at z2; exact n1 (Option.some.inj z2)))) ?_
      refine ⟨_, rfl, rfl, _, rfl, ?_⟩
      refine iteF' (by rw [z.2.1]; exact (eqn k 92).trans (decide_eq_false (fun z2 => by rw [hr'] at z2; exact n2 (Option.some.inj z2)))) ?_
      refine ⟨_, rfl, _, rfl, rfl, _, rfl, ?_⟩
      refine iteF' (by show (!decide (V.str (S (at1 l k)) = V.str (S [c']))) = false; rw [e3, decide_eq_true rfl]; rfl) ?_
      exact ⟨k + 1, _, _, rfl, sm, by rw [hd]; exact hk2⟩
    · have : d = c := Option.some.inj (hw1.symm.trans hc)
      subst this
      have e3 : at1 l k = [92] := at1_cons hr'
      have hd1 : l.drop (k + 1) = c' :: r' := by rw [← List.drop_drop, hr']; rfl
      have hd2 : l.drop (k + 2) = r' := by rw [show k + 2 = k + 1 + 1 by omega, ← List.drop_drop, hd1]; rfl
      refine iteF' ((eqn k qc).trans (decide_eq_false (fun z2 => by rw [hr'] at z2; exact n1 (Option.some.inj z2)))) ?_
      refine ⟨_, rfl, rfl, _, rfl, ?_⟩
      refine iteT' (by rw [z.2.1]; exact (eqn k 92).trans (decide_eq_true (by rw [hr']; rfl))) ?_
      have e1' : cutS (S l) (some ((k : Int) + 1)) (some ((k : Int) + 1 + 1)) = S (at1 l (k + 1)) := at1_cut l (k + 1)
      refine ⟨_, rfl, _, rfl, _, rfl, _, rfl, _, _, rfl, rfl, _, rfl, S l, rfl, hS, ?_⟩
      rw [e1', at1_cons hd1]
      refine ⟨_, rfl, _, _, rfl, rfl, ?_⟩
      refine ⟨_, rfl, rfl, _, rfl, ?_⟩
      have e110 : decide (V.str (S [c']) = V.str (Str.ofString "n")) = decide (c' = 110) := by rw [z.2.2.1, one_dec]
      rcases escV_cases hes with ⟨h1, h2⟩ | ⟨h1, h2, h3⟩
      · refine iteT' (e110.trans (decide_eq_true h1)) ?_
        subst h2
        refine ⟨_, rfl, _, rfl, rfl, _, rfl, ?_⟩
        refine iteF' (by show (!decide (V.str (Str.ofString "\n") = V.str (S [10]))) = false; rw [z.2.2.2.1, decide_eq_true rfl]; rfl) ?_
        exact ⟨k + 2, _, _, rfl, sm, by rw [hd2]; exact hk2⟩
      · refine iteF' (e110.trans (decide_eq_false h1)) ?_
        subst h2
        refine ⟨_, rfl, by show 3 ≤ sizeLine; omega, fun g hg => ?_⟩
        have hdisp : ([.str (Str.ofString "\\"), .str (Str.ofString "'"), .str (Str.ofString "\"")] : List V) = ([[92], [39], [34]] : List (List Nat)).map fun l => V.str (S l) := by
          rw [z.2.1, z.2.2.2.2.1, z.2.2.2.2.2]; rfl
        refine ⟨g, ([[92], [39], [34]] : List (List Nat)).map fun l => V.str (S l), rfl, .inl (SqL.of (by rw [upd_same, ← hdisp])), rfl, flat_strs _, _, rfl, ?_⟩
        have hin := in_strs [d] [[92], [39], [34]]
        have hmem : [d] ∈ ([[92], [39], [34]] : List (List Nat)) := by rcases h3 with h | h | h <;> rw [h] <;> decide
        refine iteF' (by show (!inV _ _) = false; rw [hin, decide_eq_true hmem]; rfl) ?_
        refine ⟨_, rfl, _, rfl, rfl, _, rfl, ?_⟩
        refine iteF' (by show (!decide (V.str (S [d]) = V.str (S [d]))) = false; rw [decide_eq_true rfl]; rfl) ?_
        exact ⟨k + 2, _, _, rfl, same_upd sm (sm.free hg), by rw [hd2]; exact hk2⟩
  · rintro σ H1 ⟨k, y, y2, rfl, sm, hk⟩
    rw [hsz, List.take_length] at hk
    obtain ⟨r', hr', he⟩ := scanT_last hk
    have e1 : cutS (S l) (some (k : Int)) (some ((k : Int) + 1)) = S (at1 l k) := at1_cut l k
    refine ⟨_, rfl, _, rfl, _, rfl, _, rfl, _, _, rfl, rfl, _, rfl, S l, rfl, hS, ?_⟩
    rw [e1, at1_cons hr']
    refine ⟨_, rfl, rfl, _, rfl, iteF' (by show (!decide (V.str (S [qc]) = V.str (S [qc]))) = false; rw [decide_eq_true rfl]; rfl) ?_⟩
    refine ⟨_, rfl, _, _, rfl, rfl, _, rfl, _, _, rfl, rfl, ?_⟩
    have := q H1 sm
    rw [he] at this
    exact this
end
end D0
namespace D0
open PySem PySem.Spec PyProof.Rows L2 SX NumText
theorem dv_snoc (l : List Nat) (c : Nat) : digitsVal (l ++ [c]) = digitsVal l * 10 + (c - 48) := by
  unfold digitsVal; rw [List.foldl_append]; rfl
theorem snoc_ind {α : Type} {C : List α → Prop} (h0 : C []) (h1 : ∀ l a, C l → C (l ++ [a])) (l : List α) : C l := by
  rw [← List.reverse_reverse l]
  induction l.reverse with
  | nil => exact h0
  | cons a t ih => rw [List.reverse_cons]; exact h1 _ _ ih
theorem dv_pos : ∀ l : List Nat, l ≠ [] → AllDigits l → l.head? ≠ some 48 → 1 ≤ digitsVal l := by
  refine snoc_ind (fun h => absurd rfl h) ?_
  intro l a ih _ hd h0
  rw [dv_snoc]
  by_cases e : l = []
  · subst e
    have ha := hd a (by simp)
    have : a ≠ 48 := fun z => h0 (by rw [z]; rfl)
    omega
  · have := ih e (fun c hc => hd c (List.mem_append_left _ hc)) (fun z => h0 (by cases l with | nil => exact absurd rfl e | cons b t => simpa using z))
    omega
theorem numL_of : ∀ l : List Nat, l ≠ [] → AllDigits l → (l.head? = some 48 → l.length = 1) → TL.numL (digitsVal l) = l := by
  refine snoc_ind (fun h => absurd rfl h) ?_
  intro l a ih _ hd h0
  have ha := hd a (by simp)
  rw [dv_snoc]
  by_cases e : l = []
  · subst e
    have : digitsVal [] = 0 := rfl
    rw [this, TL.numL_lt (by omega)]
    show [48 + (0 * 10 + (a - 48))] = [a]
    congr 1; omega
  · have hne : l.head? ≠ some 48 := fun z => by
      have : (l ++ [a]).length = 1 := h0 (by cases l with | nil => exact absurd rfl e | cons b t => simpa using z)
      rw [List.length_append, List.length_singleton] at this
      have := List.length_pos_iff.mpr e
      omega
    have hdl : AllDigits l := fun c hc => hd c (List.mem_append_left _ hc)
    have hp := dv_pos l e hdl hne
    rw [TL.numL_step (by omega), show (digitsVal l * 10 + (a - 48)) / 10 = digitsVal l by omega, show 48 + (digitsVal l * 10 + (a - 48)) % 10 = a by omega, ih e hdl (fun z => absurd z hne)]
theorem dv_lt : ∀ l : List Nat, AllDigits l → digitsVal l < 10 ^ l.length := by
  refine snoc_ind (fun _ => by decide) ?_
  intro l a ih hd
  have ha := hd a (by simp)
  have := ih (fun c hc => hd c (List.mem_append_left _ hc))
  rw [dv_snoc, List.length_append, List.length_singleton, Nat.pow_succ]
  omega
theorem find_max {p : List Nat → Bool} {s : List Nat} : ∀ {L : List (List Nat)}, L.Pairwise (fun a b => b.length ≤ a.length) → L.find? p = some s → ∀ g ∈ L, p g = true → g.length ≤ s.length
  | [], _, h, _, _, _ => by cases h
  | a :: r, hp, h, g, hg, pg => by
    rw [List.find?_cons] at h
    cases pa : p a with
    | true =>
      rw [pa] at h
      have : a = s := by simpa using h
      subst this
      rcases List.mem_cons.mp hg with rfl | hg
      · exact Nat.le_refl _
      · exact (List.pairwise_cons.mp hp).1 g hg
    | false =>
      rw [pa] at h
      rcases List.mem_cons.mp hg with rfl | hg
      · rw [pa] at pg; cases pg
      · exact find_max (List.pairwise_cons.mp hp).2 (by simpa using h) g hg pg
theorem SG_desc : SG.Pairwise (fun a b => b.length ≤ a.length) := by decide
def spSize : Sp := fun vs H Q _ => ∃ (l : List Nat) (i : Nat) (kd : Kd) (wd : Wd) (e : Nat), vs = [.str (S l), .int i, .str (S kd.cp), wd.v] ∧ l.length ≤ 120 ∧ i < l.length ∧ scanTok l i = .ok (kd, wd, e) ∧ ∀ H', Same H H' → Q (.int ((e : Int) - (i : Int))) H'
/-- what is known of a token that is no text -/
inductive TokF (l : List Nat) (i : Nat) : Kd → Wd → Nat → List Nat → Prop
  | nm (kd : Kd) : letc (l.getD i 0) = true → kd = (if word l i (twl namc l i) ∈ KW then Kd.keyword else Kd.name) → TokF l i kd (.s (word l i (twl namc l i))) (twl namc l i) (word l i (twl namc l i))
  | num : numBad l i = false → isDig (l.getD i 0) = true → TokF l i .number (.n (digitsVal (word l i (twl isDig l i)))) (twl isDig l i) (word l i (twl isDig l i))
  | sg (s : List Nat) : SG.find? (fun s => decide ((l.drop i).take s.length = s)) = some s → TokF l i .sign (.s s) (i + s.length) s
theorem tok_cases {l : List Nat} {i e : Nat} {kd : Kd} {wd : Wd} (hi : i < l.length) (h : scanTok l i = .ok (kd, wd, e)) : (kd = .text ∧ (l.getD i 0 = 34 ∨ l.getD i 0 = 39) ∧ scanText l i = .ok (kd, wd, e)) ∨ ∃ sp, TokF l i kd wd e sp := by
  have hd : (l.drop i).headD 0 = l.getD i 0 := by rw [List.drop_eq_getElem_cons hi, List.getD_eq_getElem?_getD, List.getElem?_eq_getElem hi]; rfl
  unfold scanTok at h
  rw [hd] at h
  cases c1 : letc (l.getD i 0) with
  | true =>
    rw [c1, if_pos rfl] at h
    unfold scanName at h
    split at h
    · cases h
    · cases h; exact .inr ⟨_, TokF.nm _ c1 rfl⟩
  | false =>
    rw [c1, if_neg Bool.false_ne_true] at h
    cases c2 : isDig (l.getD i 0) with
    | true =>
      rw [c2, if_pos rfl] at h
      unfold scanNumber at h
      split at h
      · cases h
      · rename_i hb
        cases h; exact .inr ⟨_, TokF.num (Bool.eq_false_iff.mpr hb) c2⟩
    | false =>
      rw [c2, if_neg Bool.false_ne_true] at h
      split at h
      · rename_i c3
        obtain ⟨w2, e2, h1, h2⟩ := scanT_pre h
        cases h1
        exact .inl ⟨rfl, c3, h⟩
      · unfold scanSign at h
        split at h
        · rename_i s hs
          cases h
          exact .inr ⟨_, TokF.sg s hs⟩
        · cases h
end D0
namespace D0
open PySem PySem.Spec PyProof.Rows L2 SX NumText
theorem getD_get {l : List Nat} {i : Nat} (hi : i < l.length) : l[i]? = some (l.getD i 0) := by rw [List.getD_eq_getElem?_getD, List.getElem?_eq_getElem hi]; rfl
theorem word_take {l : List Nat} {i j : Nat} (h1 : i ≤ j) (h2 : j ≤ l.length) : (l.drop i).take (word l i j).length = word l i j ∧ i + (word l i j).length = j := by
  have := word_len h1 h2
  exact ⟨by rw [this]; rfl, by omega⟩
theorem TokF.facts {l : List Nat} {i e : Nat} {kd : Kd} {wd : Wd} {sp : List Nat} (hi : i < l.length) (h : TokF l i kd wd e sp) : sp ≠ [] ∧ e = i + sp.length ∧ (l.drop i).take sp.length = sp ∧ i + sp.length ≤ l.length := by
  cases h with
  | nm kd h1 h2 =>
    have hn : namc (l.getD i 0) = true := by unfold namc; rw [h1]; rfl
    have hgt := twl_gt (f := namc) hi (by have := getD_get hi; rw [List.getElem?_eq_getElem hi] at this; rw [Option.some.inj this]; exact hn)
    have hle := twl_le (f := namc) (Nat.le_of_lt hi)
    obtain ⟨a, b⟩ := word_take (l := l) (i := i) (j := twl namc l i) (by omega) hle
    exact ⟨fun z => by rw [z] at b; simp at b; omega, b.symm, a, by omega⟩
  | num h1 h2 =>
    have hgt := twl_gt (f := isDig) hi (by have := getD_get hi; rw [List.getElem?_eq_getElem hi] at this; rw [Option.some.inj this]; exact h2)
    have hle := twl_le (f := isDig) (Nat.le_of_lt hi)
    obtain ⟨a, b⟩ := word_take (l := l) (i := i) (j := twl isDig l i) (by omega) hle
    exact ⟨fun z => by rw [z] at b; simp at b; omega, b.symm, a, by omega⟩
  | sg _ h1 =>
    have hp := List.find?_some h1
    have hp := of_decide_eq_true hp
    have hm := (SG_len sp (List.mem_of_find?_eq_some h1)).1
    have hl := congrArg List.length hp
    rw [List.length_take, List.length_drop] at hl
    exact ⟨hm, rfl, hp, by have := List.length_pos_iff.mpr hm; omega⟩
/-- the number's digits are its text -/
theorem num_sp {l : List Nat} {i : Nat} (hi : i < l.length) (h1 : numBad l i = false) (h2 : isDig (l.getD i 0) = true) : Str.ofString (toString ((digitsVal (word l i (twl isDig l i)) : Nat) : Int)) = S (word l i (twl isDig l i)) ∧ digitsVal (word l i (twl isDig l i)) < 10 ^ 40 := by
  have hdg : AllDigits (word l i (twl isDig l i)) := by rw [word_tw]; exact tw_digits _
  have hne := (TokF.facts hi (TokF.num h1 h2)).1
  unfold numBad at h1
  rw [Bool.or_eq_false_iff, Bool.or_eq_false_iff] at h1
  obtain ⟨⟨a, b⟩, c⟩ := h1
  have a := of_decide_eq_false a
  refine ⟨?_, ?_⟩
  · have e := numL_of _ hne hdg (fun z => by
      rw [z, decide_eq_true rfl, Bool.and_true] at b
      have b := of_decide_eq_false b
      have := List.length_pos_iff.mpr hne
      omega)
    rw [num_S, e]
  · exact Nat.lt_of_lt_of_le (dv_lt _ hdg) (Nat.pow_le_pow_right (by decide) (by omega))
theorem scanT_len {q st : Nat} : ∀ {r : List Nat} {b : Bool} {k : Nat} {acc : List Nat} {kd : Kd} {w : List Nat} {e : Nat}, scanT q st b r k acc = .ok (kd, .s w, e) → w.length ≤ acc.length + r.length
  | [], b, k, acc, kd, w, e, h => by unfold scanT at h; cases b <;> cases h
  | c :: r, true, k, acc, kd, w, e, h => by
    unfold scanT at h
    cases hx : escV [c] with
    | none => rw [hx] at h; cases h
    | some m =>
      rw [hx] at h
      obtain ⟨d, rfl⟩ := escV_one hx
      have := scanT_len (r := r) (b := false) h
      rw [List.length_append] at this
      simp only [List.length_cons, List.length_nil] at this ⊢; omega
  | c :: r, false, k, acc, kd, w, e, h => by
    unfold scanT at h
    split at h
    · cases h; omega
    split at h
    · have := scanT_len (r := r) h; simp only [List.length_cons]; omega
    · have := scanT_len (r := r) h
      rw [List.length_append] at this
      simp only [List.length_cons, List.length_nil] at this ⊢; omega
theorem twl_at {f : Nat → Bool} {l : List Nat} {i : Nat} (h : twl f l i < l.length) : f (l.getD (twl f l i) 0) = false := by
  have e : l.drop i = (l.drop i).takeWhile f ++ (l.drop i).dropWhile f := (List.takeWhile_append_dropWhile).symm
  have e2 : (l.drop i).dropWhile f = l.drop (twl f l i) := by
    have := congrArg (List.drop ((l.drop i).takeWhile f).length) e
    rw [List.drop_drop, List.drop_left] at this
    exact this.symm
  have e3 : l.drop (twl f l i) = l.getD (twl f l i) 0 :: l.drop (twl f l i + 1) := by
    rw [List.drop_eq_getElem_cons h, List.getD_eq_getElem?_getD, List.getElem?_eq_getElem h]; rfl
  rw [e3] at e2
  cases hf : f (l.getD (twl f l i) 0) with
  | false => rfl
  | true =>
    exfalso
    have : ∀ (x : List Nat) (c : Nat) (r : List Nat), x.dropWhile f = c :: r → f c = false := by
      intro x
      induction x with
      | nil => intro c r h; cases h
      | cons a t ih =>
        intro c r h
        rw [List.dropWhile_cons] at h
        cases ha : f a with
        | true => rw [ha, if_pos rfl] at h; exact ih c r h
        | false => rw [ha, if_neg Bool.false_ne_true] at h; rw [← (List.cons.inj h).1]; exact ha
    rw [this _ _ _ e2] at hf; cases hf
theorem tw_all {f : Nat → Bool} (x : List Nat) : ∀ c ∈ x.takeWhile f, f c = true := by
  induction x with
  | nil => intro c h; cases h
  | cons a t ih =>
    intro c h
    rw [List.takeWhile_cons] at h
    cases ha : f a with
    | true => rw [ha, if_pos rfl] at h; rcases List.mem_cons.mp h with rfl | h; exact ha; exact ih c h
    | false => rw [ha, if_neg Bool.false_ne_true] at h; cases h
section
variable {P : Program} {w : World} {K : PySem.W.Frag} {mg : Str → Option Value} {base : Heap}
theorem kd_eq (a b : Kd) {x : Str} (hx : x = S b.cp) : decide (V.str (S a.cp) = V.str x) = decide (a.cp = b.cp) := by rw [hx]; exact str_dec _ _
theorem ok__law_size (T : Txt K w mg) (Ol : OkD P w K mg base CX0 1 "_law_letters" p__law_letters (spConst letL)) (Os : OkD P w K mg base CX0 1 "_law_signs" p__law_signs (spStrs SG)) (Ok : OkD P w K mg base CX0 1 "_law_keywords" p__law_keywords (spStrs KW))
    (Oq : OkD P w K mg base CX0 1 "_law_quoted_size" p__law_quoted_size spQSize) : OkD P w K mg base CX0 2 "_law_size" p__law_size spSize := by
  refine T.g__law_size.ok sc__law_size (fun vs H Q E h => ?_) (fun f cdv A outer s H vs Q E hr h => ?_)
  · obtain ⟨l, i, kd, wd, e, rfl, _⟩ := h; rfl
  obtain ⟨l, i, kd, wd, e, rfl, hl, hi, hsc, q⟩ := h
  have zk : Str.ofString "text" = S (Kd.cp .text) ∧ Str.ofString "number" = S (Kd.cp .number) ∧ Str.ofString "sign" = S (Kd.cp .sign) ∧ Str.ofString "name" = S (Kd.cp .name) ∧ Str.ofString "keyword" = S (Kd.cp .keyword) ∧ Str.ofString "" = S [] ∧ Str.ofString "0123456789" = S digL := by decide +kernel
  have lim : (1000100 : Nat) ≤ sizeLine := by decide
  have hS : (S l).length ≤ sizeLine := by rw [S_len]; omega
  have gi := getD_get hi
  refine split_at 4 (fun t => ∀ sp, TokF l i kd wd e sp → t { nx := fun _ H' => Q .non H', rt := Q } [some (.str (S l)), some (.int i), some (.str (S kd.cp)), some wd.v, some (.str (S letL)), some (.str (S sp)), none, none, none] H) ?_ (fun t ht hg => ?_)
  · refine ⟨_, (pss_cons (ps_set (i := 6) sc__law_size.nd rfl (.inl rfl) (pe_op op_add (pv 1) (pe_callB call_len_str (by rfl) T.z_len PySem.boot_len (pa_cons (pv 5) pa_nil))))
      (pss_cons (ps_if (PW.pt (pw_or (pt_cmpR op_eq (pv 5) pe_str (nomark _)) (pw_or1 (pt_cmpR op_ne (pe_slice sl_str (pv 0) (po_some (pv 1)) (po_some (pv 6))) (pv 5) (nomark _))))) (pss_one (ps_ret pe_int)) pss_nil)
      (pss_cons (ps_if (pt_cmpR op_eq (pv 2) pe_str (nomark _)) (pss_cons (ps_setLc (i := 7) (own := [("one", 8)]) (g := gName 8) (by rfl) sc__law_size.nd rfl rfl (sw_true rfl rfl rfl (by decide +kernel)) (pi_list (pcall0 Os hr)) (blkOk_by (own := [("one", 8)]) (N := n__law_size) (sc := defScope s__law_size) (by decide +kernel))
          (fun _ _ _ _ _ => (pg_name (i := 8) sc__law_size.nd rfl (Or.inl rfl))) (fun _ _ _ _ _ => pts_one (PW.pt (pw_and (pt_cmpR op_gt (pe_callB call_len_str (by rfl) T.z_len PySem.boot_len (pa_cons (pv 8) pa_nil)) (pe_callB call_len_str (by rfl) T.z_len PySem.boot_len (pa_cons (pv 3) pa_nil)) (nomark _)) (pw_and1 (pt_cmpR op_eq (pe_slice sl_str (pv 0) (po_some (pv 1)) (po_some (pe_op op_add (pv 1) (pe_callB call_len_str (by rfl) T.z_len PySem.boot_len (pa_cons (pv 8) pa_nil))))) (pv 8) (nomark _)))))) (fun _ _ _ _ _ => pv 8))
      (pss_one (ps_ret (pe_ifExp (PW.pt (pw_and (pt_cmpR op_in_seq (pv 3) (pcall0 Os hr) (by rfl)) (pw_and1 (pt_cmpR (op_eqD hr.units) (pv 7) (pe_lst pa_nil) (nomark _))))) (pe_callB call_len_str (by rfl) T.z_len PySem.boot_len (pa_cons (pv 3) pa_nil)) pe_int)))) pss_nil)
      (pss_cons (ps_if (pt_cmpR op_notIn_seq (pv 2) (pe_lst (pa_cons pe_str (pa_cons pe_str (pa_cons pe_str pa_nil)))) (by rfl)) (pss_one (ps_ret pe_int)) pss_nil)
      (pss_cons (ps_if (PW.pt (pw_and (pt_cmpR op_lt (pv 6) (pe_callB call_len_str (by rfl) T.z_len PySem.boot_len (pa_cons (pv 0) pa_nil)) (nomark _)) (pw_and1 (pt_cmpR op_in_sign (pe_ix ix_str (pv 0) (pv 6) (fun _ _ => rfl)) (pe_op op_add_str (pv 4) pe_str) (by rfl))))) (pss_one (ps_ret pe_int)) pss_nil)
      (pss_cons (ps_if (pt_cmpR op_eq (pv 2) pe_str (nomark _)) (pss_one (ps_ret (pe_callB call_len_str (by rfl) T.z_len PySem.boot_len (pa_cons (pv 5) pa_nil)))) pss_nil)
      (pss_cons (ps_if (PW.pt (pw_or (pt_cmpR op_notIn_sign (pe_ix ix_str (pv 5) pe_int (fun _ _ => rfl)) (pv 4) (by rfl)) (pw_or1 (pt_not (pt_val (pe_callB (cr_all rfl) (by rfl) T.z_all boot_all (pa_cons
          (pe_lc (own := [("one", 8)]) (g := gName 8) (tt := tYes) (by rfl) sc__law_size.nd (pi_str (pv 5)) (blkOk_by (own := [("one", 8)]) (N := n__law_size) (sc := defScope s__law_size) (by decide +kernel))
            (fun _ _ _ _ _ => (pg_name (i := 8) sc__law_size.nd rfl (Or.inl rfl))) (fun _ _ _ _ _ => pts_nil) (fun _ _ _ _ _ => (pe_cmpR op_in_sign (pv 8) (pe_op op_add_str (pv 4) pe_str) (by rfl)))) pa_nil))))))) (pss_one (ps_ret pe_int)) pss_nil)
      (pss_one (ps_ret (pe_ifExp (pt_cmpR op_eq (pe_cmpR op_eq (pv 2) pe_str (nomark _)) (pe_cmpR op_in_seq (pv 3) (pcall0 Ok hr) (by rfl)) (nomark _)) (pe_callB call_len_str (by rfl) T.z_len PySem.boot_len (pa_cons (pv 5) pa_nil)) pe_int)))))))))), ?_⟩
    intro sp hT
    obtain ⟨hne, he, htk, hle⟩ := hT.facts hi
    have hpos := List.length_pos_iff.mpr hne
    have hS2 : (S sp).length ≤ sizeLine := by rw [S_len]; omega
    have fin : ∀ H' : Hp, Same H H' → Q (.int ((S sp).length : Int)) H' := fun H' sm => by
      have := q H' sm
      rw [S_len]
      rw [he, show ((i + sp.length : Nat) : Int) - (i : Int) = (sp.length : Int) by omega] at this
      exact this
    refine ⟨_, rfl, _, rfl, _, rfl, hS2, _, _, rfl, rfl, ?_⟩
    have hbe : (i : Int) + ((S sp).length : Int) = ((e : Nat) : Int) := by rw [S_len, he]; omega
    dsimp only
    rw [hbe]
    have eb : decide (V.str (S sp) = V.str (Str.ofString "")) = false := by rw [zk.2.2.2.2.2.1, str_dec]; exact decide_eq_false hne
    refine ⟨_, rfl, rfl, _, rfl, iteF' eb ?_⟩
    have ecut : cutS (S l) (some (i : Int)) (some (e : Int)) = S sp := by
      rw [he]
      have := cut_nn l i (i + sp.length) (by omega)
      rw [Nat.add_sub_cancel_left, htk] at this
      exact this
    refine ⟨_, rfl, _, rfl, _, rfl, _, rfl, _, rfl, S l, rfl, hS, ?_⟩
    rw [ecut]
    refine ⟨_, rfl, rfl, _, rfl, iteF' (by show (!decide (V.str (S sp) = V.str (S sp))) = false; rw [decide_eq_true rfl]; rfl) ?_⟩
    refine ⟨_, rfl, rfl, _, rfl, ?_⟩
    have eSg := kd_eq kd .sign zk.2.2.1
    have hdisp : ([.str (Str.ofString "name"), .str (Str.ofString "keyword"), .str (Str.ofString "number")] : List V) = ([Kd.cp .name, Kd.cp .keyword, Kd.cp .number] : List (List Nat)).map fun l => V.str (S l) := by
      rw [zk.2.2.2.1, zk.2.2.2.2.1, zk.2.1]; rfl
    have namL : ∀ c : Nat, decide (c ∈ (S letL ++ Str.ofString "0123456789").cps.toList) = namc c := fun c => by rw [zk.2.2.2.2.2.2, S_cat]; exact in_namL c
    have lenA : (S letL).length + (Str.ofString "0123456789").length ≤ sizeLine := by rw [zk.2.2.2.2.2.2, S_len, S_len]; show 53 + 10 ≤ _; omega
    have three3 : 3 ≤ sizeLine := by omega
    -- behind the word stands no sign of a name
    have behind : ∀ (f2 : Nat → Bool) (k : Nat), True := fun _ _ => trivial
    cases hT with
    | sg _ h1 =>
      refine iteT' (eSg.trans rfl) ?_
      refine ⟨rfl, fun p H2 sm hp hpl => ?_⟩
      refine ⟨p, rfl, ⟨_, SqL.of hpl⟩, fun D hD => ?_⟩
      refine lc_it (walk_list (xs := SG.map fun l => V.str (S l))) (fun i H' => Same H2 H' ∧ H' D = some (.lst [])) ⟨same_new hD _, upd_same⟩ (fun i H' _ h => SqL.of (h.1 _ _ hpl)) ?_ ?_
      · rintro j x H3 H4 hj ⟨sm3, hl3⟩ ⟨rfl, hx⟩
        rw [List.getElem?_map] at hx
        obtain ⟨sg, hs, rfl⟩ := Option.map_eq_some_iff.mp hx
        have hsm : sg ∈ SG := List.mem_of_getElem? hs
        have hs3 := (SG_len sg hsm).2
        have hmax := find_max SG_desc h1 sg hsm
        refine ⟨rfl, ?_⟩
        refine ⟨_, rfl, _, rfl, by rw [S_len]; omega, _, rfl, _, rfl, hS2, _, _, rfl, rfl, _, rfl, iteD (b := decide (((S sp).length : Int) < ((S sg).length : Int))) (fun c => ?_) (fun c => ?_)⟩
        · have c := of_decide_eq_true c
          rw [S_len, S_len] at c
          refine ⟨_, rfl, _, rfl, _, rfl, _, rfl, _, rfl, _, rfl, (by rw [S_len]; omega), _, _, rfl, rfl, _, rfl, S l, rfl, hS, ?_⟩
          have ec2 : cutS (S l) (some (i : Int)) (some ((i : Int) + ((S sg).length : Int))) = S ((l.drop i).take sg.length) := by
            rw [S_len]
            have := cut_nn l i (i + sg.length) (by omega)
            rw [Nat.add_sub_cancel_left] at this
            exact this
          rw [ec2]
          refine ⟨_, rfl, rfl, _, rfl, iteF' ?_ ⟨sm3, hl3⟩⟩
          rw [str_dec]
          refine decide_eq_false fun z => ?_
          have := hmax (decide_eq_true z)
          omega
        · exact ⟨sm3, hl3⟩
      · rintro H3 ⟨sm3, hl3⟩
        have s3 : Same H H3 := sm.trans sm3
        refine ⟨_, rfl, rfl, fun p2 H4 sm4 hp2 hpl2 => ?_⟩
        refine ⟨p2, _, rfl, .inl (SqL.of hpl2), rfl, flat_strs SG, _, rfl, ?_⟩
        refine iteT' (by show inV (V.str (S sp)) _ = true; rw [in_strs sp SG]; exact decide_eq_true (List.mem_of_find?_eq_some h1)) ?_
        refine ⟨_, rfl, by show 0 ≤ sizeLine; omega, fun g hg2 => ?_⟩
        have hl5 := (same_new hg2 (.lst [])) _ _ (sm4 _ _ hl3)
        refine ⟨.list [], .list [], .lst (SqL.of hl5) .nil, .lst (SqL.of upd_same) .nil, by decide, by decide, _, rfl, iteT' rfl ?_⟩
        refine ⟨_, rfl, _, rfl, hS2, ?_⟩
        exact fin _ (s3.trans (sm4.trans (same_new hg2 _)))
    | num h1 h2 =>
      refine iteF' (eSg.trans rfl) ?_
      refine ⟨_, rfl, three3, fun g hg2 => ?_⟩
      have sg := same_new hg2 (.lst [.str (Str.ofString "name"), .str (Str.ofString "keyword"), .str (Str.ofString "number")])
      refine ⟨g, ([Kd.cp .name, Kd.cp .keyword, Kd.cp .number] : List (List Nat)).map fun l => V.str (S l), rfl, .inl (SqL.of (by rw [upd_same, ← hdisp])), rfl, flat_strs _, _, rfl, ?_⟩
      refine iteF' (by show (if true = true then !inV _ _ else inV _ _) = false; rw [if_pos rfl, in_strs]; rfl) ?_
      have hge := twl_ge (f := isDig) l i
      have hle2 := twl_le (f := isDig) (Nat.le_of_lt hi)
      have nb : decide ((twl isDig l i : Int) < ((S l).length : Int)) = true → ∀ c, l[twl isDig l i]? = some c → namc c = false := fun c x hx => by
        have c := of_decide_eq_true c
        rw [S_len] at c
        have hlt : twl isDig l i < l.length := by omega
        have hg := getD_get hlt
        have hxx : x = l.getD (twl isDig l i) 0 := Option.some.inj (hx.symm.trans hg)
        have e1 := twl_at (f := isDig) hlt
        unfold numBad at h1
        rw [Bool.or_eq_false_iff] at h1
        have e2 := h1.2
        rw [decide_eq_true hlt, Bool.true_and, List.drop_eq_getElem_cons hlt, List.take_succ_cons, List.take_zero, List.any_cons, List.any_nil, Bool.or_false] at e2
        have e3 := e2
        have e4 : l[twl isDig l i] = x := Option.some.inj ((List.getElem?_eq_getElem hlt).symm.trans hx)
        rw [e4] at e3
        unfold namc
        rw [e3, hxx, e1]; rfl
      refine ⟨_, rfl, _, rfl, _, rfl, hS, _, _, rfl, rfl, _, rfl, iteD (b := decide ((twl isDig l i : Int) < ((S l).length : Int))) (fun c => ?_) (fun c => ?_)⟩
      · have c2 := of_decide_eq_true c
        rw [S_len] at c2
        have hlt : twl isDig l i < l.length := by omega
        have hg := getD_get hlt
        refine ⟨_, rfl, _, rfl, S l, twl isDig l i, _, rfl, rfl, hS, at_S hg, _, rfl, _, _, rfl, rfl, lenA, _, _, rfl, rfl, _, rfl, iteF' ((namL _).trans (nb c _ hg)) ?_⟩
        exact ⟨_, rfl, rfl, _, rfl, iteT' ((kd_eq .number .number zk.2.1).trans rfl) ⟨_, rfl, _, rfl, hS2, fin _ sg⟩⟩
      · exact ⟨_, rfl, rfl, _, rfl, iteT' ((kd_eq .number .number zk.2.1).trans rfl) ⟨_, rfl, _, rfl, hS2, fin _ sg⟩⟩
    | nm _ h1 h2 =>
      refine iteF' (eSg.trans (by rw [h2]; split <;> rfl)) ?_
      refine ⟨_, rfl, three3, fun g hg2 => ?_⟩
      have sg := same_new hg2 (.lst [.str (Str.ofString "name"), .str (Str.ofString "keyword"), .str (Str.ofString "number")])
      refine ⟨g, ([Kd.cp .name, Kd.cp .keyword, Kd.cp .number] : List (List Nat)).map fun l => V.str (S l), rfl, .inl (SqL.of (by rw [upd_same, ← hdisp])), rfl, flat_strs _, _, rfl, ?_⟩
      refine iteF' (by show (if true = true then !inV _ _ else inV _ _) = false; rw [if_pos rfl, in_strs, h2]; split <;> rfl) ?_
      have hge := twl_ge (f := namc) l i
      have hle2 := twl_le (f := namc) (Nat.le_of_lt hi)
      have eN := kd_eq kd .number zk.2.1
      have eK := kd_eq kd .keyword zk.2.2.2.2.1
      have nNum : decide (kd.cp = Kd.cp .number) = false := by rw [h2]; split <;> rfl
      have hall : ∀ c ∈ word l i (twl namc l i), namc c = true := by rw [word_tw]; exact tw_all _
      obtain ⟨w0, wr, hw0⟩ : ∃ w0 wr, word l i (twl namc l i) = w0 :: wr := by
        cases h : word l i (twl namc l i) with
        | nil => exact absurd h hne
        | cons a t => exact ⟨a, t, rfl⟩
      have hl0 : letc w0 = true := by
        have e1 : word l i (twl namc l i) = l[i] :: ((l.drop (i + 1)).takeWhile namc) := by
          rw [word_tw, List.drop_eq_getElem_cons hi, List.takeWhile_cons]
          have : l[i] = l.getD i 0 := Option.some.inj ((List.getElem?_eq_getElem hi).symm.trans gi)
          rw [if_pos (by rw [this]; unfold namc; rw [h1]; rfl)]
        rw [e1] at hw0
        rw [← (List.cons.inj hw0).1, show l[i] = l.getD i 0 from Option.some.inj ((List.getElem?_eq_getElem hi).symm.trans gi)]
        exact h1
      have kwE : decide (V.bl (decide (kd.cp = Kd.cp .keyword)) = V.bl (inV (V.str (S (word l i (twl namc l i)))) (KW.map fun l => V.str (S l)))) = true := by
        rw [in_strs, h2]
        refine decide_eq_true ?_
        congr 1
        by_cases hk : word l i (twl namc l i) ∈ KW
        · rw [if_pos hk, decide_eq_true hk]; rfl
        · rw [if_neg hk, decide_eq_false hk]; rfl
      refine ⟨_, rfl, _, rfl, _, rfl, hS, _, _, rfl, rfl, _, rfl, iteD (b := decide ((twl namc l i : Int) < ((S l).length : Int))) (fun c => ?_) (fun c => ?_)⟩
      · have c2 := of_decide_eq_true c
        rw [S_len] at c2
        have hlt : twl namc l i < l.length := by omega
        have hg := getD_get hlt
        refine ⟨_, rfl, _, rfl, S l, twl namc l i, _, rfl, rfl, hS, at_S hg, _, rfl, _, _, rfl, rfl, lenA, _, _, rfl, rfl, _, rfl, iteF' ((namL _).trans (twl_at hlt)) ?_⟩
        exact ⟨_, rfl, rfl, _, rfl, iteF' (eN.trans nNum) (by
          refine ⟨_, rfl, S (word l i (twl namc l i)), 0, w0, rfl, rfl, hS2, at_S (by rw [hw0]; rfl), _, rfl, w0, S letL, rfl, rfl, _, rfl, iteF' (by show (!decide (w0 ∈ letL)) = false; rw [in_letL, hl0]; rfl) ?_⟩
          refine ⟨_, rfl, S (word l i (twl namc l i)), rfl, fun D hD => ?_⟩
          refine lc_it walk_str (fun j H' => Same (upd H g (.lst [.str (Str.ofString "name"), .str (Str.ofString "keyword"), .str (Str.ofString "number")])) H' ∧ H' D = some (.lst ((List.replicate j true).map V.bl))) ⟨same_new hD _, upd_same⟩ (fun _ _ _ _ => trivial) ?_ ?_
          · rintro j x H3 H4 hj ⟨sm3, hl3⟩ ⟨rfl, c9, hc9, rfl⟩
            have hc10 : (word l i (twl namc l i))[j]? = some c9 := by rw [← hc9]; show _ = (word l i (twl namc l i)).toArray[j]?; simp
            have hn9 := hall c9 (List.mem_of_getElem? hc10)
            have hj9 := (List.getElem?_eq_some_iff.mp hc10).1
            refine ⟨rfl, ?_⟩
            unfold tYes
            dsimp only
            rw [if_pos rfl]
            refine ⟨_, rfl, _, rfl, _, _, rfl, rfl, lenA, c9, _, rfl, rfl, _, hl3, by rw [List.length_map, List.length_replicate]; omega, same_upd sm3 hD, ?_⟩
            rw [upd_same, namL, hn9, List.replicate_succ', List.map_append]; rfl
          · rintro H3 ⟨sm3, hl3⟩
            refine ⟨D, _, rfl, SqL.of hl3, _, rfl, ?_⟩
            refine iteF' (by show (!((List.replicate _ true).all id)) = false; rw [List.all_replicate]; split <;> rfl) ?_
            refine ⟨_, rfl, rfl, _, rfl, rfl, fun p2 H4 sm4 hp2 hpl2 => ?_⟩
            refine ⟨p2, _, rfl, .inl (SqL.of hpl2), rfl, flat_strs KW, rfl, _, rfl, iteT' (by rw [← kd_eq kd .keyword zk.2.2.2.2.1] at kwE; exact kwE) ?_⟩
            exact ⟨_, rfl, _, rfl, hS2, fin _ (sg.trans (sm3.trans sm4))⟩)⟩
      · exact ⟨_, rfl, rfl, _, rfl, iteF' (eN.trans nNum) (by
        refine ⟨_, rfl, S (word l i (twl namc l i)), 0, w0, rfl, rfl, hS2, at_S (by rw [hw0]; rfl), _, rfl, w0, S letL, rfl, rfl, _, rfl, iteF' (by show (!decide (w0 ∈ letL)) = false; rw [in_letL, hl0]; rfl) ?_⟩
        refine ⟨_, rfl, S (word l i (twl namc l i)), rfl, fun D hD => ?_⟩
        refine lc_it walk_str (fun j H' => Same (upd H g (.lst [.str (Str.ofString "name"), .str (Str.ofString "keyword"), .str (Str.ofString "number")])) H' ∧ H' D = some (.lst ((List.replicate j true).map V.bl))) ⟨same_new hD _, upd_same⟩ (fun _ _ _ _ => trivial) ?_ ?_
        · rintro j x H3 H4 hj ⟨sm3, hl3⟩ ⟨rfl, c9, hc9, rfl⟩
          have hc10 : (word l i (twl namc l i))[j]? = some c9 := by rw [← hc9]; show _ = (word l i (twl namc l i)).toArray[j]?; simp
          have hn9 := hall c9 (List.mem_of_getElem? hc10)
          have hj9 := (List.getElem?_eq_some_iff.mp hc10).1
          refine ⟨rfl, ?_⟩
          unfold tYes
          dsimp only
          rw [if_pos rfl]
          refine ⟨_, rfl, _, rfl, _, _, rfl, rfl, lenA, c9, _, rfl, rfl, _, hl3, by rw [List.length_map, List.length_replicate]; omega, same_upd sm3 hD, ?_⟩
          rw [upd_same, namL, hn9, List.replicate_succ', List.map_append]; rfl
        · rintro H3 ⟨sm3, hl3⟩
          refine ⟨D, _, rfl, SqL.of hl3, _, rfl, ?_⟩
          refine iteF' (by show (!((List.replicate _ true).all id)) = false; rw [List.all_replicate]; split <;> rfl) ?_
          refine ⟨_, rfl, rfl, _, rfl, rfl, fun p2 H4 sm4 hp2 hpl2 => ?_⟩
          refine ⟨p2, _, rfl, .inl (SqL.of hpl2), rfl, flat_strs KW, rfl, _, rfl, iteT' (by rw [← kd_eq kd .keyword zk.2.2.2.2.1] at kwE; exact kwE) ?_⟩
          exact ⟨_, rfl, _, rfl, hS2, fin _ (sg.trans (sm3.trans sm4))⟩)⟩
  · refine ⟨_, pss_cons (ps_set (i := 4) sc__law_size.nd rfl (.inr rfl) (pcall0 Ol hr)) (pss_cons (ps_if (pt_cmpR op_eq (pv 2) pe_str (nomark _)) (pss_one (ps_ret (pcall Oq hr (pa_cons (pv 0) (pa_cons (pv 1) (pa_cons (pv 3) pa_nil)))))) pss_nil) (pss_cons (ps_set (i := 5) sc__law_size.nd rfl (.inl rfl) (pv 3)) (pss_cons (ps_if (pt_cmpR op_eq (pv 2) pe_str (nomark _)) (pss_one (ps_set (i := 5) sc__law_size.nd rfl (.inl rfl) (pe_callTy call_str_int (by rfl) T.z_str PyProof.Rows.boot_str (pa_cons (pv 3) pa_nil)))) pss_nil) ht))), ?_⟩
    refine ⟨rfl, _, rfl, rfl, _, rfl, ?_⟩
    have eT := kd_eq kd .text zk.1
    have eN := kd_eq kd .number zk.2.1
    rcases tok_cases hi hsc with ⟨hk, hq, hst⟩ | ⟨sp, hT⟩
    · subst hk
      obtain ⟨w2, e2, h1, h2⟩ := scanT_pre (by unfold scanText at hst; exact hst)
      cases h1
      refine iteT' (eT.trans rfl) ?_
      have hwl : w2.length ≤ big := by
        have := scanT_len (by unfold scanText at hst; exact hst)
        rw [List.length_drop, List.length_nil] at this
        show _ ≤ 1000000; omega
      exact ⟨_, rfl, _, rfl, _, rfl, l, w2, i, e, rfl, by show _ ≤ 1000000; omega, hwl, hi, fun c hc => by rw [gi] at hc; rw [← Option.some.inj hc]; exact hq, hst, q⟩
    · have hnt : decide (kd.cp = Kd.cp .text) = false := by
        cases hT with
        | nm _ _ h => rw [h]; split <;> rfl
        | num _ _ => rfl
        | sg _ _ => rfl
      refine iteF' (eT.trans hnt) ?_
      refine ⟨_, rfl, _, rfl, rfl, _, rfl, ?_⟩
      have hT' := hT
      cases hT with
      | nm _ h1 h2 =>
        refine iteF' (eN.trans (by rw [h2]; split <;> rfl)) ?_
        exact hg _ hT'
      | num h1 h2 =>
        obtain ⟨n1, n2⟩ := num_sp hi h1 h2
        refine iteT' (eN.trans rfl) ?_
        refine ⟨_, rfl, _, rfl, ?_, ?_⟩
        · show Nat.log2 _ < 1920
          by_cases h0 : digitsVal (word l i (twl isDig l i)) = 0
          · rw [h0]; decide +kernel
          · refine (Nat.log2_lt h0).mpr (Nat.lt_trans n2 (by decide +kernel))
        · rw [n1]; exact hg _ hT'
      | sg _ h1 =>
        refine iteF' (eN.trans rfl) ?_
        exact hg _ hT'
end
end D0
namespace D0
open PySem PySem.Spec PyProof.Rows L2 SX NumText
def isN : Kd → Bool
  | .number => true
  | _ => false
/-- a mark whose word fits its kind -/
def MkOk (m : Mk) : Prop := (isN m.k = true → ∃ n, m.w = .n n ∧ n < 10 ^ 40) ∧ (isN m.k = false → ∃ l, m.w = .s l)
def spIsTok : Sp := fun vs H Q _ => ∃ (p : Addr) (us : List V) (ms : List Mk), vs = [.ref p] ∧ H p = some (.lst us) ∧ Mks H us ms ∧ (∀ m ∈ ms, MkOk m) ∧ Q (.bl true) H
section
variable {P : Program} {w : World} {K : PySem.W.Frag} {mg : Str → Option Value} {base : Heap}
theorem ok__law_is_tokens (T : Txt K w mg) (Ow : OkD P w K mg base CX0 1 "_law_whole" p__law_whole spWhole) : OkD P w K mg base CX0 2 "_law_is_tokens" p__law_is_tokens spIsTok := by
  refine T.g__law_is_tokens.ok sc__law_is_tokens (fun vs H Q E h => ?_) (fun f cdv A outer s H vs Q E hr h => ?_)
  · obtain ⟨p, us, ms, rfl, _⟩ := h; rfl
  obtain ⟨p, us, ms, rfl, hp, hm, hok, q⟩ := h
  refine ⟨_, (pss_cons (ps_if (pt_not (pt_val (pe_callB call_isi (by rfl) T.z_isinstance PyProof.Rows.boot_isinstance (pa_cons (pv 0) (pa_cons (pe_bltn (v := .ty "list") rfl T.z_list PyProof.Rows.boot_list rfl) pa_nil))))) (pss_one (ps_ret pe_bl)) pss_nil)
      (pss_cons (ps_for PassesOwn.never rfl (pi_list (pv 0)) (pg_name (i := 1) sc__law_is_tokens.nd rfl (Or.inl rfl)) (pss_cons (ps_if (PW.pt (pw_or (pt_not (pt_val (pe_callB call_isi (by rfl) T.z_isinstance PyProof.Rows.boot_isinstance (pa_cons (pv 1) (pa_cons (pe_bltn (v := .ty "tuple") rfl T.z_tuple PyProof.Rows.boot_tuple rfl) pa_nil))))) (pw_or (pt_cmpR op_ne (pe_callB call_len_seq (by rfl) T.z_len PySem.boot_len (pa_cons (pv 1) pa_nil)) pe_int (nomark _)) (pw_or1 (pt_not (pt_val (pe_callB call_isi (by rfl) T.z_isinstance PyProof.Rows.boot_isinstance (pa_cons (pe_ix ix_tup (pv 1) pe_int (fun _ _ => rfl)) (pa_cons (pe_bltn (v := .ty "str") rfl T.z_str PyProof.Rows.boot_str rfl) pa_nil))))))))) (pss_one (ps_ret pe_bl)) pss_nil)
      (pss_cons (ps_if (PW.pt (pw_or (pt_not (pt_val (pcall Ow hr (pa_cons (pe_ix ix_tup (pv 1) pe_int (fun _ _ => rfl)) pa_nil)))) (pw_or1 (pt_not (pt_val (pcall Ow hr (pa_cons (pe_ix ix_tup (pv 1) pe_int (fun _ _ => rfl)) pa_nil))))))) (pss_one (ps_ret pe_bl)) pss_nil)
      (pss_cons (ps_if (PW.pt (pw_and (pt_cmpR op_ne (pe_ix ix_tup (pv 1) pe_int (fun _ _ => rfl)) pe_str (nomark _)) (pw_and1 (pt_not (pt_val (pe_callB call_isi (by rfl) T.z_isinstance PyProof.Rows.boot_isinstance (pa_cons (pe_ix ix_tup (pv 1) pe_int (fun _ _ => rfl)) (pa_cons (pe_bltn (v := .ty "str") rfl T.z_str PyProof.Rows.boot_str rfl) pa_nil)))))))) (pss_one (ps_ret pe_bl)) pss_nil)
      (pss_one (ps_if (PW.pt (pw_and (pt_cmpR op_eq (pe_ix ix_tup (pv 1) pe_int (fun _ _ => rfl)) pe_str (nomark _)) (pw_and1 (PW.pt (pw_or (pt_not (pt_val (pcall Ow hr (pa_cons (pe_ix ix_tup (pv 1) pe_int (fun _ _ => rfl)) pa_nil)))) (pw_or1 (pt_not (pt_chain op_le op_lt pe_int (pe_ix ix_tup (pv 1) pe_int (fun _ _ => rfl)) (pe_op op_pow pe_int pe_int))))))))) (pss_one (ps_ret pe_bl)) pss_nil))))))
      (pss_one (ps_ret pe_bl)))), ?_⟩
  have zn : Str.ofString "number" = S (Kd.cp .number) := by decide +kernel
  refine ⟨_, rfl, _, _, _, _, _, rfl, .ty _, .base (.lst hp), kit_ty (by decide +kernel : kitB "list" "list" = some true), _, rfl, iteF' rfl ?_⟩
  refine ⟨_, rfl, p, rfl, ⟨_, SqL.of hp⟩, for_it (walk_list (xs := us)) (fun j σ H' => (∃ y, σ = [some (.ref p), y]) ∧ H' = H) ⟨⟨none, rfl⟩, rfl⟩ (fun j σ H' _ h => by obtain ⟨_, rfl⟩ := h; exact SqL.of hp) ?_ ?_⟩
  · rintro j x σ H1 H2 hj ⟨⟨y, rfl⟩, rfl⟩ ⟨rfl, hx⟩
    rw [hm.1] at hj
    have hmj : ms[j]? = some ms[j] := List.getElem?_eq_getElem hj
    obtain ⟨a, ha, hta⟩ := hm.2 j _ hmj
    have : x = .ref a := Option.some.inj (hx.symm.trans ha)
    subst this
    obtain ⟨k1, k2⟩ := hok _ (List.getElem_mem hj)
    generalize ms[j] = m at *
    have hT : SqT K H2 a m.vs := SqT.of hta
    have a0 : atI m.vs (0 : Int) = some (.str (S m.k.cp)) := atI_nat (j := 0) rfl
    have a1 : atI m.vs (1 : Int) = some m.w.v := atI_nat (j := 1) rfl
    have a2 : atI m.vs (2 : Int) = some (.int (m.ln : Nat)) := atI_nat (j := 2) rfl
    have a3 : atI m.vs (3 : Int) = some (.int (m.col : Nat)) := atI_nat (j := 3) rfl
    refine ⟨_, rfl, _, _, _, _, _, rfl, .ty _, .base (.tup hta), kit_ty (by decide +kernel : kitB "tuple" "tuple" = some true), _, rfl, iteF' rfl ?_⟩
    refine ⟨_, rfl, a, _, rfl, .inr hT, rfl, _, rfl, iteF' (by show (!decide (V.int ((4 : Nat) : Int) = V.int 4)) = false; rfl) ?_⟩
    refine ⟨_, rfl, a, _, 0, _, rfl, rfl, hT, a0, _, _, _, _, _, rfl, .ty _, .base (.str _), kit_ty (by decide +kernel : kitB "str" "str" = some true), _, rfl, iteF' rfl ?_⟩
    refine ⟨_, rfl, a, _, 2, _, rfl, rfl, hT, a2, _, rfl, _, rfl, iteF' rfl ?_⟩
    refine ⟨_, rfl, a, _, 3, _, rfl, rfl, hT, a3, _, rfl, _, rfl, iteF' rfl ?_⟩
    refine ⟨_, rfl, a, _, 0, _, rfl, rfl, hT, a0, rfl, _, rfl, ?_⟩
    have e1 : decide (V.str (S m.k.cp) = V.str (Str.ofString "number")) = isN m.k := by
      rw [zn, str_dec]; cases m.k <;> rfl
    have eN : ∀ b, isN m.k = b → (!decide (V.str (S m.k.cp) = V.str (Str.ofString "number"))) = !b := fun b h => by rw [e1, h]
    cases hN : isN m.k with
    | true =>
      obtain ⟨n, hw, hn⟩ := k1 hN
      refine iteF' (eN _ hN) ?_
      refine ⟨_, rfl, a, _, 0, _, rfl, rfl, hT, a0, rfl, _, rfl, iteT' (e1.trans hN) ?_⟩
      rw [hw] at a1
      refine ⟨_, rfl, a, _, 1, _, rfl, rfl, hT, a1, _, rfl, _, rfl, iteF' rfl ?_⟩
      refine ⟨_, rfl, a, _, 1, _, rfl, rfl, hT, a1, _, _, rfl, rfl, _, rfl, iteT' (by show (!decide ((n : Int) < 0)) = true; rw [decide_eq_false (by omega)]; rfl) ?_⟩
      refine ⟨_, _, rfl, rfl, ⟨by decide, by decide, by decide +kernel⟩, ?_⟩
      obtain ⟨big40, hb40, hlt⟩ : ∃ b : Int, (fun (i j : Int) => V.int (i ^ j.toNat)) 10 40 = V.int b ∧ (n : Int) < b := by
        refine ⟨((10 ^ 40 : Nat) : Int), ?_, by omega⟩
        show V.int ((10 : Int) ^ (Int.toNat 40)) = _
        have : (10 : Int) ^ (Int.toNat 40) = ((10 ^ 40 : Nat) : Int) := by decide +kernel
        rw [this]
      refine ⟨(n : Int), big40, rfl, hb40, _, rfl, iteF' ?_ ⟨⟨_, rfl⟩, rfl⟩⟩
      show (!decide ((n : Int) < big40)) = false
      rw [decide_eq_true hlt]; rfl
    | false =>
      obtain ⟨l, hw⟩ := k2 hN
      refine iteT' (eN _ hN) ?_
      rw [hw] at a1
      refine ⟨_, rfl, a, _, 1, _, rfl, rfl, hT, a1, _, _, _, _, _, rfl, .ty _, .base (.str _), kit_ty (by decide +kernel : kitB "str" "str" = some true), _, rfl, iteF' rfl ?_⟩
      refine ⟨_, rfl, a, _, 0, _, rfl, rfl, hT, a0, rfl, _, rfl, iteF' (e1.trans hN) ⟨⟨_, rfl⟩, rfl⟩⟩
  · rintro σ H1 ⟨⟨y, rfl⟩, rfl⟩
    exact q
end
end D0
namespace D0
open PySem PySem.Spec PyProof.Rows L2 SX NumText
/-- the marks as data -/
def dW : Wd → PyData
  | .s l => .str (S l)
  | .n k => .int (k : Nat)
def dM (m : Mk) : PyData := .tuple [.str (S m.k.cp), dW m.w, .int (m.ln : Nat), .int (m.col : Nat)]
/-- the word's signs are signs -/
def WOk : Wd → Prop
  | .s l => ∀ c ∈ l, c < 1114112
  | .n _ => True
theorem strOk_of {l : List Nat} (h : ∀ c ∈ l, c < 1114112) : PyData.strOk (S l) = true := by
  show l.toArray.all _ = true
  rw [List.all_toArray]
  exact List.all_eq_true.mpr fun c hc => decide_eq_true (h c hc)
theorem cp_ok (k : Kd) : ∀ c ∈ k.cp, c < 1114112 := by cases k <;> decide
theorem dM_ok {m : Mk} (h : WOk m.w) : (dM m).canLay0 = true ∧ (dM m).depth ≤ 5 := by
  have h1 := strOk_of (cp_ok m.k)
  have h2 : (dW m.w).canLay0 = true ∧ (dW m.w).depth ≤ 2 := by
    cases hw : m.w with
    | s l => rw [hw] at h; exact ⟨by show PyData.canLay0 (.str _) = true; rw [PyData.canLay0]; exact strOk_of h, by show PyData.depth (.str _) ≤ 2; unfold PyData.depth; decide⟩
    | n k => exact ⟨by show PyData.canLay0 (.int _) = true; rw [PyData.canLay0], by show PyData.depth (.int _) ≤ 2; unfold PyData.depth; decide⟩
  unfold dM
  refine ⟨?_, ?_⟩
  · simp only [PyData.canLay0, PyData.canLayAll0, h1, h2.1, Bool.and_true]
  · simp only [PyData.depth, PyData.depthAll]
    have := h2.2
    omega
theorem dMs_ok : ∀ {ms : List Mk}, (∀ m ∈ ms, WOk m.w) → PyData.canLayAll0 (ms.map dM) = true ∧ PyData.depthAll (ms.map dM) ≤ 5
  | [], _ => ⟨rfl, by decide⟩
  | m :: r, h => by
    obtain ⟨a, b⟩ := dMs_ok (ms := r) fun x hx => h x (List.mem_cons_of_mem _ hx)
    obtain ⟨c, d⟩ := dM_ok (h m List.mem_cons_self)
    refine ⟨by rw [List.map_cons, PyData.canLayAll0, a, c]; rfl, ?_⟩
    rw [List.map_cons, PyData.depthAll]
    exact Nat.max_le.mpr ⟨d, b⟩
theorem dMs_shaped {ms : List Mk} (h : ∀ m ∈ ms, WOk m.w) : SeqAt.shaped (.list (ms.map dM)) = true := by
  obtain ⟨a, b⟩ := dMs_ok h
  unfold SeqAt.shaped
  rw [PyData.canLay0, a, PyData.depth]
  exact decide_eq_true (by omega)
theorem dM_shaped {m : Mk} (h : WOk m.w) : SeqAt.shaped (dM m) = true := by
  obtain ⟨a, b⟩ := dM_ok h
  unfold SeqAt.shaped
  rw [a]
  exact decide_eq_true (by omega)
theorem dM_refl {m : Mk} (h : WOk m.w) : PyData.eqv (dM m) (dM m) = true := by
  have := (dM_ok h).1
  unfold dM at this ⊢
  rw [PyData.eqv]
  exact PySem.SeqAt.eqvAll_refl _ (by rw [PyData.canLay0] at this; exact this)
theorem dMs_nil (ms : List Mk) : PyData.eqv (.list (ms.map dM)) (.list []) = decide (ms = []) := by
  cases ms with
  | nil => rfl
  | cons d r => rfl
theorem dM_dp {K : PySem.W.Frag} {H : Hp} {a : Addr} {m : Mk} (h : H a = some (.tup m.vs)) : Dp K H (.ref a) (dM m) := by
  refine .tup (SqT.of h) (.cons (.str _) (.cons ?_ (.cons (.int _) (.cons (.int _) .nil))))
  cases m.w with
  | s l => exact .str _
  | n k => exact .int _
theorem dMs_dp {K : PySem.W.Frag} {H : Hp} : ∀ {us : List V} {ms : List Mk}, Mks H us ms → DpAll K H us (ms.map dM)
  | [], [], _ => .nil
  | [], m :: r, h => by have := h.1; simp at this
  | u :: us, [], h => by have := h.1; simp at this
  | u :: us, m :: r, h => by
    obtain ⟨a, e1, e2⟩ := h.2 0 m rfl
    have : u = .ref a := by simpa using e1
    subst this
    exact .cons (dM_dp e2) (dMs_dp ⟨by have := h.1; simpa using this, fun i x hx => h.2 (i + 1) x (by simpa using hx)⟩)
/-! the state of the reading along the marks -/
structure Fs where
  bl : List Nat
  pd : Int
  ins : Bool
  r : Nat
  c : Nat
  due : List Mk
def brD (m : Mk) : Int := if isSg m.k = true then (if wl m.w ∈ OPN then 1 else 0) - (if wl m.w ∈ CLS then 1 else 0) else 0
abbrev Fs.ah (rows : List (List Nat)) (s : Fs) : Nat × Nat := nextSpot rows s.r s.c
inductive FStep (rows : List (List Nat)) : Fs → Mk → Fs → Prop
  | due (s : Fs) (m : Mk) (d : List Mk) : s.due = m :: d → FStep rows s m { s with due := d }
  | nl (s : Fs) : s.due = [] → s.ins = true → s.pd = 0 → (s.ah rows).1 ≠ s.r →
      FStep rows s ⟨.newline, .s [], s.r + 1, s.c + 1⟩ { s with ins := false, due := (margin s.bl (s.ah rows) rows.length (s.r + 2)).2, bl := (margin s.bl (s.ah rows) rows.length (s.r + 2)).1 }
  | tok (s : Fs) (m : Mk) (l : List Nat) (e : Nat) : s.due = [] → ¬ (s.ins = true ∧ s.pd = 0 ∧ (s.ah rows).1 ≠ s.r) → rows[(s.ah rows).1]? = some l → (s.ah rows).2 < l.length → scanTok l (s.ah rows).2 = .ok (m.k, m.w, e) →
      m.ln = (s.ah rows).1 + 1 → m.col = (s.ah rows).2 + 1 → FStep rows s m { s with pd := s.pd + brD m, ins := true, r := (s.ah rows).1, c := e }
structure FsOk (rows : List (List Nat)) (s : Fs) : Prop where
  hr : s.r ≤ rows.length
  hc : s.c ≤ 1000
  bl : Ind s.bl
  hd : ∀ m ∈ s.due, WOk m.w
inductive FSteps (rows : List (List Nat)) : Fs → List Mk → Fs → Prop
  | nil (s : Fs) : FSteps rows s [] s
  | cons {s s2 s3 : Fs} {m : Mk} {ms : List Mk} : FsOk rows s → FStep rows s m s2 → FSteps rows s2 ms s3 → FSteps rows s (m :: ms) s3
theorem FSteps.snoc {rows : List (List Nat)} {s s2 s3 : Fs} {ms : List Mk} {m : Mk} (h : FSteps rows s ms s2) (ok : FsOk rows s2) (st : FStep rows s2 m s3) : FSteps rows s (ms ++ [m]) s3 := by
  induction h with
  | nil s => exact .cons ok st (.nil _)
  | cons a b _ ih => exact .cons a b (ih ok st)
theorem FSteps.trans {rows : List (List Nat)} {s s2 s3 : Fs} {ms ms2 : List Mk} (h : FSteps rows s ms s2) (h2 : FSteps rows s2 ms2 s3) : FSteps rows s (ms ++ ms2) s3 := by
  induction h with
  | nil s => exact h2
  | cons a b _ ih => exact .cons a b (ih h2)
def Fs0 (rows : List (List Nat)) : Fs := ⟨(margin [0] (nextSpot rows 0 0) rows.length 1).1, 0, false, 0, 0, (margin [0] (nextSpot rows 0 0) rows.length 1).2⟩
end D0
namespace D0
open PySem PySem.Spec PyProof.Rows L2 SX NumText
def spFollows (K : PySem.W.Frag) : Sp := fun vs H Q _ => ∃ (tp ra : Addr) (us : List V) (ms : List Mk) (rows : List (List Nat)) (e : Fs), vs = [.ref tp, .ref ra] ∧ H tp = some (.lst us) ∧ Mks H us ms ∧ RowsAt K H ra rows ∧ rows.length ≤ 10000 ∧ (∀ l ∈ rows, l.length ≤ 120) ∧
  FSteps rows (Fs0 rows) ms e ∧ e.due = [] ∧ (∃ m, ms.getLast? = some m ∧ m.k = .fin) ∧ (∀ m ∈ ms, WOk m.w ∧ (isSg m.k = true → isS m.w = true)) ∧ ∀ H', Same H H' → Q (.bl true) H'
section
variable {P : Program} {w : World} {K : PySem.W.Frag} {mg : Str → Option Value} {base : Heap}
theorem ok__law_follows (T : Txt K w mg) (On : OkD P w K mg base CX0 1 "_law_next_spot" p__law_next_spot (spNext K)) (Om : OkD P w K mg base CX0 1 "_law_margin" p__law_margin spMargin) (Osz : OkD P w K mg base CX0 2 "_law_size" p__law_size spSize) :
    OkD P w K mg base CX0 3 "_law_follows" p__law_follows (spFollows K) := by
  refine T.g__law_follows.ok sc__law_follows (fun vs H Q E h => ?_) (fun f cdv A outer sh H vs Q E hr h => ?_)
  · obtain ⟨tp, ra, us, ms, rows, e, rfl, _⟩ := h; rfl
  obtain ⟨tp, ra, us, ms, rows, eF, rfl, htp, hm, hR, hrl, hrr, hst, hed, hlast, hok, q⟩ := h
  have zk : Str.ofString "newline" = S (Kd.cp .newline) ∧ Str.ofString "sign" = S (Kd.cp .sign) ∧ Str.ofString "end" = S (Kd.cp .fin) ∧ Str.ofString "" = S [] := by decide +kernel
  have zb : Str.ofString "(" = S [40] ∧ Str.ofString ")" = S [41] ∧ Str.ofString "[" = S [91] ∧ Str.ofString "]" = S [93] ∧ Str.ofString "{" = S [123] ∧ Str.ofString "}" = S [125] := by decide +kernel
  have lim : (1000100 : Nat) ≤ sizeLine := by decide
  refine split_at 5 (fun t => ∀ (ba sa da : Addr) (ud : List V) (H1 : Hp), Same H H1 → Blk H1 ba (Fs0 rows).bl → H1 sa = some (.lst [.int (0 : Nat), .int (0 : Nat)]) → H1 da = some (.lst ud) → Mks H1 ud (Fs0 rows).due → H ba = none → ba ≠ sa → ba ≠ da →
    t { nx := fun _ H' => Q .non H', rt := Q } [some (.ref tp), some (.ref ra), some (.ref ba), some (.int 0), some (.bl false), some (.ref sa), some (.ref da), none, none, none] H1) ?_ (fun t ht hg => ?_)
  · obtain ⟨te, hte, hge⟩ : ∃ t, PSs (cxOf CX0 P w K mg base n__law_follows "_law_follows" (defScope s__law_follows) f cdv A outer sh H E).nox (ob (hd1 (ob ((fb ((defBody s__law_follows).getD 5 (.Pass ⟨0, 0, 0, 0⟩))).getD 1 (.Pass ⟨0, 0, 0, 0⟩))))) t ∧
        ∀ (D : Ends) (ba sa da a pa : Addr) (pd : Int) (ins : Bool) (ah : Nat × Nat) (m : Mk) (l : List Nat) (e : Nat) (y3 : Option V) (H5 : Hp), H5 ra = some (.lst (rows.map fun l => V.str (S l))) → H5 pa = some (.lst [.int (ah.1 : Nat), .int (ah.2 : Nat)]) → H5 a = some (.tup m.vs) → rows[ah.1]? = some l → l.length ≤ 120 → ah.2 < l.length → scanTok l ah.2 = .ok (m.k, m.w, e) → m.ln = ah.1 + 1 → m.col = ah.2 + 1 → (isSg m.k = true → isS m.w = true) →
          (∀ p H6, Same H5 H6 → H5 p = none → H6 p = some (.lst [.int (ah.1 : Nat), .int (e : Nat)]) → D.nx [some (.ref tp), some (.ref ra), some (.ref ba), some (.int (pd + brD m)), some (.bl true), some (.ref p), some (.ref da), some (.ref a), some (.ref pa), some (.int ((e : Int) - (ah.2 : Int)))] H6) →
          t D [some (.ref tp), some (.ref ra), some (.ref ba), some (.int pd), some (.bl ins), some (.ref sa), some (.ref da), some (.ref a), some (.ref pa), y3] H5 := by
      refine ⟨_, (pss_cons (ps_if (PW.pt (pw_or (pt_cmpR op_eq (pe_ix ix_list (pv 8) pe_int (fun _ _ => rfl)) (pe_callB call_len_seq (by rfl) T.z_len PySem.boot_len (pa_cons (pv 1) pa_nil)) (nomark _)) (pw_or (pt_cmpR op_ne (pe_ix ix_tup (pv 7) pe_int (fun _ _ => rfl)) (pe_op op_add (pe_ix ix_list (pv 8) pe_int (fun _ _ => rfl)) pe_int) (nomark _)) (pw_or1 (pt_cmpR op_ne (pe_ix ix_tup (pv 7) pe_int (fun _ _ => rfl)) (pe_op op_add (pe_ix ix_list (pv 8) pe_int (fun _ _ => rfl)) pe_int) (nomark _)))))) (pss_one (ps_ret pe_bl)) pss_nil)
      (pss_cons (ps_set (i := 9) sc__law_follows.nd rfl (.inl rfl) (pcall Osz hr (pa_cons (pe_ix ix_list (pv 1) (pe_ix ix_list (pv 8) pe_int (fun _ _ => rfl)) (fun _ _ => rfl)) (pa_cons (pe_ix ix_list (pv 8) pe_int (fun _ _ => rfl)) (pa_cons (pe_ix ix_tup (pv 7) pe_int (fun _ _ => rfl)) (pa_cons (pe_ix ix_tup (pv 7) pe_int (fun _ _ => rfl)) pa_nil))))))
      (pss_cons (ps_if (pt_cmpR op_eq (pv 9) pe_int (nomark _)) (pss_one (ps_ret pe_bl)) pss_nil)
      (pss_cons (ps_if (pt_cmpR op_eq (pe_ix ix_tup (pv 7) pe_int (fun _ _ => rfl)) pe_str (nomark _)) (pss_one (ps_set (i := 3) sc__law_follows.nd rfl (.inl rfl) (pe_op op_sub (pe_op op_add (pv 3) (pe_callTy call_int1 (by rfl) T.z_int PyProof.Rows.boot_int (pa_cons (pe_cmpR op_in_seq (pe_ix ix_tup (pv 7) pe_int (fun _ _ => rfl)) (pe_lst (pa_cons pe_str (pa_cons pe_str (pa_cons pe_str pa_nil)))) (by rfl)) pa_nil))) (pe_callTy call_int1 (by rfl) T.z_int PyProof.Rows.boot_int (pa_cons (pe_cmpR op_in_seq (pe_ix ix_tup (pv 7) pe_int (fun _ _ => rfl)) (pe_lst (pa_cons pe_str (pa_cons pe_str (pa_cons pe_str pa_nil)))) (by rfl)) pa_nil))))) pss_nil)
      (pss_cons (ps_set (i := 4) sc__law_follows.nd rfl (.inl rfl) pe_bl)
      (pss_one (ps_set (i := 5) sc__law_follows.nd rfl (.inl rfl) (pe_lst (pa_cons (pe_ix ix_list (pv 8) pe_int (fun _ _ => rfl)) (pa_cons (pe_op op_add (pe_ix ix_list (pv 8) pe_int (fun _ _ => rfl)) (pv 9)) pa_nil)))))))))), ?_⟩
      intro D ba sa da a pa pd ins ah m l e y3 H5 hra hpA hta hrow hl120 hcl hsc hln hcol hsg hD
      obtain ⟨hrl1, hrow2⟩ := List.getElem?_eq_some_iff.mp hrow
      obtain ⟨ht1, ht2, ht3⟩ := scanTok_ok hcl hsc
      have ht1 : ah.2 + 1 ≤ e := ht1
      have hxa0 : atI ([.int (ah.1 : Nat), .int (ah.2 : Nat)] : List V) (0 : Int) = some (.int (ah.1 : Nat)) := atI_nat (j := 0) rfl
      have hxa1 : atI ([.int (ah.1 : Nat), .int (ah.2 : Nat)] : List V) (1 : Int) = some (.int (ah.2 : Nat)) := atI_nat (j := 1) rfl
      have hxm0 : atI m.vs (0 : Int) = some (.str (S m.k.cp)) := atI_nat (j := 0) rfl
      have hxm1 : atI m.vs (1 : Int) = some m.w.v := atI_nat (j := 1) rfl
      have hxm2 : atI m.vs (2 : Int) = some (.int (m.ln : Nat)) := atI_nat (j := 2) rfl
      have hxm3 : atI m.vs (3 : Int) = some (.int (m.col : Nat)) := atI_nat (j := 3) rfl
      have hrl2 : decide (V.int ((ah.1 : Nat) : Int) = V.int (((rows.map fun l => V.str (S l)).length : Nat) : Int)) = false := by
        rw [int_dec, List.length_map]; exact decide_eq_false (by omega)
      refine ⟨_, rfl, pa, _, 0, _, rfl, rfl, SqL.of hpA, hxa0, _, rfl, ra, _, rfl, .inl (SqL.of hra), rfl, _, rfl, iteF' hrl2 ?_⟩
      refine ⟨_, rfl, a, _, 2, _, rfl, rfl, SqT.of hta, hxm2, _, rfl, pa, _, 0, _, rfl, rfl, SqL.of hpA, hxa0, _, _, rfl, rfl, rfl, _, rfl, iteF' (by show (!decide (V.int ((m.ln : Nat) : Int) = V.int ((ah.1 + 1 : Nat) : Int))) = false; rw [int_dec, decide_eq_true hln]; rfl) ?_⟩
      refine ⟨_, rfl, a, _, 3, _, rfl, rfl, SqT.of hta, hxm3, _, rfl, pa, _, 1, _, rfl, rfl, SqL.of hpA, hxa1, _, _, rfl, rfl, rfl, _, rfl, iteF' (by show (!decide (V.int ((m.col : Nat) : Int) = V.int ((ah.2 + 1 : Nat) : Int))) = false; rw [int_dec, decide_eq_true hcol]; rfl) ?_⟩
      refine ⟨_, rfl, _, rfl, pa, _, 0, _, rfl, rfl, SqL.of hpA, hxa0, ra, _, _, .str (S l), rfl, rfl, SqL.of hra, atI_nat (by rw [List.getElem?_map, hrow]; rfl), ?_⟩
      refine ⟨_, rfl, pa, _, 1, _, rfl, rfl, SqL.of hpA, hxa1, _, rfl, a, _, 0, _, rfl, rfl, SqT.of hta, hxm0, _, rfl, a, _, 1, _, rfl, rfl, SqT.of hta, hxm1, ?_⟩
      refine ⟨l, ah.2, m.k, m.w, e, rfl, hl120, hcl, hsc, fun H6 sm6 => ?_⟩
      have hval : (some (HO.lst [V.int (ah.1 : Int), V.int ((ah.2 : Int) + ((e : Int) - (ah.2 : Int)))]) : Option HO) = some (.lst [.int (ah.1 : Nat), .int (e : Nat)]) := by rw [show (ah.2 : Int) + ((e : Int) - (ah.2 : Int)) = (e : Int) by omega]
      have hta6 := sm6 _ _ hta
      have hpA6 := sm6 _ _ hpA
      refine ⟨_, rfl, rfl, _, rfl, iteF' (by show decide (V.int ((e : Int) - (ah.2 : Int)) = V.int 0) = false; exact decide_eq_false fun z => by have := V.int.inj z; omega) ?_⟩
      refine ⟨_, rfl, a, _, 0, _, rfl, rfl, SqT.of hta6, hxm0, rfl, _, rfl, ?_⟩
      have eSg := sg_dec m.k
      cases hsgk : isSg m.k with
      | false =>
        refine iteF' (eSg.trans hsgk) ?_
        have hb : brD m = 0 := by unfold brD; rw [hsgk]; rfl
        rw [hb, Int.add_zero] at hD
        refine ⟨_, rfl, pa, _, 0, _, rfl, rfl, SqL.of hpA6, hxa0, _, rfl, pa, _, 1, _, rfl, rfl, SqL.of hpA6, hxa1, _, rfl, _, _, rfl, rfl, by show 2 ≤ sizeLine; omega, fun p hp => ?_⟩
        exact hD p _ (sm6.trans (same_new hp _)) (sm6.free hp) (by rw [upd_same]; exact hval)
      | true =>
        refine iteT' (eSg.trans hsgk) ?_
        obtain ⟨lw, hlw⟩ : ∃ lw, m.w = .s lw := by
          have := hsg hsgk
          cases hw : m.w with
          | s l => exact ⟨l, rfl⟩
          | n k => rw [hw] at this; cases this
        have hb : brD m = (if lw ∈ OPN then 1 else 0) - (if lw ∈ CLS then 1 else 0) := by unfold brD; rw [hsgk, if_pos rfl, hlw]; rfl
        rw [hlw] at hxm1
        have hdO : ([.str (Str.ofString "("), .str (Str.ofString "["), .str (Str.ofString "{")] : List V) = OPN.map fun l => V.str (S l) := by rw [zb.1, zb.2.2.1, zb.2.2.2.2.1]; rfl
        have hdC : ([.str (Str.ofString ")"), .str (Str.ofString "]"), .str (Str.ofString "}")] : List V) = CLS.map fun l => V.str (S l) := by rw [zb.2.1, zb.2.2.2.1, zb.2.2.2.2.2]; rfl
        refine ⟨_, rfl, _, rfl, a, _, 1, _, rfl, rfl, SqT.of hta6, hxm1, by show 3 ≤ sizeLine; omega, fun g1 hg1 => ?_⟩
        have s7 := sm6.trans (same_new hg1 (.lst [.str (Str.ofString "("), .str (Str.ofString "["), .str (Str.ofString "{")]))
        refine ⟨g1, OPN.map fun l => V.str (S l), rfl, .inl (SqL.of (by rw [upd_same, ← hdO])), rfl, flat_strs OPN, .inr ⟨_, rfl, _, _, rfl, rfl, ?_⟩⟩
        refine ⟨_, rfl, a, _, 1, _, rfl, rfl, SqT.of (s7 _ _ hta), hxm1, by show 3 ≤ sizeLine; omega, fun g2 hg2 => ?_⟩
        have s8 := s7.trans (same_new hg2 (.lst [.str (Str.ofString ")"), .str (Str.ofString "]"), .str (Str.ofString "}")]))
        refine ⟨g2, CLS.map fun l => V.str (S l), rfl, .inl (SqL.of (by rw [upd_same, ← hdC])), rfl, flat_strs CLS, .inr ⟨_, rfl, _, _, rfl, rfl, ?_⟩⟩
        have hpA8 := s8 _ _ hpA
        refine ⟨_, rfl, pa, _, 0, _, rfl, rfl, SqL.of hpA8, hxa0, _, rfl, pa, _, 1, _, rfl, rfl, SqL.of hpA8, hxa1, _, rfl, _, _, rfl, rfl, by show 2 ≤ sizeLine; omega, fun p hp => ?_⟩
        have eO : (if (if false = true then !inV (V.str (S lw)) (OPN.map fun l => V.str (S l)) else inV (V.str (S lw)) (OPN.map fun l => V.str (S l))) = true then (1 : Int) else 0) = if lw ∈ OPN then 1 else 0 := by
          rw [if_neg Bool.false_ne_true, in_strs]
          by_cases h : lw ∈ OPN
          · rw [if_pos h, decide_eq_true h]; rfl
          · rw [if_neg h, decide_eq_false h]; rfl
        have eC : (if (if false = true then !inV (V.str (S lw)) (CLS.map fun l => V.str (S l)) else inV (V.str (S lw)) (CLS.map fun l => V.str (S l))) = true then (1 : Int) else 0) = if lw ∈ CLS then 1 else 0 := by
          rw [if_neg Bool.false_ne_true, in_strs]
          by_cases h : lw ∈ CLS
          · rw [if_pos h, decide_eq_true h]; rfl
          · rw [if_neg h, decide_eq_false h]; rfl
        have hfin := fun (H9 : Hp) (k1 : Same H5 H9) k2 => hD p H9 k1 (s8.free hp) k2
        rw [hb, show pd + ((if lw ∈ OPN then (1 : Int) else 0) - (if lw ∈ CLS then (1 : Int) else 0)) = pd + (if lw ∈ OPN then (1 : Int) else 0) - (if lw ∈ CLS then (1 : Int) else 0) by omega, ← eO, ← eC] at hfin
        exact hfin _ (s8.trans (same_new hp _)) (by rw [upd_same]; exact hval)
    refine ⟨_, (pss_cons (ps_for PassesOwn.never rfl (pi_list (pv 0)) (pg_name (i := 7) sc__law_follows.nd rfl (Or.inl rfl)) (pss_cons (ps_set (i := 8) sc__law_follows.nd rfl (.inl rfl) (pcall On hr (pa_cons (pv 1) (pa_cons (pv 5) pa_nil))))
      (pss_one (ps_if (pt_cmpR (op_neD hr.units) (pv 6) (pe_lst pa_nil) (nomark _)) (pss_cons (ps_if (pt_cmpR (op_neD hr.units) (pv 7) (pe_ix ix_list (pv 6) pe_int (fun _ _ => rfl)) (nomark _)) (pss_one (ps_ret pe_bl)) pss_nil)
      (pss_one (ps_set (i := 6) sc__law_follows.nd rfl (.inl rfl) (pe_slice sl_list (pv 6) (po_some pe_int) po_none)))) (pss_one (ps_if (PW.pt (pw_and (pt_val (pv 4)) (pw_and (pt_cmpR op_eq (pv 3) pe_int (nomark _)) (pw_and1 (pt_cmpR op_ne (pe_ix ix_list (pv 8) pe_int (fun _ _ => rfl)) (pe_ix ix_list (pv 5) pe_int (fun _ _ => rfl)) (nomark _)))))) (pss_cons (ps_if (pt_cmpR (op_neD hr.units) (pv 7) (pe_tup (pa_cons pe_str (pa_cons pe_str (pa_cons (pe_op op_add (pe_ix ix_list (pv 5) pe_int (fun _ _ => rfl)) pe_int) (pa_cons (pe_op op_add (pe_ix ix_list (pv 5) pe_int (fun _ _ => rfl)) pe_int) pa_nil))))) (nomark _)) (pss_one (ps_ret pe_bl)) pss_nil)
      (pss_cons (ps_set (i := 4) sc__law_follows.nd rfl (.inl rfl) pe_bl)
      (pss_one (ps_set (i := 6) sc__law_follows.nd rfl (.inl rfl) (pcall Om hr (pa_cons (pv 2) (pa_cons (pv 8) (pa_cons (pe_callB call_len_seq (by rfl) T.z_len PySem.boot_len (pa_cons (pv 1) pa_nil)) (pa_cons (pe_op op_add (pe_ix ix_list (pv 5) pe_int (fun _ _ => rfl)) pe_int) pa_nil))))))))) hte))))))
      (pss_one (ps_ret (pe_and (pe_cmpR (op_neD hr.units) (pv 0) (pe_lst pa_nil) (nomark _)) (pe_and (pe_cmpR op_eq (pe_ix ix_tup (pe_ix ix_list (pv 0) (pe_un un_neg pe_int) (fun _ _ => rfl)) pe_int (fun _ _ => rfl)) pe_str (nomark _)) (pe_one (pe_cmpR (op_eqD hr.units) (pv 6) (pe_lst pa_nil) (nomark _)))))))), ?_⟩
    intro ba sa da ud H1 sm hB0 hs0 hd0 hD0 hba nbs nbd
    have hk1 := hR.same sm
    refine ⟨_, rfl, tp, rfl, ⟨_, SqL.of (sm _ _ htp)⟩, for_it (walk_list (xs := us)) (fun j σ H' => ∃ (s : Fs) (sa da : Addr) (ud : List V) (y1 y2 y3 : Option V), σ = [some (.ref tp), some (.ref ra), some (.ref ba), some (.int s.pd), some (.bl s.ins), some (.ref sa), some (.ref da), y1, y2, y3] ∧
        FSteps rows s (ms.drop j) eF ∧ Same H H' ∧ Blk H' ba s.bl ∧ H' sa = some (.lst [.int (s.r : Nat), .int (s.c : Nat)]) ∧ H' da = some (.lst ud) ∧ Mks H' ud s.due ∧ ba ≠ sa ∧ ba ≠ da)
      ⟨Fs0 rows, sa, da, ud, none, none, none, rfl, hst, sm, hB0, hs0, hd0, hD0, nbs, nbd⟩ (fun j σ H' _ h => by obtain ⟨_, _, _, _, _, _, _, _, _, h, _⟩ := h; exact SqL.of (h _ _ htp)) ?_ ?_⟩
    · rintro j x σ H2 H3 hj ⟨s, sa, da, ud, y1, y2, y3, rfl, hS, sm2, hB, hs, hd, hD, nbs, nbd⟩ ⟨rfl, hx⟩
      rw [hm.1] at hj
      have hmj : ms[j]? = some ms[j] := List.getElem?_eq_getElem hj
      have hdr : ms.drop j = ms[j] :: ms.drop (j + 1) := List.drop_eq_getElem_cons hj
      obtain ⟨a, ha, hta0⟩ := hm.2 j _ hmj
      have : x = .ref a := Option.some.inj (hx.symm.trans ha)
      subst this
      have hwo := hok _ (List.getElem_mem hj)
      rw [hdr] at hS
      generalize ms[j] = m at *
      cases hS with
      | cons ok st hS2 =>
      rename_i s2
      have hta := sm2 _ _ hta0
      refine ⟨_, rfl, _, rfl, ra, sa, rows, s.r, s.c, rfl, hR.same sm2, hs, ok.hr, Nat.le_trans ok.hc (by decide), fun H4 pa sm4 hpa hpA => ?_⟩
      have hahe : nextSpot rows s.r s.c = s.ah rows := rfl
      rw [hahe] at hpA
      have hB' : H3 ba = some (.lst (s.bl.reverse.map fun n => V.int (n : Nat))) := hB
      have nba : ba ≠ pa := ne_of_none hB' hpa
      -- due != []
      refine ⟨_, rfl, by show 0 ≤ sizeLine; omega, fun e0 he0 => ?_⟩
      have s5 := sm4.trans (same_new he0 (.lst []))
      have hd5 := s5 _ _ hd
      have hD5 := hD.same s5
      refine ⟨.list (s.due.map dM), .list [], .lst (SqL.of hd5) (dMs_dp hD5), .lst (SqL.of upd_same) .nil, dMs_shaped ok.hd, by decide, _, rfl, ?_⟩
      rw [dMs_nil]
      have smA := sm2.trans s5
      have hpA5 := (same_new he0 (.lst [])) _ _ hpA
      have hs5 := s5 _ _ hs
      have hta5 := s5 _ _ hta
      have hB5 : upd H4 e0 (.lst []) ba = some (.lst (s.bl.reverse.map fun n => V.int (n : Nat))) := s5 _ _ hB'
      have hxs0 : atI ([.int (s.r : Nat), .int (s.c : Nat)] : List V) (0 : Int) = some (.int (s.r : Nat)) := atI_nat (j := 0) rfl
      have hxs1 : atI ([.int (s.r : Nat), .int (s.c : Nat)] : List V) (1 : Int) = some (.int (s.c : Nat)) := atI_nat (j := 1) rfl
      have hxa0 : atI ([.int ((s.ah rows).1 : Nat), .int ((s.ah rows).2 : Nat)] : List V) (0 : Int) = some (.int ((s.ah rows).1 : Nat)) := atI_nat (j := 0) rfl
      have hxa1 : atI ([.int ((s.ah rows).1 : Nat), .int ((s.ah rows).2 : Nat)] : List V) (1 : Int) = some (.int ((s.ah rows).2 : Nat)) := atI_nat (j := 1) rfl
      have hxm0 : atI m.vs (0 : Int) = some (.str (S m.k.cp)) := atI_nat (j := 0) rfl
      have hxm1 : atI m.vs (1 : Int) = some m.w.v := atI_nat (j := 1) rfl
      have hxm2 : atI m.vs (2 : Int) = some (.int (m.ln : Nat)) := atI_nat (j := 2) rfl
      have hxm3 : atI m.vs (3 : Int) = some (.int (m.col : Nat)) := atI_nat (j := 3) rfl
      cases st with
      | due _ d hdue =>
        refine iteT' (by rw [hdue]; rfl) ?_
        obtain ⟨a2, u2, ud', rfl, hta2⟩ : ∃ a2 u2 ud', ud = V.ref a2 :: ud' ∧ H3 a2 = some (.tup m.vs) ∧ u2 = 0 := by
          rw [hdue] at hD
          obtain ⟨a2, e1, e2⟩ := hD.2 0 m rfl
          cases ud with
          | nil => simp at e1
          | cons u r => exact ⟨a2, 0, r, by have : u = .ref a2 := by simpa using e1
                                            rw [this], e2, rfl⟩
        have hta25 := s5 _ _ hta2.1
        refine ⟨_, rfl, _, rfl, da, _, 0, _, rfl, rfl, SqL.of hd5, atI_nat (j := 0) rfl, dM m, dM m, dM_dp hta5, dM_dp hta25, dM_shaped hwo.1, dM_shaped hwo.1, _, rfl, iteF' (by rw [dM_refl hwo.1]; rfl) ?_⟩
        refine ⟨_, rfl, 1, rfl, da, _, rfl, SqL.of hd5, fun p hp => ?_⟩
        have ecut : cutV (V.ref a2 :: ud') (some (1 : Int)) none = ud' := by
          have e : cutV (V.ref a2 :: ud') (some ((1 : Nat) : Int)) none = (V.ref a2 :: ud').drop 1 := by
            unfold cutV
            rw [HT.sIx_nat, HT.sIx_none]
            show ((V.ref a2 :: ud').drop (min 1 (V.ref a2 :: ud').length)).take ((V.ref a2 :: ud').length - min 1 (V.ref a2 :: ud').length) = _
            rw [drop_min, List.take_of_length_le (by rw [List.length_drop]; omega)]
          exact e
        rw [ecut] at *
        have s6 := same_new hp (.lst ud')
        rw [hdue] at hD5
        refine ⟨{ s with due := d }, sa, p, ud', _, _, _, rfl, hS2, smA.trans s6, s6 _ _ hB5, s6 _ _ hs5, upd_same, ?_, nbs, ne_of_none hB5 hp⟩
        have hD6 : Mks (upd H4 e0 (.lst [])) ud' d := ⟨by have := hD5.1; simp only [List.length_cons] at this; omega, fun i x hx => by
          obtain ⟨b, e1, e2⟩ := hD5.2 (i + 1) x (by rw [List.getElem?_cons_succ]; exact hx)
          exact ⟨b, by rw [List.getElem?_cons_succ] at e1; exact e1, e2⟩⟩
        exact hD6.same s6
      | nl hdue hins hpd hne =>
        refine iteF' (by rw [hdue]; rfl) ?_
        refine ⟨_, rfl, _, rfl, iteT' hins ⟨_, rfl, rfl, _, rfl, iteT' (by rw [hpd]; rfl) ?_⟩⟩
        refine ⟨_, rfl, pa, _, 0, _, rfl, rfl, SqL.of hpA5, hxa0, _, rfl, sa, _, 0, _, rfl, rfl, SqL.of hs5, hxs0, rfl, _, rfl, iteT' (by rw [int_dec, decide_eq_false hne]; rfl) ?_⟩
        refine ⟨_, rfl, _, rfl, sa, _, 0, _, rfl, rfl, SqL.of hs5, hxs0, _, _, rfl, rfl, _, rfl, sa, _, 1, _, rfl, rfl, SqL.of hs5, hxs1, _, _, rfl, rfl, by show 4 ≤ sizeLine; omega, fun u hu => ?_⟩
        have eT : ([.str (Str.ofString "newline"), .str (Str.ofString ""), .int ((s.r : Nat) + 1), .int ((s.c : Nat) + 1)] : List V) = Mk.vs ⟨.newline, .s [], s.r + 1, s.c + 1⟩ := by rw [zk.1, zk.2.2.2]; rfl
        have s6 := same_new hu (.tup [.str (Str.ofString "newline"), .str (Str.ofString ""), .int ((s.r : Nat) + 1), .int ((s.c : Nat) + 1)])
        refine ⟨_, _, dM_dp (s6 _ _ hta5), dM_dp (m := ⟨.newline, .s [], s.r + 1, s.c + 1⟩) (by rw [upd_same, eT]), dM_shaped hwo.1, dM_shaped hwo.1, _, rfl, iteF' (by rw [dM_refl hwo.1]; rfl) ?_⟩
        have hpA6 := s6 _ _ hpA5
        have hs6 := s6 _ _ hs5
        have hB6 := s6 _ _ hB5
        refine ⟨_, rfl, _, rfl, _, rfl, ra, _, rfl, .inl (SqL.of (s6 _ _ (smA _ _ hR.at_))), _, rfl, sa, _, 0, _, rfl, rfl, SqL.of hs6, hxs0, _, _, rfl, rfl, ?_⟩
        refine ⟨ba, pa, s.bl, (s.ah rows).1, (s.ah rows).2, rows.length, s.r + 2, by rw [List.length_map]; rfl, hB6, ok.bl, hpA6, nba, fun H7 p us7 hp7 hq7 hM7 hB7 kp7 => ?_⟩
        have nB : ∀ b o, H b = some o → b ≠ ba := fun b o e1 z => by rw [z, hba] at e1; cases e1
        refine ⟨_, sa, p, us7, _, _, _, rfl, hS2, fun b o e1 => kp7 b o (nB b o e1) (s6 _ _ (smA _ _ e1)), hB7, kp7 sa _ (Ne.symm nbs) hs6, hq7, hM7, nbs, ?_⟩
        exact ne_of_none hB6 hp7
      | tok _ l e hdue hnot hrow hcl hsc hln hcol =>
        refine iteF' (by rw [hdue]; rfl) ?_
        have hgo := fun (D : Ends) hD => hge D ba sa da a pa s.pd s.ins (s.ah rows) m l e y3 _ (smA _ _ hR.at_) hpA5 hta5 hrow (hrr l (List.mem_of_getElem? hrow)) hcl hsc hln hcol hwo.2 hD
        have fin : ∀ p H6, Same (upd H4 e0 (.lst [])) H6 → upd H4 e0 (.lst []) p = none → H6 p = some (.lst [.int ((s.ah rows).1 : Nat), .int (e : Nat)]) → ∃ (s' : Fs) (sa' da' : Addr) (ud' : List V) (y1' y2' y3' : Option V), [some (V.ref tp), some (V.ref ra), some (V.ref ba), some (V.int (s.pd + brD m)), some (V.bl true), some (V.ref p), some (V.ref da), some (V.ref a), some (V.ref pa), some (V.int ((e : Int) - ((s.ah rows).2 : Int)))] = [some (.ref tp), some (.ref ra), some (.ref ba), some (.int s'.pd), some (.bl s'.ins), some (.ref sa'), some (.ref da'), y1', y2', y3'] ∧
            FSteps rows s' (ms.drop (j + 1)) eF ∧ Same H H6 ∧ Blk H6 ba s'.bl ∧ H6 sa' = some (.lst [.int (s'.r : Nat), .int (s'.c : Nat)]) ∧ H6 da' = some (.lst ud') ∧ Mks H6 ud' s'.due ∧ ba ≠ sa' ∧ ba ≠ da' := fun p H6 s6 hp hpp =>
          ⟨{ s with pd := s.pd + brD m, ins := true, r := (s.ah rows).1, c := e }, p, da, ud, _, _, _, rfl, hS2, smA.trans s6, s6 _ _ hB5, hpp, s6 _ _ hd5, hD5.same s6, ne_of_none hB5 hp, nbd⟩
        refine ⟨_, rfl, _, rfl, ?_⟩
        cases hins : s.ins with
        | false => rw [hins] at hgo; exact iteF' rfl (hgo _ fin)
        | true =>
          rw [hins] at hgo
          refine iteT' rfl ⟨_, rfl, rfl, _, rfl, iteD (b := decide (V.int s.pd = V.int 0)) (fun c0 => ?_) (fun c0 => hgo _ fin)⟩
          have c0 := V.int.inj (of_decide_eq_true c0)
          have he : (s.ah rows).1 = s.r := Classical.byContradiction fun z => hnot ⟨hins, c0, z⟩
          refine ⟨_, rfl, pa, _, 0, _, rfl, rfl, SqL.of hpA5, hxa0, _, rfl, sa, _, 0, _, rfl, rfl, SqL.of hs5, hxs0, rfl, _, rfl, iteF' (by rw [int_dec, decide_eq_true he]; rfl) (hgo _ fin)⟩
    · rintro σ H2 ⟨s, sa, da, ud, y1, y2, y3, rfl, hS, sm2, hB, hs, hd, hD, nbs, nbd⟩
      rw [hm.1, List.drop_length] at hS
      cases hS with
      | nil =>
      have htp2 := sm2 _ _ htp
      obtain ⟨mL, hmL, hfin⟩ := hlast
      have hne : ms ≠ [] := fun z => by rw [z] at hmL; cases hmL
      refine ⟨_, rfl, by show 0 ≤ sizeLine; omega, fun e0 he0 => ?_⟩
      have s5 := same_new he0 (.lst [])
      refine ⟨.list (ms.map dM), .list [], .lst (SqL.of (s5 _ _ htp2)) (dMs_dp ((hm.same sm2).same s5)), .lst (SqL.of upd_same) .nil, dMs_shaped (fun m hm => (hok m hm).1), by decide, _, rfl, iteT' (by rw [dMs_nil, decide_eq_false hne]; rfl) ?_⟩
      obtain ⟨aL, e1, e2⟩ := Mks.last hm hmL
      have hT : SqT K (upd H2 e0 (.lst [])) aL mL.vs := SqT.of (s5 _ _ (sm2 _ _ e2))
      refine ⟨_, rfl, 1, rfl, tp, _, -1, _, rfl, rfl, SqL.of (s5 _ _ htp2), e1, aL, _, 0, _, rfl, rfl, hT, atI_nat (j := 0) rfl, rfl, _, rfl, iteT' (by rw [hfin, zk.2.2.1]; exact decide_eq_true rfl) ?_⟩
      refine ⟨_, rfl, by show 0 ≤ sizeLine; omega, fun e3 he3 => ?_⟩
      have s6 := same_new he3 (.lst [])
      rw [hed] at hD
      refine ⟨.list (([] : List Mk).map dM), .list [], .lst (SqL.of (s6 _ _ (s5 _ _ hd))) (dMs_dp ((hD.same s5).same s6)), .lst (SqL.of upd_same) .nil, dMs_shaped (fun m hm => by cases hm), by decide, ?_⟩
      exact q _ ((sm2.trans s5).trans s6)
  · refine ⟨_, pss_cons (ps_set (i := 2) sc__law_follows.nd rfl (.inl rfl) (pe_lst (pa_cons pe_int pa_nil))) (pss_cons (ps_set (i := 3) sc__law_follows.nd rfl (.inl rfl) pe_int) (pss_cons (ps_set (i := 4) sc__law_follows.nd rfl (.inl rfl) pe_bl) (pss_cons (ps_set (i := 5) sc__law_follows.nd rfl (.inl rfl) (pe_lst (pa_cons pe_int (pa_cons pe_int pa_nil)))) (pss_cons (ps_set (i := 6) sc__law_follows.nd rfl (.inl rfl) (pcall Om hr (pa_cons (pv 2) (pa_cons (pcall On hr (pa_cons (pv 1) (pa_cons (pv 5) pa_nil))) (pa_cons (pe_callB call_len_seq (by rfl) T.z_len PySem.boot_len (pa_cons (pv 1) pa_nil)) (pa_cons pe_int pa_nil)))))) ht)))), ?_⟩
    refine ⟨by show 1 ≤ sizeLine; omega, fun ba hba => ⟨by show 2 ≤ sizeLine; omega, fun sa hsa => ?_⟩⟩
    have s1 := same_new hba (.lst [V.int 0])
    have s2 := same_new hsa (.lst [V.int 0, V.int 0])
    have nbs : ba ≠ sa := ne_of_none upd_same hsa
    refine ⟨_, rfl, _, rfl, _, rfl, ra, sa, rows, 0, 0, rfl, (hR.same s1).same s2, upd_same, Nat.zero_le _, Nat.zero_le _, fun H4 pa sm4 hpa hpA => ?_⟩
    have sA := (s1.trans s2).trans sm4
    have hB4 : H4 ba = some (.lst (([0] : List Nat).reverse.map fun n => V.int (n : Nat))) := sm4 _ _ (s2 _ _ upd_same)
    have hs4 := sm4 _ _ (upd_same (H := upd H ba (.lst [V.int 0])) (a := sa) (o := .lst [V.int 0, V.int 0]))
    refine ⟨_, rfl, ra, _, rfl, .inl (SqL.of (sA _ _ hR.at_)), ?_⟩
    have nba : ba ≠ pa := ne_of_none (s2 _ _ upd_same) hpa
    refine ⟨ba, pa, [0], (nextSpot rows 0 0).1, (nextSpot rows 0 0).2, rows.length, 1, by rw [List.length_map]; rfl, hB4, ⟨rfl, by show 1 ≤ 12; decide⟩, hpA, nba, fun H5 p us5 hp hq hM hB kp => ?_⟩
    have nB : ∀ b o, H b = some o → b ≠ ba := fun b o e1 z => by rw [z, hba] at e1; cases e1
    exact hg ba sa p us5 H5 (fun b o e => kp b o (nB b o e) (sA _ _ e)) hB (kp sa _ (Ne.symm nbs) hs4) hq hM hba nbs (ne_of_none hB4 hp)
end
end D0
namespace D0
open PySem PySem.Spec PyProof.Rows L2 SX NumText
theorem here_false {l : List Nat} {i : Nat} (h : ¬ i < l.length) : here l i = false := by unfold here; rw [decide_eq_false h]; rfl
theorem here_at {l : List Nat} {i c : Nat} (h : l[i]? = some c) : here l i = !decide (c = 35) := by
  obtain ⟨hi, e⟩ := List.getElem?_eq_some_iff.mp h
  unfold here
  rw [decide_eq_true hi, Bool.true_and, List.drop_eq_getElem_cons hi, e]; rfl
theorem spotIn_twl {l : List Nat} : ∀ (n i : Nat), l.length - i = n → spotIn l i = if here l (twl spc l i) = true then some (twl spc l i) else none
  | n, i, hn => by
    by_cases hi : i < l.length
    · have g : l[i]? = some l[i] := List.getElem?_eq_getElem hi
      rw [spotIn_step g]
      by_cases c35 : l[i] = 35
      · rw [if_pos c35, twl_stop (f := spc) g (by rw [c35]; rfl), here_at g, c35]; rfl
      by_cases c32 : l[i] = 32
      · rw [if_neg c35, if_pos c32, twl_step (f := spc) g (by rw [c32]; rfl)]
        match n, hn with
        | 0, hn => omega
        | n + 1, hn => exact spotIn_twl n (i + 1) (by omega)
      · rw [if_neg c35, if_neg c32, twl_stop (f := spc) g (by unfold spc; exact beq_eq_false_iff_ne.mpr c32), here_at g, decide_eq_false c35]; rfl
    · rw [spotIn_end (by omega)]
      have : here l (twl spc l i) = false := here_false (by have := twl_ge (f := spc) l i; omega)
      rw [this]; rfl
theorem spotIn_eq (l : List Nat) (i : Nat) : spotIn l i = if here l (twl spc l i) = true then some (twl spc l i) else none := spotIn_twl _ i rfl
theorem twl_idem (l : List Nat) (i : Nat) (h : i ≤ l.length) : twl spc l (twl spc l i) = twl spc l i := by
  by_cases c : twl spc l i < l.length
  · have := twl_at (f := spc) c
    exact twl_stop (getD_get c) this
  · have hle := twl_le (f := spc) h
    have : twl spc l i = l.length := by omega
    rw [this]; exact twl_end
theorem next_same {rows : List (List Nat)} {r c c2 : Nat} {l : List Nat} (h : rows[r]? = some l) (e : spotIn l c = spotIn l c2) : nextSpot rows r c = nextSpot rows r c2 := by
  obtain ⟨hr, e1⟩ := List.getElem?_eq_some_iff.mp h
  unfold nextSpot
  rw [List.drop_eq_getElem_cons hr, e1]
  show (match spotIn l c with | some a => (r, a) | none => nextFrom (rows.drop (r + 1)) (r + 1) 0) = (match spotIn l c2 with | some a => (r, a) | none => nextFrom (rows.drop (r + 1)) (r + 1) 0)
  rw [e]
theorem next_here {rows : List (List Nat)} {r at_ : Nat} {l : List Nat} (h : rows[r]? = some l) (hh : here l at_ = true) (hs : twl spc l at_ = at_) : nextSpot rows r at_ = (r, at_) := by
  obtain ⟨hr, e1⟩ := List.getElem?_eq_some_iff.mp h
  unfold nextSpot
  rw [List.drop_eq_getElem_cons hr, e1]
  show (match spotIn l at_ with | some a => (r, a) | none => nextFrom (rows.drop (r + 1)) (r + 1) 0) = _
  rw [spotIn_eq, hs, hh]; rfl
theorem next_end {rows : List (List Nat)} {r at_ : Nat} {l : List Nat} (h : rows[r]? = some l) (hh : here l at_ = false) (hs : twl spc l at_ = at_) : nextSpot rows r at_ = nextSpot rows (r + 1) 0 := by
  obtain ⟨hr, e1⟩ := List.getElem?_eq_some_iff.mp h
  unfold nextSpot
  rw [List.drop_eq_getElem_cons hr, e1]
  show (match spotIn l at_ with | some a => (r, a) | none => nextFrom (rows.drop (r + 1)) (r + 1) 0) = _
  rw [spotIn_eq, hs, hh]; rfl
theorem nextFrom_ge : ∀ (rs : List (List Nat)) (r c : Nat), r ≤ (nextFrom rs r c).1
  | [], r, c => Nat.le_refl _
  | l :: rest, r, c => by
    unfold nextFrom
    split
    · exact Nat.le_refl _
    · exact Nat.le_trans (Nat.le_succ r) (nextFrom_ge rest (r + 1) 0)
theorem FSteps.dues {rows : List (List Nat)} : ∀ (d : List Mk) (st : Fs), FsOk rows st → st.due = d → FSteps rows st d { st with due := [] }
  | [], st, _, h => by
    have : ({ st with due := [] } : Fs) = st := by cases st; simp_all
    rw [this]; exact .nil _
  | m :: d, st, ok, h => by
    refine .cons ok (.due st m d h) ?_
    exact FSteps.dues d { st with due := d } ⟨ok.hr, ok.hc, ok.bl, fun x hx => ok.hd x (by rw [h]; exact List.mem_cons_of_mem _ hx)⟩ rfl
theorem margin_row {st : List Nat} {r c many b : Nat} (h : r ≠ many) (b2 : Nat) : margin st (r, c) many b = margin st (r, c) many b2 := by
  unfold margin
  rw [if_neg (show ¬ (r, c).1 = many from h), if_neg (show ¬ (r, c).1 = many from h)]
theorem begin_due {s s1 : Sc} {r at_ many b : Nat} (h : beginLine (r + 1) (at_ + 1) s = .ok s1) (hr : r ≠ many) : s1.marks = s.marks ++ (margin s.ind (r, at_) many b).2 ∧ s1.ind = (margin s.ind (r, at_) many b).1 ∧ s1.br = s.br ∧ s1.many = s.many := by
  unfold beginLine at h
  unfold margin
  rw [if_neg (show ¬ (r, at_).1 = many from hr)]
  split at h
  · cases h
  rw [Nat.add_sub_cancel] at h
  by_cases c : s.ind.headD 0 < at_
  · rw [if_pos c] at h
    rw [if_pos (show s.ind.headD 0 < (r, at_).2 from c)]
    split at h
    · cases h
    unfold finish at h
    have e : popW at_ (at_ :: s.ind) = at_ :: s.ind := by show (if at_ < at_ then _ else _) = _; rw [if_neg (Nat.lt_irrefl _)]
    dsimp only at h
    rw [e] at h
    rw [if_neg (show ¬ (at_ :: s.ind).headD 0 < at_ from Nat.lt_irrefl _)] at h
    cases h
    refine ⟨?_, rfl, rfl, rfl⟩
    show (s.marks ++ [_]) ++ List.replicate ((at_ :: s.ind).length - (at_ :: s.ind).length) _ = _
    rw [Nat.sub_self]; simp; rfl
  · rw [if_neg c] at h
    rw [if_neg (show ¬ s.ind.headD 0 < (r, at_).2 from c)]
    unfold finish at h
    split at h
    · cases h
    cases h
    exact ⟨rfl, rfl, rfl, rfl⟩
theorem cloV_in (l : List Nat) : (cloV l).isSome = decide (l ∈ CLS) := by
  unfold cloV CLS
  split
  · rfl
  · rfl
  · rfl
  · rename_i h1 h2 h3
    have : l ∉ ([[41], [93], [125]] : List (List Nat)) := fun h => by
      simp at h
      rcases h with h | h | h
      · exact h1 h
      · exact h2 h
      · exact h3 h
    rw [decide_eq_false this]; rfl
theorem opn_cls {l : List Nat} (h : l ∈ OPN) : l ∉ CLS := by
  have : ∀ x ∈ OPN, x ∉ CLS := by decide
  exact this l h
theorem gather_br {m : Mk} {s s2 : Sc} (h : gatherP m s = .ok s2) : s2.marks = s.marks ++ [m] ∧ s2.ind = s.ind ∧ s2.many = s.many + 1 ∧ s2.behind = s.behind ∧ (s2.br.length : Int) = (s.br.length : Int) + brD m := by
  unfold gatherP at h
  split at h
  · cases h
  by_cases hs : isSg m.k = true
  · rw [if_pos hs] at h
    unfold brD
    rw [if_pos hs]
    unfold matchBr at h
    by_cases ho : wl m.w ∈ OPN
    · rw [if_pos ho] at h
      cases h
      rw [if_pos ho, if_neg (opn_cls ho)]
      refine ⟨rfl, rfl, rfl, rfl, ?_⟩
      show ((m :: s.br).length : Int) = _
      rw [List.length_cons]; omega
    · rw [if_neg ho] at h
      rw [if_neg ho]
      have hc := cloV_in (wl m.w)
      cases hx : cloV (wl m.w) with
      | none =>
        rw [hx] at h hc
        cases h
        rw [if_neg (of_decide_eq_false hc.symm)]
        refine ⟨rfl, rfl, rfl, rfl, ?_⟩
        show (s.br.length : Int) = _; omega
      | some o =>
        rw [hx] at h hc
        rw [if_pos (of_decide_eq_true hc.symm)]
        cases hb : s.br with
        | nil =>
          dsimp only at h
          rw [hb] at h
          cases h
        | cons b r =>
          dsimp only at h
          rw [hb] at h
          dsimp only at h
          split at h
          · cases h
            refine ⟨rfl, rfl, rfl, rfl, ?_⟩
            show (r.length : Int) = _
            rw [List.length_cons]; omega
          · cases h
  · rw [if_neg hs] at h
    unfold brD
    rw [if_neg hs]
    cases h
    exact ⟨rfl, rfl, rfl, rfl, by show (s.br.length : Int) = _; omega⟩
end D0
namespace D0
open PySem PySem.Spec PyProof.Rows L2 SX NumText
def GoodM (m : Mk) : Prop := MkOk m ∧ WOk m.w ∧ (isSg m.k = true → isS m.w = true)
theorem good_s {k : Kd} {l : List Nat} {ln col : Nat} (hk : isN k = false) (hl : ∀ c ∈ l, c < 1114112) : GoodM ⟨k, .s l, ln, col⟩ :=
  ⟨⟨(fun h => by rw [hk] at h; cases h), fun _ => ⟨l, rfl⟩⟩, hl, fun _ => rfl⟩
theorem nilOk : ∀ c ∈ ([] : List Nat), c < 1114112 := fun c h => by cases h
theorem scanT_chars {q st : Nat} : ∀ {r : List Nat} {b : Bool} {k : Nat} {acc : List Nat} {kd : Kd} {w : List Nat} {e : Nat}, scanT q st b r k acc = .ok (kd, .s w, e) → (∀ c ∈ r, c < 1114112) → (∀ c ∈ acc, c < 1114112) → ∀ c ∈ w, c < 1114112
  | [], b, k, acc, kd, w, e, h, _, _ => by unfold scanT at h; cases b <;> cases h
  | c :: r, true, k, acc, kd, w, e, h, hr, ha => by
    unfold scanT at h
    cases hx : escV [c] with
    | none => rw [hx] at h; cases h
    | some m =>
      rw [hx] at h
      obtain ⟨d, rfl⟩ := escV_one hx
      refine scanT_chars (r := r) (b := false) h (fun x hx => hr x (List.mem_cons_of_mem _ hx)) (fun x hx2 => ?_)
      rcases List.mem_append.mp hx2 with h1 | h1
      · exact ha x h1
      · rw [List.mem_singleton.mp h1]
        rcases escV_cases hx with ⟨_, h2⟩ | ⟨_, h2, h3⟩
        · omega
        · omega
  | c :: r, false, k, acc, kd, w, e, h, hr, ha => by
    unfold scanT at h
    split at h
    · cases h; exact ha
    split at h
    · exact scanT_chars (r := r) h (fun x hx => hr x (List.mem_cons_of_mem _ hx)) ha
    · refine scanT_chars (r := r) h (fun x hx => hr x (List.mem_cons_of_mem _ hx)) (fun x hx2 => ?_)
      rcases List.mem_append.mp hx2 with h1 | h1
      · exact ha x h1
      · rw [List.mem_singleton.mp h1]; exact hr c List.mem_cons_self
theorem tok_good {l : List Nat} {i e ln col : Nat} {k : Kd} {w : Wd} (hi : i < l.length) (h : scanTok l i = .ok (k, w, e)) (hc : ∀ c ∈ l, c < 1114112) : GoodM ⟨k, w, ln, col⟩ := by
  have hsub : ∀ j, ∀ c ∈ word l i j, c < 1114112 := fun j c hx => hc c (List.mem_of_mem_drop (List.mem_of_mem_take hx))
  rcases tok_cases hi h with ⟨hk, hq, hst⟩ | ⟨sp, hT⟩
  · subst hk
    unfold scanText at hst
    obtain ⟨w2, e2, h1, h2⟩ := scanT_pre hst
    cases h1
    exact good_s rfl (scanT_chars hst (fun c hx => hc c (List.mem_of_mem_drop hx)) nilOk)
  · cases hT with
    | nm _ h1 h2 => exact good_s (by rw [h2]; split <;> rfl) (hsub _)
    | num h1 h2 => exact ⟨⟨fun _ => ⟨_, rfl, (num_sp hi h1 h2).2⟩, fun h => by cases h⟩, trivial, fun h => by cases h⟩
    | sg _ h1 =>
      refine good_s rfl ?_
      have hm := List.mem_of_find?_eq_some h1
      have : ∀ s ∈ SG, ∀ c ∈ s, c < 1114112 := by decide
      exact this _ hm
theorem margin_good {st : List Nat} {sp : Nat × Nat} {many b : Nat} : ∀ m ∈ (margin st sp many b).2, GoodM m := by
  intro m hm
  unfold margin at hm
  split at hm
  · rcases List.mem_append.mp hm with h | h
    · rw [List.eq_of_mem_replicate h]; exact good_s rfl nilOk
    · rw [List.mem_singleton.mp h]; exact good_s rfl nilOk
  split at hm
  · rw [List.mem_singleton.mp hm]; exact good_s rfl nilOk
  · rw [List.eq_of_mem_replicate hm]; exact good_s rfl nilOk
theorem margin_ind {st : List Nat} {sp : Nat × Nat} {many b : Nat} (h : Ind st) (hl : st.length ≤ 11) : Ind (margin st sp many b).1 := by
  unfold margin
  split
  · exact h
  split
  · obtain ⟨t0, r0, e0⟩ : ∃ t0 r0, st = t0 :: r0 := by
      cases h2 : st with
      | nil => exact absurd h2 h.ne
      | cons a b => exact ⟨a, b, rfl⟩
    exact ⟨by rw [e0, List.getLast?_cons_cons, ← e0]; exact h.1, by simp only [List.length_cons]; omega⟩
  · exact h.pop
/-- the scanner at (r, at) and the reading agree -/
structure Lk (rows : List (List Nat)) (r at_ : Nat) (s : Sc) (st : Fs) : Prop where
  ok : FsOk rows st
  ah : nextSpot rows st.r st.c = nextSpot rows r at_
  pd : st.pd = (s.br.length : Int)
  idle : s.many = 0 → st.ins = false ∧ st.bl = (margin s.ind (nextSpot rows r at_) rows.length (lastLn s)).1 ∧ st.due = (margin s.ind (nextSpot rows r at_) rows.length (lastLn s)).2
  busy : 0 < s.many → st.ins = true ∧ st.due = [] ∧ st.bl = s.ind ∧ s.behind = st.c + 1 ∧ (st.r = r ∨ s.br ≠ []) ∧ st.r ≤ r
theorem lk_step {rows : List (List Nat)} {r at_ nxt : Nat} {l : List Nat} {s s2 : Sc} {st : Fs} (hrow : rows[r]? = some l) (hl : l.length ≤ 120) (hch : ∀ c ∈ l, c < 1114112) (hh : here l at_ = true) (hsp : twl spc l at_ = at_) (hs : SI s) (L : Lk rows r at_ s st) (h : stepR l (r + 1) at_ s = .ok (nxt, s2)) :
    ∃ ms st2, FSteps rows st ms st2 ∧ s2.marks = s.marks ++ ms ∧ Lk rows r nxt s2 st2 ∧ (∀ m ∈ ms, GoodM m) ∧ twl spc l nxt = nxt ∧ nxt ≤ l.length := by
  have hat : at_ < l.length := by
    unfold here at hh
    rw [Bool.and_eq_true] at hh
    exact of_decide_eq_true hh.1
  obtain ⟨hrl, hrow2⟩ := List.getElem?_eq_some_iff.mp hrow
  have hnh := next_here hrow hh hsp
  unfold stepR at h
  cases hb : beg (r + 1) at_ s with
  | error e => rw [hb] at h; cases h
  | ok s1 =>
  rw [hb] at h
  have h : tokS l (r + 1) at_ s1 = .ok (nxt, s2) := h
  -- the marks ahead
  obtain ⟨d, st1, hd1, hd2, hd3, hd4, hok1, hah1, hpd1, hdue1, hbl1, hnot⟩ : ∃ d st1, FSteps rows st d st1 ∧ s1.marks = s.marks ++ d ∧ (∀ m ∈ d, GoodM m) ∧ (s1.br = s.br ∧ SI s1) ∧ FsOk rows st1 ∧ nextSpot rows st1.r st1.c = (r, at_) ∧ st1.pd = (s.br.length : Int) ∧ st1.due = [] ∧ st1.bl = s1.ind ∧ ¬ (st1.ins = true ∧ st1.pd = 0 ∧ (nextSpot rows st1.r st1.c).1 ≠ st1.r) := by
    unfold beg at hb
    split at hb
    · rename_i hm0
      obtain ⟨i1, i2, i3⟩ := L.idle hm0
      rw [hnh] at i2 i3
      have hb' := begin_due (many := rows.length) (b := lastLn s) hb (by omega)
      have hbo := begin_ok hb hs
      refine ⟨_, _, FSteps.dues st.due st L.ok rfl, by rw [hb'.1, i3], (fun m hm => by rw [i3] at hm; exact margin_good m hm), ⟨hb'.2.2.1, hbo.1⟩, ⟨L.ok.hr, L.ok.hc, L.ok.bl, (fun m hm => by cases hm)⟩, ?_, L.pd, rfl, ?_, ?_⟩
      · show nextSpot rows st.r st.c = _; rw [L.ah, hnh]
      · show st.bl = _; rw [i2, hb'.2.1]
      · rintro ⟨z, _⟩
        have z : st.ins = true := z
        rw [i1] at z; cases z
    · rename_i hm0
      cases hb
      obtain ⟨b1, b2, b3, b4, b5, b6⟩ := L.busy (by omega)
      refine ⟨[], st, .nil _, by rw [List.append_nil], (fun m hm => by cases hm), ⟨rfl, hs⟩, L.ok, by rw [L.ah, hnh], L.pd, b2, b3, ?_⟩
      rintro ⟨_, z2, z3⟩
      rw [L.ah, hnh] at z3
      rcases b5 with b5 | b5
      · exact z3 b5.symm
      · rw [L.pd] at z2
        exact b5 (List.eq_nil_of_length_eq_zero (by omega))
  unfold tokS at h
  cases ht : scanTok l at_ with
  | error c => rw [ht] at h; cases h
  | ok t =>
  rw [ht] at h
  have h : (gatherP ⟨t.1, t.2.1, r + 1, at_ + 1⟩ s1).map (fun s2 => (twl spc l t.2.2, { s2 with behind := t.2.2 + 1 })) = .ok (nxt, s2) := h
  cases hg : gatherP ⟨t.1, t.2.1, r + 1, at_ + 1⟩ s1 with
  | error e => rw [hg] at h; cases h
  | ok s3 =>
  rw [hg] at h
  cases h
  obtain ⟨g1, g2, g3, g4, g5⟩ := gather_br hg
  obtain ⟨t1, t2, t3⟩ := scanTok_ok hat ht
  have hgood : GoodM ⟨t.1, t.2.1, r + 1, at_ + 1⟩ := tok_good hat ht hch
  have hstep : FStep rows st1 ⟨t.1, t.2.1, r + 1, at_ + 1⟩ { st1 with pd := st1.pd + brD ⟨t.1, t.2.1, r + 1, at_ + 1⟩, ins := true, r := (st1.ah rows).1, c := t.2.2 } := by
    have e : st1.ah rows = (r, at_) := hah1
    refine .tok st1 _ l t.2.2 hdue1 hnot (by rw [e]; exact hrow) (by rw [e]; exact hat) (by rw [e]; exact ht) (by rw [e]) (by rw [e])
  have e : st1.ah rows = (r, at_) := hah1
  rw [e] at hstep
  have htl := twl_le (f := spc) t2
  refine ⟨d ++ [⟨t.1, t.2.1, r + 1, at_ + 1⟩], _, hd1.snoc hok1 hstep, ?_, ⟨⟨by show r ≤ _; omega, by show t.2.2 ≤ _; omega, by show Ind st1.bl; rw [hbl1]; exact hd4.2.ind, fun m hm => by
      have hm : m ∈ st1.due := hm
      rw [hdue1] at hm; cases hm⟩, ?_, ?_, ?_, ?_⟩, ?_, twl_idem l _ t2, htl⟩
  · show s3.marks = _
    rw [g1, hd2, List.append_assoc]
  · show nextSpot rows r t.2.2 = nextSpot rows r (twl spc l t.2.2)
    refine next_same hrow ?_
    rw [spotIn_eq l t.2.2, spotIn_eq l (twl spc l t.2.2), twl_idem l _ t2]
  · show st1.pd + _ = (s3.br.length : Int)
    rw [g5, hpd1, hd4.1]
  · intro hz
    have hz : s3.many = 0 := hz
    omega
  · intro _
    exact ⟨rfl, hdue1, by show st1.bl = s3.ind; rw [hbl1, g2], rfl, .inl rfl, Nat.le_refl _⟩
  · intro m hm
    rcases List.mem_append.mp hm with h1 | h1
    · exact hd3 m h1
    · rw [List.mem_singleton.mp h1]; exact hgood
theorem lk_run {rows : List (List Nat)} {r : Nat} {l : List Nat} (hrow : rows[r]? = some l) (hl : l.length ≤ 120) (hch : ∀ c ∈ l, c < 1114112) : ∀ {f at_ : Nat} {s s2 : Sc} {st : Fs}, twl spc l at_ = at_ → at_ ≤ l.length → l.length < at_ + f → SI s → Lk rows r at_ s st → runRow l (r + 1) f at_ s = .ok s2 →
    ∃ ms st2 at2, FSteps rows st ms st2 ∧ s2.marks = s.marks ++ ms ∧ Lk rows r at2 s2 st2 ∧ (∀ m ∈ ms, GoodM m) ∧ here l at2 = false ∧ twl spc l at2 = at2 ∧ SI s2
  | 0, at_, s, s2, st, hsp, hle, hf, hs, L, h => by omega
  | f + 1, at_, s, s2, st, hsp, hle, hf, hs, L, h => by
    unfold runRow at h
    by_cases hh : here l at_ = true
    · rw [if_pos hh] at h
      have hat : at_ < l.length := by
        unfold here at hh
        rw [Bool.and_eq_true] at hh
        exact of_decide_eq_true hh.1
      cases hst : stepR l (r + 1) at_ s with
      | error e => rw [hst] at h; cases h
      | ok x =>
        rw [hst] at h
        have h : runRow l (r + 1) f x.1 x.2 = .ok s2 := h
        obtain ⟨ms, st1, a1, a2, a3, a4, a5, a6⟩ := lk_step hrow hl hch hh hsp hs L hst
        have hsi : SI x.2 ∧ at_ + 1 ≤ x.1 := by
          unfold stepR at hst
          cases hb : beg (r + 1) at_ s with
          | error e => rw [hb] at hst; cases hst
          | ok s1 =>
            rw [hb] at hst
            have hst : tokS l (r + 1) at_ s1 = .ok x := hst
            have h1 : SI s1 := by
              unfold beg at hb
              split at hb
              · exact (begin_ok hb hs).1
              · cases hb; exact hs
            obtain ⟨g1, g2, g3, g4⟩ := tokS_ok hat h1 hst
            exact ⟨g3, g1⟩
        obtain ⟨ms2, st2, at2, b1, b2, b3, b4, b5, b6, b7⟩ := lk_run hrow hl hch (f := f) a5 a6 (by omega) hsi.1 a3 h
        refine ⟨ms ++ ms2, st2, at2, a1.trans b1, by rw [b2, a2, List.append_assoc], b3, fun m hm => ?_, b5, b6, b7⟩
        rcases List.mem_append.mp hm with h1 | h1
        · exact a4 m h1
        · exact b4 m h1
    · rw [if_neg hh] at h
      cases h
      exact ⟨[], st, at_, .nil _, by rw [List.append_nil], L, (fun m hm => by cases hm), Bool.eq_false_iff.mpr hh, hsp, hs⟩
end D0
namespace D0
open PySem PySem.Spec PyProof.Rows L2 SX NumText
theorem lk_row {rows : List (List Nat)} {r : Nat} {l : List Nat} {s s2 : Sc} {st : Fs} (hrow : rows[r]? = some l) (hl : l.length ≤ 120) (hch : ∀ c ∈ l, c < 1114112) (hs : SI s) (L : Lk rows r 0 s st) (hbr : 0 < s.many → s.br ≠ []) (h : scanRow l (r + 1) s = .ok s2) :
    ∃ ms st2, FSteps rows st ms st2 ∧ s2.marks = s.marks ++ ms ∧ Lk rows (r + 1) 0 s2 st2 ∧ (∀ m ∈ ms, GoodM m) ∧ SI s2 ∧ (0 < s2.many → s2.br ≠ []) := by
  have hsi2 := (scanRow_ok h hs hl).1
  unfold scanRow at h
  cases hr : runRow l (r + 1) (l.length + 1) (twl spc l 0) s with
  | error e => rw [hr] at h; cases h
  | ok s1 =>
  rw [hr] at h
  have h := Except.ok.inj h
  have h : fin (r + 1) s1 = s2 := h
  have L0 : Lk rows r (twl spc l 0) s st := by
    have e : nextSpot rows r 0 = nextSpot rows r (twl spc l 0) := next_same hrow (by rw [spotIn_eq l 0, spotIn_eq l (twl spc l 0), twl_idem l 0 (Nat.zero_le _)])
    exact ⟨L.ok, L.ah.trans e, L.pd, (fun hm => by rw [← e]; exact L.idle hm), L.busy⟩
  obtain ⟨ms, st1, at2, a1, a2, a3, a4, a5, a6, a7⟩ := lk_run hrow hl hch (twl_idem l 0 (Nat.zero_le _)) (twl_le (Nat.zero_le _)) (by omega) hs L0 hr
  have hne := next_end hrow a5 a6
  obtain ⟨hrl, _⟩ := List.getElem?_eq_some_iff.mp hrow
  unfold fin at h
  by_cases c : 0 < s1.many ∧ s1.br = []
  · rw [if_pos c] at h
    subst h
    obtain ⟨b1, b2, b3, b4, b5, b6⟩ := a3.busy c.1
    have hstr : st1.r = r := by
      rcases b5 with h | h
      · exact h
      · exact absurd c.2 h
    have hpd : st1.pd = 0 := by rw [a3.pd, c.2]; rfl
    have hah : st1.ah rows = nextSpot rows (r + 1) 0 := a3.ah.trans hne
    have hge : r + 1 ≤ (nextSpot rows (r + 1) 0).1 := nextFrom_ge _ _ _
    have hst := FStep.nl (rows := rows) st1 b2 b1 hpd (by rw [hah, hstr]; omega)
    have hmk : (⟨.newline, .s [], r + 1, s1.behind⟩ : Mk) = ⟨.newline, .s [], st1.r + 1, st1.c + 1⟩ := by rw [hstr, b4]
    refine ⟨ms ++ [⟨.newline, .s [], r + 1, s1.behind⟩], { st1 with ins := false, due := (margin st1.bl (st1.ah rows) rows.length (st1.r + 2)).2, bl := (margin st1.bl (st1.ah rows) rows.length (st1.r + 2)).1 }, a1.snoc a3.ok (by rw [hmk]; exact hst), ?_, ⟨⟨by show st1.r ≤ _; exact a3.ok.hr, a3.ok.hc, ?_, fun m hm => (margin_good m hm).2.1⟩, ?_, ?_, ?_, ?_⟩, ?_, hsi2, ?_⟩
    · show s1.marks ++ _ = _
      rw [a2, List.append_assoc]
    · show Ind (margin st1.bl _ _ _).1
      rw [b3]; exact margin_ind a7.ind a7.il
    · exact hah
    · show st1.pd = (s1.br.length : Int)
      exact a3.pd
    · intro _
      have elast : lastLn (endLine (r + 1) s1) = st1.r + 2 := by
        show (match (s1.marks ++ [_]).getLast? with | none => 1 | some m => m.ln + 1) = _
        rw [List.getLast?_append]
        show (r + 1) + 1 = _
        omega
      refine ⟨rfl, ?_, ?_⟩
      · show (margin st1.bl (st1.ah rows) rows.length (st1.r + 2)).1 = (margin s1.ind _ _ _).1
        rw [elast, b3, hah]
      · show (margin st1.bl (st1.ah rows) rows.length (st1.r + 2)).2 = (margin s1.ind _ _ _).2
        rw [elast, b3, hah]
    · intro hm
      have hm : 0 < 0 := hm
      omega
    · intro m hm
      rcases List.mem_append.mp hm with h1 | h1
      · exact a4 m h1
      · rw [List.mem_singleton.mp h1]; exact good_s rfl nilOk
    · intro hm
      have hm : 0 < 0 := hm
      omega
  · rw [if_neg c] at h
    subst h
    have hb : 0 < s1.many → s1.br ≠ [] := fun h1 h2 => c ⟨h1, h2⟩
    refine ⟨ms, st1, a1, a2, ⟨a3.ok, a3.ah.trans hne, a3.pd, (fun hm => by rw [← hne]; exact a3.idle hm), fun hm => ?_⟩, a4, hsi2, hb⟩
    obtain ⟨b1, b2, b3, b4, b5, b6⟩ := a3.busy hm
    exact ⟨b1, b2, b3, b4, .inr (hb hm), by omega⟩
theorem lk_rows {rows : List (List Nat)} (hl : ∀ l ∈ rows, l.length ≤ 120) (hch : ∀ l ∈ rows, ∀ c ∈ l, c < 1114112) : ∀ (n r : Nat) {s s2 : Sc} {st : Fs}, rows.length - r = n → r ≤ rows.length → SI s → Lk rows r 0 s st → (0 < s.many → s.br ≠ []) → scanRows (rows.drop r) (r + 1) s = .ok s2 →
    ∃ ms st2, FSteps rows st ms st2 ∧ s2.marks = s.marks ++ ms ∧ Lk rows rows.length 0 s2 st2 ∧ (∀ m ∈ ms, GoodM m) ∧ SI s2 ∧ (0 < s2.many → s2.br ≠ [])
  | 0, r, s, s2, st, hn, hr, hs, L, hb, h => by
    have : r = rows.length := by omega
    subst this
    rw [List.drop_length] at h
    cases h
    exact ⟨[], st, .nil _, by rw [List.append_nil], L, (fun m hm => by cases hm), hs, hb⟩
  | n + 1, r, s, s2, st, hn, hr, hs, L, hb, h => by
    have hrl : r < rows.length := by omega
    have hrow : rows[r]? = some rows[r] := List.getElem?_eq_getElem hrl
    rw [List.drop_eq_getElem_cons hrl] at h
    have h : (scanRow rows[r] (r + 1) s).bind (scanRows (rows.drop (r + 1)) (r + 1 + 1)) = .ok s2 := h
    cases hsr : scanRow rows[r] (r + 1) s with
    | error e => rw [hsr] at h; cases h
    | ok s1 =>
      rw [hsr] at h
      have h : scanRows (rows.drop (r + 1)) (r + 1 + 1) s1 = .ok s2 := h
      obtain ⟨ms, st1, a1, a2, a3, a4, a5, a6⟩ := lk_row hrow (hl _ (List.getElem_mem hrl)) (hch _ (List.getElem_mem hrl)) hs L hb hsr
      obtain ⟨ms2, st2, b1, b2, b3, b4, b5, b6⟩ := lk_rows hl hch n (r + 1) (by omega) (by omega) a5 a3 a6 h
      refine ⟨ms ++ ms2, st2, a1.trans b1, by rw [b2, a2, List.append_assoc], b3, fun m hm => ?_, b5, b6⟩
      rcases List.mem_append.mp hm with h1 | h1
      · exact a4 m h1
      · exact b4 m h1
theorem badAt_all : ∀ {rs : List (List Nat)} {n : Nat}, badAt rs n = none → ∀ r ∈ rs, rowBad r = none
  | [], _, _, r, hr => by cases hr
  | x :: rs, n, h, r, hr => by
    unfold badAt at h
    cases hx : rowBad x with
    | some j => rw [hx] at h; cases h
    | none =>
      rw [hx] at h
      rcases List.mem_cons.mp hr with rfl | hr
      · exact hx
      · exact badAt_all h r hr
theorem rowBad_chars {l : List Nat} (h : rowBad l = none) : ∀ c ∈ l, c < 1114112 := fun c hc => by
  unfold rowBad at h
  rw [List.findIdx?_eq_none_iff] at h
  have := h c hc
  unfold rowc at this
  simp at this
  omega
theorem tokens_follow {l : List Nat} {ms : List Mk} (h : tokensP l = .ok ms) : ∃ e, FSteps (rowsOf l) (Fs0 (rowsOf l)) ms e ∧ e.due = [] ∧ (∃ m, ms.getLast? = some m ∧ m.k = .fin) ∧ (∀ m ∈ ms, GoodM m) ∧ (rowsOf l).length ≤ 6001 ∧ ∀ r ∈ rowsOf l, r.length ≤ 120 := by
  unfold tokensP at h
  cases hc : checkRows l with
  | error e => rw [hc] at h; cases h
  | ok rs =>
  rw [hc] at h
  have h : ((scanRows rs 1 sc0).bind fun s => (endText s).map Sc.marks) = .ok ms := h
  obtain ⟨h1, h2, h3⟩ := checkRows_ok hc
  have hch : ∀ r ∈ rs, ∀ c ∈ r, c < 1114112 := by
    unfold checkRows at hc
    split at hc
    · cases hc
    split at hc
    · cases hc
    rename_i hbad
    rw [h3]
    exact fun r hr => rowBad_chars (badAt_all hbad r hr)
  subst h3
  generalize rowsOf l = rows at *
  cases hsr : scanRows rows 1 sc0 with
  | error e => rw [hsr] at h; cases h
  | ok s1 =>
  rw [hsr] at h
  have h : (endText s1).map Sc.marks = .ok ms := h
  have L0 : Lk rows 0 0 sc0 (Fs0 rows) :=
    ⟨⟨Nat.zero_le _, Nat.zero_le _, margin_ind SI0.ind SI0.il, fun m hm => (margin_good m hm).2.1⟩, rfl, rfl, (fun _ => ⟨rfl, rfl, rfl⟩), fun hm => by
      have hm : 0 < 0 := hm
      omega⟩
  obtain ⟨ms1, st, a1, a2, a3, a4, a5, a6⟩ := lk_rows h2 hch _ 0 rfl (Nat.zero_le _) SI0 L0 (fun hm => by have hm : 0 < 0 := hm; omega) hsr
  have a2 : s1.marks = ms1 := a2
  unfold endText at h
  cases hb : s1.br with
  | cons b r => rw [hb] at h; cases h
  | nil =>
  rw [hb] at h
  have h := Except.ok.inj h
  have h : (s1.marks ++ List.replicate (s1.ind.length - 1) (dedent (lastLn s1) 1)) ++ [⟨.fin, .s [], lastLn s1, 1⟩] = ms := h
  have hm0 : s1.many = 0 := by
    rcases Nat.eq_zero_or_pos s1.many with h | h
    · exact h
    · exact absurd hb (a6 h)
  obtain ⟨i1, i2, i3⟩ := a3.idle hm0
  have hns : nextSpot rows rows.length 0 = (rows.length, 0) := by unfold nextSpot; rw [List.drop_length]; rfl
  rw [hns] at i3
  have i3 : st.due = List.replicate (s1.ind.length - 1) (dedent (lastLn s1) 1) ++ [finM (lastLn s1)] := by
    rw [i3]; unfold margin; rw [if_pos rfl]
  have hms : ms = ms1 ++ st.due := by rw [← h, a2, i3, List.append_assoc]; rfl
  refine ⟨{ st with due := [] }, by rw [hms]; exact a1.trans (FSteps.dues st.due st a3.ok rfl), rfl, ⟨finM (lastLn s1), by rw [hms, i3, ← List.append_assoc, List.getLast?_append]; rfl, rfl⟩, fun m hm => ?_, h1, h2⟩
  rw [hms] at hm
  rcases List.mem_append.mp hm with h1 | h1
  · exact a4 m h1
  · rw [i3] at h1
    rcases List.mem_append.mp h1 with h1 | h1
    · rw [List.eq_of_mem_replicate h1]; exact good_s rfl nilOk
    · rw [List.mem_singleton.mp h1]; exact good_s rfl nilOk
end D0
namespace D0
open PySem PySem.Spec PyProof.Rows L2 SX NumText
/-- the blocks that the law keeps beside the scanner's indents -/
def BlkR (s : Sc) (bs : List Nat) : Prop := (s.marks = [] ∧ bs = [] ∧ s.ind = [0] ∧ s.many = 0) ∨ (s.marks ≠ [] ∧ bs = s.ind)
theorem begin_block {s : Sc} {bs : List Nat} {r w : Nat} (hb : BlkR s bs) (hs : SI s) :
    (∀ er, (lawBlock bs w).1 = some er → beginLine (r + 1) (w + 1) s = .error (er, r + 1, w + 1)) ∧
    ((lawBlock bs w).1 = none → ∃ s1, beginLine (r + 1) (w + 1) s = .ok s1 ∧ s1.ind = (lawBlock bs w).2 ∧ s1.br = s.br ∧ s1.many = s.many) := by
  unfold beginLine
  rw [Nat.add_sub_cancel]
  rcases hb with ⟨h1, h2, h3, _⟩ | ⟨h1, h2⟩
  · subst h2
    unfold lawBlock
    rw [if_pos rfl]
    by_cases hw : 0 < w
    · rw [if_pos hw, if_pos ⟨hw, h1⟩]
      exact ⟨(fun er h => by cases h; rfl), (fun h => by cases h)⟩
    · have hw0 : w = 0 := by omega
      subst hw0
      rw [if_neg hw, if_neg (show ¬ (0 < 0 ∧ s.marks = []) from fun z => hw z.1), if_neg (show ¬ s.ind.headD 0 < 0 from Nat.not_lt_zero _)]
      refine ⟨(fun er h => by cases h), fun _ => ?_⟩
      unfold finish
      rw [h3]
      exact ⟨_, rfl, rfl, rfl, rfl⟩
  · subst h2
    have hne := hs.ind.ne
    unfold lawBlock
    rw [if_neg hne, if_neg (show ¬ (0 < w ∧ s.marks = []) from fun z => h1 z.2)]
    by_cases hw : s.ind.headD 0 < w
    · rw [if_pos hw, if_pos hw]
      by_cases hd : 11 < s.ind.length + 1
      · rw [if_pos hd, if_pos hd]
        exact ⟨(fun er h => by cases h; rfl), (fun h => by cases h)⟩
      · rw [if_neg hd, if_neg hd]
        refine ⟨(fun er h => by cases h), fun _ => ?_⟩
        have e : popW w (w :: s.ind) = w :: s.ind := by show (if w < w then _ else _) = _; rw [if_neg (Nat.lt_irrefl _)]
        unfold finish
        dsimp only
        rw [e, if_neg (show ¬ (w :: s.ind).headD 0 < w from Nat.lt_irrefl _)]
        exact ⟨_, rfl, rfl, rfl, rfl⟩
    · rw [if_neg hw, if_neg hw]
      unfold finish
      by_cases hd : (popW w s.ind).headD 0 < w
      · rw [if_pos hd, if_pos hd]
        exact ⟨(fun er h => by cases h; rfl), (fun h => by cases h)⟩
      · rw [if_neg hd, if_neg hd]
        exact ⟨(fun er h => by cases h), fun _ => ⟨_, rfl, rfl, rfl, rfl⟩⟩
/-- the text of a token is a bracket just if the token is that sign -/
theorem slice_br {l : List Nat} {i e : Nat} {k : Kd} {w : Wd} (hi : i < l.length) (h : scanTok l i = .ok (k, w, e)) : (isSg k = true → w = .s (word l i e)) ∧ (isSg k = false → word l i e ∉ OPN ∧ word l i e ∉ CLS) := by
  obtain ⟨t1, t2, _⟩ := scanTok_ok hi h
  have t1 : i + 1 ≤ e := t1
  have gi := getD_get hi
  have hhead : (word l i e).head? = some (l.getD i 0) := by
    unfold word
    rw [List.drop_eq_getElem_cons hi, show e - i = (e - i - 1) + 1 by omega, List.take_succ_cons]
    show some l[i] = _
    rw [← gi, List.getElem?_eq_getElem hi]
  have no : ∀ c, l.getD i 0 = c → (∀ s ∈ OPN, s.head? ≠ some c) → (∀ s ∈ CLS, s.head? ≠ some c) → word l i e ∉ OPN ∧ word l i e ∉ CLS := fun c hc h1 h2 => by
    rw [hc] at hhead
    exact ⟨fun z => h1 _ z hhead, fun z => h2 _ z hhead⟩
  have hO : ∀ s ∈ OPN, s = [40] ∨ s = [91] ∨ s = [123] := by decide
  have hC : ∀ s ∈ CLS, s = [41] ∨ s = [93] ∨ s = [125] := by decide
  have gen : ∀ c, (c ≠ 40 ∧ c ≠ 91 ∧ c ≠ 123 ∧ c ≠ 41 ∧ c ≠ 93 ∧ c ≠ 125) → (∀ s ∈ OPN, s.head? ≠ some c) ∧ (∀ s ∈ CLS, s.head? ≠ some c) := fun c hc => by
    refine ⟨fun s hs z => ?_, fun s hs z => ?_⟩
    · rcases hO s hs with rfl | rfl | rfl <;> · have := Option.some.inj z; omega
    · rcases hC s hs with rfl | rfl | rfl <;> · have := Option.some.inj z; omega
  rcases tok_cases hi h with ⟨hk, hq, hst⟩ | ⟨sp, hT⟩
  · subst hk
    refine ⟨(fun z => by cases z), fun _ => ?_⟩
    have := gen (l.getD i 0) (by omega)
    exact no _ rfl this.1 this.2
  · cases hT with
    | nm _ h1 h2 =>
      refine ⟨(fun z => by rw [h2] at z; first | done | exact absurd z (by split <;> exact Bool.false_ne_true)), fun _ => ?_⟩
      have : l.getD i 0 ≠ 40 ∧ l.getD i 0 ≠ 91 ∧ l.getD i 0 ≠ 123 ∧ l.getD i 0 ≠ 41 ∧ l.getD i 0 ≠ 93 ∧ l.getD i 0 ≠ 125 := by
        refine ⟨?_, ?_, ?_, ?_, ?_, ?_⟩ <;> · intro z; rw [z] at h1; cases h1
      have := gen _ this
      exact no _ rfl this.1 this.2
    | num h1 h2 =>
      refine ⟨(fun z => by cases z), fun _ => ?_⟩
      have : l.getD i 0 ≠ 40 ∧ l.getD i 0 ≠ 91 ∧ l.getD i 0 ≠ 123 ∧ l.getD i 0 ≠ 41 ∧ l.getD i 0 ≠ 93 ∧ l.getD i 0 ≠ 125 := by
        refine ⟨?_, ?_, ?_, ?_, ?_, ?_⟩ <;> · intro z; rw [z] at h2; cases h2
      have := gen _ this
      exact no _ rfl this.1 this.2
    | sg _ h1 =>
      refine ⟨fun _ => ?_, (fun z => by cases z)⟩
      have hp0 := List.find?_some h1
      have hp := of_decide_eq_true hp0
      unfold word
      rw [Nat.add_sub_cancel_left]
      rw [hp]
/-- the law's list of open brackets -/
def Pnd (H : Hp) (ps : List V) (br : List Mk) : Prop := ps.length = br.length ∧ ∀ (i : Nat) (b : Mk), br.reverse[i]? = some b → ∃ (a : Addr) (c : List Nat), ps[i]? = some (V.ref a) ∧ H a = some (.lst [.str (S c), .int (b.ln : Nat), .int (b.col : Nat)]) ∧ c ∈ CLS ∧ cloV c = some (wl b.w)
theorem Pnd.nil {H : Hp} : Pnd H [] [] := ⟨rfl, fun i b h => by simp at h⟩
theorem Pnd.mono {H H' : Hp} {ps : List V} {br : List Mk} (h : Pnd H ps br) (k : ∀ (i : Nat) (a : Addr) (o : HO) (x y : V) (c : List Nat), ps[i]? = some (V.ref a) → H a = some (.lst [.str (S c), x, y]) → H' a = some (.lst [.str (S c), x, y])) : Pnd H' ps br :=
  ⟨h.1, fun i b hb => by obtain ⟨a, c, h1, h2, h3, h4⟩ := h.2 i b hb; exact ⟨a, c, h1, k i a (.lst []) _ _ c h1 h2, h3, h4⟩⟩
theorem Pnd.same {H H' : Hp} {ps : List V} {br : List Mk} (h : Pnd H ps br) (k : Same H H') : Pnd H' ps br := h.mono fun i a o x y c _ e => k _ _ e
theorem Pnd.push {H : Hp} {ps : List V} {br : List Mk} {b : Mk} {a : Addr} {c : List Nat} (h : Pnd H ps br) (ha : H a = some (.lst [.str (S c), .int (b.ln : Nat), .int (b.col : Nat)])) (hc : c ∈ CLS) (hv : cloV c = some (wl b.w)) : Pnd H (ps ++ [V.ref a]) (b :: br) := by
  refine ⟨by simp [h.1], fun i x hx => ?_⟩
  rw [List.reverse_cons] at hx
  by_cases hi : i < br.reverse.length
  · rw [List.getElem?_append_left hi] at hx
    obtain ⟨a2, c2, h1, h2⟩ := h.2 i x hx
    exact ⟨a2, c2, by rw [List.getElem?_append_left (by rw [h.1]; simpa using hi)]; exact h1, h2⟩
  · rw [List.getElem?_append_right (by omega)] at hx
    have hz : i - br.reverse.length = 0 := by
      have := (List.getElem?_eq_some_iff.mp hx).1
      rw [List.length_cons, List.length_nil] at this; omega
    rw [hz] at hx
    have : b = x := by simpa using hx
    subst this
    have hi2 : i = ps.length := by have := h.1; rw [List.length_reverse] at hz hi; omega
    exact ⟨a, c, by rw [hi2]; simp, ha, hc, hv⟩
theorem Pnd.top {H : Hp} {ps : List V} {br : List Mk} {b : Mk} (h : Pnd H ps (b :: br)) : ∃ (a : Addr) (c : List Nat) (ps' : List V), ps = ps' ++ [V.ref a] ∧ Pnd H ps' br ∧ H a = some (.lst [.str (S c), .int (b.ln : Nat), .int (b.col : Nat)]) ∧ c ∈ CLS ∧ cloV c = some (wl b.w) := by
  obtain ⟨a, c, h1, h2, h3, h4⟩ := h.2 br.length b (by rw [List.reverse_cons, List.getElem?_append_right (by simp)]; simp)
  have hl : ps.length = br.length + 1 := h.1
  refine ⟨a, c, ps.take br.length, ?_, ⟨by rw [List.length_take]; omega, fun i x hx => ?_⟩, h2, h3, h4⟩
  · have : ps = ps.take br.length ++ ps.drop br.length := (List.take_append_drop _ _).symm
    have h5 : ps.drop br.length = [V.ref a] := by
      rw [List.drop_eq_getElem_cons (by omega), List.drop_eq_nil_of_le (by omega)]
      rw [List.getElem?_eq_getElem (by omega)] at h1
      rw [Option.some.inj h1]
    rw [h5] at this
    exact this
  · have hi := (List.getElem?_eq_some_iff.mp hx).1
    rw [List.length_reverse] at hi
    obtain ⟨a2, c2, g1, g2⟩ := h.2 i x (by rw [List.reverse_cons, List.getElem?_append_left (by rw [List.length_reverse]; exact hi)]; exact hx)
    exact ⟨a2, c2, by rw [List.getElem?_take, if_pos hi]; exact g1, g2⟩
end D0
namespace D0
open PySem PySem.Spec PyProof.Rows L2 SX NumText
/-- the scanner's state, as the law keeps it: brackets at pa, blocks at ba -/
structure FP (H0 H : Hp) (ba pa : Addr) (s : Sc) : Prop where
  pn : ∃ ps, H pa = some (.lst ps) ∧ Pnd H ps s.br
  si : SI s
  ne : ba ≠ pa
  sm : Same H0 H
  b0 : H0 ba = none
  p0 : H0 pa = none
theorem FP.same {H0 H H' : Hp} {ba pa : Addr} {s : Sc} (h : FP H0 H ba pa s) (k : Same H H') : FP H0 H' ba pa s := by
  obtain ⟨ps, h1, h2⟩ := h.pn
  exact ⟨⟨ps, k _ _ h1, h2.same k⟩, h.si, h.ne, h.sm.trans k, h.b0, h.p0⟩
theorem int_ne_str {xs : List Nat} {c : List Nat} {x y : V} : (HO.lst (xs.map fun n => V.int (n : Nat))) ≠ .lst [.str (S c), x, y] := fun z => by
  cases xs with
  | nil => cases z
  | cons a t => cases z
/-- the blocks change -/
theorem FP.blk {H0 H H' : Hp} {ba pa : Addr} {s s' : Sc} {st : List Nat} (h : FP H0 H ba pa s) (hb : Blk H ba st) (k : ∀ b o, b ≠ ba → H b = some o → H' b = some o) (hbr : s'.br = s.br) (hs : SI s') : FP H0 H' ba pa s' := by
  obtain ⟨ps, h1, h2⟩ := h.pn
  have hb' : H ba = some (.lst (st.reverse.map fun n => V.int (n : Nat))) := hb
  have h3 : Pnd H' ps s.br := h2.mono fun i a o x y c _ e => by
    refine k _ _ (fun z => ?_) e
    rw [z, hb'] at e
    exact int_ne_str (Option.some.inj e)
  exact ⟨⟨ps, k _ _ (Ne.symm h.ne) h1, by rw [hbr]; exact h3⟩, hs, h.ne, (fun b o e => k _ _ (fun z => by rw [z, h.b0] at e; cases e) (h.sm _ _ e)), h.b0, h.p0⟩
/-- the brackets change -/
theorem FP.pnd {H0 H : Hp} {ba pa : Addr} {s s' : Sc} {ps ps' : List V} (h : FP H0 H ba pa s) (hp : H pa = some (.lst ps)) (hr : ∀ v ∈ ps, ∃ a, v = V.ref a) (h2 : Pnd H ps' s'.br) (hs : SI s') : FP H0 (upd H pa (.lst ps')) ba pa s' := by
  refine ⟨⟨ps', upd_same, h2.mono fun i a o x y c hi e => ?_⟩, hs, h.ne, fun b o e => ?_, h.b0, h.p0⟩
  · rw [upd_ne]
    · exact e
    · intro z
      rw [z, hp] at e
      have e := HO.lst.inj (Option.some.inj e)
      obtain ⟨a', ha'⟩ := hr (.str (S c)) (by rw [e]; exact List.mem_cons_self)
      cases ha'
  · rw [upd_ne (fun z => by rw [z, h.p0] at e; cases e)]; exact h.sm _ _ e
theorem Pnd.refs {H : Hp} {ps : List V} {br : List Mk} (h : Pnd H ps br) : ∀ v ∈ ps, ∃ a, v = V.ref a := fun v hv => by
  obtain ⟨i, hi, e⟩ := List.getElem_of_mem hv
  have hi2 : i < br.reverse.length := by rw [List.length_reverse, ← h.1]; exact hi
  obtain ⟨a, c, h1, _⟩ := h.2 i _ (List.getElem?_eq_getElem hi2)
  rw [List.getElem?_eq_getElem hi, e] at h1
  exact ⟨a, Option.some.inj h1⟩
theorem Pnd.each {H : Hp} {ps : List V} {br : List Mk} (h : Pnd H ps br) : ∀ v ∈ ps, ∃ (a : Addr) (c : List Nat) (x y : Int), v = V.ref a ∧ H a = some (.lst [.str (S c), .int x, .int y]) ∧ c ∈ CLS := fun v hv => by
  obtain ⟨i, hi, e⟩ := List.getElem_of_mem hv
  have hi2 : i < br.reverse.length := by rw [List.length_reverse, ← h.1]; exact hi
  obtain ⟨a, c, h1, h2, h3, _⟩ := h.2 i _ (List.getElem?_eq_getElem hi2)
  rw [List.getElem?_eq_getElem hi, e] at h1
  exact ⟨a, c, _, _, Option.some.inj h1, h2, h3⟩
theorem pnd_data {K : PySem.W.Frag} {H : Hp} : ∀ {ps : List V}, (∀ v ∈ ps, ∃ (a : Addr) (c : List Nat) (x y : Int), v = V.ref a ∧ H a = some (.lst [.str (S c), .int x, .int y]) ∧ c ∈ CLS) → ∃ ds, DpAll K H ps ds ∧ PyData.canLayAll0 ds = true ∧ PyData.depthAll ds ≤ 5 ∧ PyData.eqv (.list ds) (.list []) = decide (ps = [])
  | [], _ => ⟨[], .nil, rfl, by decide, rfl⟩
  | v :: r, h => by
    obtain ⟨ds, h1, h2, h3, _⟩ := pnd_data (ps := r) fun x hx => h x (List.mem_cons_of_mem _ hx)
    obtain ⟨a, c, x, y, rfl, ha, hc⟩ := h v List.mem_cons_self
    refine ⟨.list [.str (S c), .int x, .int y] :: ds, .cons (.lst (SqL.of ha) (.cons (.str _) (.cons (.int _) (.cons (.int _) .nil)))) h1, ?_, ?_, rfl⟩
    · have := CLS_ok c hc
      simp only [PyData.canLayAll0, PyData.canLay0, h2, this, Bool.and_true]
    · simp only [PyData.depthAll, PyData.depth]
      omega
theorem Pnd.data {K : PySem.W.Frag} {H : Hp} {ps : List V} {br : List Mk} (h : Pnd H ps br) : ∃ ds, DpAll K H ps ds ∧ SeqAt.shaped (.list ds) = true ∧ PyData.eqv (.list ds) (.list []) = decide (ps = []) := by
  obtain ⟨ds, h1, h2, h3, h4⟩ := pnd_data (K := K) h.each
  refine ⟨ds, h1, ?_, h4⟩
  unfold SeqAt.shaped
  rw [PyData.canLay0, h2, PyData.depth]
  exact decide_eq_true (by omega)
def eV (e : Er3) : List V := [.str (S (erL (some e.1))), .int (e.2.1 : Nat), .int (e.2.2 : Nat)]
def spFirst (K : PySem.W.Frag) : Sp := fun vs H Q _ => ∃ (ra : Addr) (rows : List (List Nat)), vs = [.ref ra] ∧ RowsAt K H ra rows ∧ rows.length ≤ 6001 ∧ (∀ l ∈ rows, l.length ≤ 120) ∧
  (∀ e, (scanRows rows 1 sc0).bind endText = .error e → ∀ H' p, Same H H' → H p = none → H' p = some (.lst (eV e)) → Q (.ref p) H') ∧
  (∀ s, (scanRows rows 1 sc0).bind endText = .ok s → ∀ H' p, Same H H' → H p = none → H' p = some (.lst []) → Q (.ref p) H')
abbrev fBody : List Stmt := fb ((fb ((defBody s__law_first_fault).getD 3 (.Pass ⟨0, 0, 0, 0⟩))).getD 1 (.Pass ⟨0, 0, 0, 0⟩))
section
variable {P : Program} {w : World} {K : PySem.W.Frag} {mg : Str → Option Value} {base : Heap}
theorem tok_part (T : Txt K w mg) (Ox : OkD P w K mg base CX0 2 "_law_extent" p__law_extent spExtent) {f : Addr} {cdv : Value} {A : Around} {outer : List Env} {s : Shared} {H : Hp} {E : XK} (hr : Room 2 (A.deeper (envOfC "_law_first_fault" (defScope s__law_first_fault) s.heap.objs.size f cdv))) :
    ∃ t, PSs (cxOf CX0 P w K mg base n__law_first_fault "_law_first_fault" (defScope s__law_first_fault) f cdv A outer s H E).nox (List.drop 1 (ib (fBody.getD 1 (.Pass ⟨0, 0, 0, 0⟩)))) t ∧
      ∀ (D : Ends) (H0 H1 : Hp) (ra ba pa : Addr) (rows : List (List Nat)) (s1 : Sc) (r j : Nat) (l : List Nat) (up : V) (y1 y2 y3 : Option V), RowsAt K H1 ra rows → rows[r]? = some l → l.length ≤ 120 → j < l.length → FP H0 H1 ba pa s1 → Blk H1 ba s1.ind →
        (∀ e, tokS l (r + 1) j s1 = .error e → ∀ H' p, Same H1 H' → H1 p = none → H' p = some (.lst (eV e)) → D.rt (.ref p) H') →
        (∀ s2 u H' (y1 y2 y3 : Option V), tokS l (r + 1) j s1 = .ok (twl spc l u, s2) → j + 1 ≤ u → u ≤ l.length → FP H0 H' ba pa s2 → Blk H' ba s2.ind → s2.marks ≠ [] →
          D.nx [some (.ref ra), some (.ref ba), some (.ref pa), some (.int (s2.many : Nat)), some (.int (r : Nat)), some (.int (u : Nat)), some (.int (j : Nat)), y1, y2, y3] H') →
        t D [some (.ref ra), some (.ref ba), some (.ref pa), some (.int (s1.many : Nat)), some (.int (r : Nat)), some up, some (.int (j : Nat)), y1, y2, y3] H1 := by
  refine ⟨_, (pss_cons (ps_set (i := 3) sc__law_first_fault.nd rfl (.inl rfl) (pe_op op_add (pv 3) pe_int))
      (pss_cons (ps_set (i := 8) sc__law_first_fault.nd rfl (.inl rfl) (pcall Ox hr (pa_cons (pe_ix ix_list (pv 0) (pv 4) (fun _ _ => rfl)) (pa_cons (pv 6) pa_nil))))
      (pss_cons (ps_set (i := 5) sc__law_first_fault.nd rfl (.inl rfl) (pe_ix ix_list (pv 8) pe_int (fun _ _ => rfl)))
      (pss_cons (ps_if (pt_cmpR op_ge (pe_ix ix_list (pv 8) pe_int (fun _ _ => rfl)) pe_int (nomark _)) (pss_one (ps_ret (pe_lst (pa_cons pe_str (pa_cons (pe_op op_add (pv 4) pe_int) (pa_cons (pe_op op_add (pe_ix ix_list (pv 8) pe_int (fun _ _ => rfl)) pe_int) pa_nil)))))) pss_nil)
      (pss_cons (ps_if (pt_cmpR op_gt (pv 3) pe_int (nomark _)) (pss_one (ps_ret (pe_lst (pa_cons pe_str (pa_cons (pe_op op_add (pv 4) pe_int) (pa_cons (pe_op op_add (pv 6) pe_int) pa_nil)))))) pss_nil)
      (pss_cons (ps_set (i := 9) sc__law_first_fault.nd rfl (.inl rfl) (pe_slice sl_str (pe_ix ix_list (pv 0) (pv 4) (fun _ _ => rfl)) (po_some (pv 6)) (po_some (pv 5))))
      (pss_cons (ps_if (pt_cmpR op_in_seq (pv 9) (pe_lst (pa_cons pe_str (pa_cons pe_str (pa_cons pe_str pa_nil)))) (by rfl)) (pss_one (ps_expr (pe_bm PySem.F.plainAttrs_list PySem.F.slot_list_append PySem.F.type_list_append mt_append (pv 2) (pa_cons (pe_lst (pa_cons (pe_ix ix_str pe_str (pe_bm PySem.F.plainAttrs_str PySem.F.slot_str_index PySem.F.type_str_index mt_sindex pe_str (pa_cons (pv 9) pa_nil)) (fun _ _ => rfl)) (pa_cons (pe_op op_add (pv 4) pe_int) (pa_cons (pe_op op_add (pv 6) pe_int) pa_nil)))) pa_nil)))) pss_nil)
      (pss_one (ps_if (pt_cmpR op_in_seq (pv 9) (pe_lst (pa_cons pe_str (pa_cons pe_str (pa_cons pe_str pa_nil)))) (by rfl)) (pss_cons (ps_if (PW.pt (pw_or (pt_cmpR (op_eqD hr.units) (pv 2) (pe_lst pa_nil) (nomark _)) (pw_or1 (pt_cmpR op_ne (pe_ix ix_list (pe_ix ix_list (pv 2) (pe_un un_neg pe_int) (fun _ _ => rfl)) pe_int (fun _ _ => rfl)) (pv 9) (nomark _))))) (pss_one (ps_ret (pe_lst (pa_cons pe_str (pa_cons (pe_op op_add (pv 4) pe_int) (pa_cons (pe_op op_add (pv 6) pe_int) pa_nil)))))) pss_nil)
      (pss_one (ps_expr (pe_bm0 PySem.F.plainAttrs_list PySem.F.slot_list_pop PySem.F.type_list_pop mt_pop (pv 2))))) pss_nil))))))))), ?_⟩
  intro D H0 H1 ra ba pa rows s1 r j l up y1 y2 y3 hR hrow hl hj F hB hE hO
  have z : Str.ofString "BadToken" = S (erL (some .token)) ∧ Str.ofString "TooLong" = S (erL (some .long)) ∧ Str.ofString "([{" = S [40, 91, 123] ∧ Str.ofString ")]}" = S [41, 93, 125] := by decide +kernel
  have zb : Str.ofString "(" = S [40] ∧ Str.ofString ")" = S [41] ∧ Str.ofString "[" = S [91] ∧ Str.ofString "]" = S [93] ∧ Str.ofString "{" = S [123] ∧ Str.ofString "}" = S [125] := by decide +kernel
  have lim : (1000100 : Nat) ≤ sizeLine := by decide
  have hS : (S l).length ≤ sizeLine := by rw [S_len]; omega
  have grow : atI (rows.map fun l => V.str (S l)) ((r : Nat) : Int) = some (.str (S l)) := atI_nat (by rw [List.getElem?_map, hrow]; rfl)
  have three3 : 3 ≤ sizeLine := by omega
  have err : ∀ (e : Er3) (er : Er) (c : Nat) (H2 : Hp) (p : Addr), tokS l (r + 1) j s1 = .error e → e = (er, r + 1, c) → Same H1 H2 → H2 p = none → D.rt (.ref p) (upd H2 p (.lst [.str (S (erL (some er))), .int ((r : Int) + 1), .int (c : Int)])) := fun e er c H2 p h1 h2 s2 hp => by
    refine hE e h1 _ p (s2.trans (same_new hp _)) (s2.free hp) ?_
    rw [upd_same, h2]; rfl
  refine ⟨_, rfl, _, _, rfl, rfl, ?_⟩
  refine ⟨_, rfl, _, rfl, ra, _, _, .str (S l), rfl, rfl, SqL.of hR.at_, grow, _, rfl, l, j, rfl, by show _ ≤ 1000000; omega, hj, fun H2 p u fx sm hp hpl hex => ?_⟩
  have ix0 : atI ([.int (u : Nat), .int fx] : List V) (0 : Int) = some (.int (u : Nat)) := atI_nat (j := 0) rfl
  have ix1 : atI ([.int (u : Nat), .int fx] : List V) (1 : Int) = some (.int fx) := atI_nat (j := 1) rfl
  refine ⟨_, rfl, p, _, 0, _, rfl, rfl, SqL.of hpl, ix0, ?_⟩
  refine ⟨_, rfl, p, _, 1, _, rfl, rfl, SqL.of hpl, ix1, _, _, rfl, rfl, _, rfl, ?_⟩
  obtain ⟨ex1, ex2⟩ := hex
  cases ht : scanTok l j with
  | error c =>
    obtain ⟨f1, f2⟩ := ex2 c ht
    have hts : tokS l (r + 1) j s1 = .error (.token, r + 1, c) := by unfold tokS; rw [ht]; rfl
    refine iteT' (decide_eq_true f2) ?_
    refine ⟨_, rfl, _, _, rfl, rfl, _, rfl, p, _, 1, _, rfl, rfl, SqL.of hpl, ix1, _, _, rfl, rfl, three3, fun q hq => ?_⟩
    have := err _ .token c H2 q hts rfl sm hq
    rw [← z.1, show (c : Int) = fx + 1 by omega] at this
    exact this
  | ok t =>
  obtain ⟨f1, f2⟩ := ex1 t ht
  subst f1 f2
  obtain ⟨t1, t2, t3⟩ := scanTok_ok hj ht
  obtain ⟨sb1, sb2⟩ := slice_br (k := t.1) (w := t.2.1) (e := t.2.2) hj ht
  refine iteF' (by decide) ?_
  have hts : tokS l (r + 1) j s1 = (gatherP ⟨t.1, t.2.1, r + 1, j + 1⟩ s1).map fun s2 => (twl spc l t.2.2, { s2 with behind := t.2.2 + 1 }) := by unfold tokS; rw [ht]; rfl
  refine ⟨_, rfl, _, _, rfl, rfl, _, rfl, iteD (b := decide ((120 : Int) < ((s1.many : Nat) : Int) + 1)) (fun c => ?_) (fun c => ?_)⟩
  · have c := of_decide_eq_true c
    have hg : gatherP ⟨t.1, t.2.1, r + 1, j + 1⟩ s1 = .error (.long, r + 1, j + 1) := by unfold gatherP; rw [if_pos (by omega)]
    rw [hg] at hts
    refine ⟨_, rfl, _, _, rfl, rfl, _, rfl, _, _, rfl, rfl, three3, fun q hq => ?_⟩
    have := err _ .long (j + 1) H2 q hts rfl sm hq
    rw [← z.2.1] at this
    exact this
  have c := of_decide_eq_false c
  have hmy : ¬ 120 < s1.many + 1 := by omega
  have ecut : cutS (S l) (some (j : Int)) (some ((t.2.2 : Nat) : Int)) = S (word l j t.2.2) := cut_nn l j t.2.2 (by omega)
  refine ⟨_, rfl, _, rfl, ra, _, _, .str (S l), rfl, rfl, SqL.of (sm _ _ hR.at_), grow, _, rfl, _, rfl, _, rfl, _, rfl, S l, rfl, hS, ?_⟩
  rw [ecut]
  have hdO : ([.str (Str.ofString "("), .str (Str.ofString "["), .str (Str.ofString "{")] : List V) = OPN.map fun l => V.str (S l) := by rw [zb.1, zb.2.2.1, zb.2.2.2.2.1]; rfl
  have hdC : ([.str (Str.ofString ")"), .str (Str.ofString "]"), .str (Str.ofString "}")] : List V) = CLS.map fun l => V.str (S l) := by rw [zb.2.1, zb.2.2.2.1, zb.2.2.2.2.2]; rfl
  refine ⟨_, rfl, three3, fun g1 hg1 => ?_⟩
  have s3 := sm.trans (same_new hg1 (.lst [.str (Str.ofString "("), .str (Str.ofString "["), .str (Str.ofString "{")]))
  refine ⟨g1, OPN.map fun l => V.str (S l), rfl, .inl (SqL.of (by rw [upd_same, ← hdO])), rfl, flat_strs OPN, _, rfl, ?_⟩
  have eIn : ∀ L : List (List Nat), (if false = true then !inV (V.str (S (word l j t.2.2))) (L.map fun l => V.str (S l)) else inV (V.str (S (word l j t.2.2))) (L.map fun l => V.str (S l))) = decide (word l j t.2.2 ∈ L) := fun L => by rw [if_neg Bool.false_ne_true, in_strs]
  by_cases hO1 : word l j t.2.2 ∈ OPN
  · refine iteT' ((eIn OPN).trans (decide_eq_true hO1)) ?_
    have hk : isSg t.1 = true := by
      cases h : isSg t.1 with
      | true => rfl
      | false => exact absurd hO1 (sb2 h).1
    have hw := sb1 hk
    have hg : gatherP ⟨t.1, t.2.1, r + 1, j + 1⟩ s1 = .ok (addM ⟨t.1, t.2.1, r + 1, j + 1⟩ { s1 with many := s1.many + 1, br := ⟨t.1, t.2.1, r + 1, j + 1⟩ :: s1.br }) := by
      unfold gatherP
      rw [if_neg hmy, if_pos hk]
      unfold matchBr
      dsimp only
      rw [hw, if_pos (show wl (.s (word l j t.2.2)) ∈ OPN from hO1)]
      rfl
    rw [hg] at hts
    have hsi := (tokS_ok hj F.si hts).2.2.1
    have F3 := F.same s3
    obtain ⟨ps, h1, h2⟩ := F3.pn
    have hbl := F.si.brl
    have hbm := F.si.my
    have hps : ps.length ≤ 120 := by rw [h2.1]; omega
    obtain ⟨k, cl, hk3, hix, hcl, hcm, hcv⟩ : ∃ (k cl : Nat), k < 3 ∧ (∃ rest, Builtin.Str.occurrences (S [40, 91, 123]) (S (word l j t.2.2)) 0 (S [40, 91, 123]).length 1 = k :: rest) ∧ ([41, 93, 125] : List Nat)[k]? = some cl ∧ [cl] ∈ CLS ∧ cloV [cl] = some (word l j t.2.2) := by
      have hcase : word l j t.2.2 = [40] ∨ word l j t.2.2 = [91] ∨ word l j t.2.2 = [123] := by
        have : ∀ x ∈ OPN, x = [40] ∨ x = [91] ∨ x = [123] := by decide
        exact this _ hO1
      rcases hcase with h | h | h <;> rw [h]
      · exact ⟨0, 41, by decide, ⟨[], by decide +kernel⟩, rfl, by decide, rfl⟩
      · exact ⟨1, 93, by decide, ⟨[], by decide +kernel⟩, rfl, by decide, rfl⟩
      · exact ⟨2, 125, by decide, ⟨[], by decide +kernel⟩, rfl, by decide, rfl⟩
    obtain ⟨rest, hocc⟩ := hix
    refine ⟨_, rfl, .inl ⟨rfl, _, SqL.of h1⟩, ?_⟩
    refine ⟨rfl, _, rfl, S [40, 91, 123], _, k, rest, by rw [← z.2.2.1], rfl, hocc, ?_⟩
    refine ⟨S [41, 93, 125], k, cl, by rw [← z.2.2.2], rfl, by rw [S_len]; show 3 ≤ sizeLine; omega, at_S hcl, ?_⟩
    refine ⟨_, rfl, _, _, rfl, rfl, _, rfl, _, _, rfl, rfl, three3, fun q hq => ?_⟩
    have s4 := s3.trans (same_new hq (.lst [.str ⟨#[cl]⟩, .int ((r : Int) + 1), .int ((j : Int) + 1)]))
    have h1q := (same_new hq (.lst [.str ⟨#[cl]⟩, .int ((r : Int) + 1), .int ((j : Int) + 1)])) _ _ h1
    refine ⟨pa, _, _, rfl, rfl, h1q, by omega, ?_⟩
    have F4 := F.same s4
    have F5 : FP H0 (upd (upd (upd H2 g1 (.lst [.str (Str.ofString "("), .str (Str.ofString "["), .str (Str.ofString "{")])) q (.lst [.str ⟨#[cl]⟩, .int ((r : Int) + 1), .int ((j : Int) + 1)])) pa (.lst (ps ++ [V.ref q]))) ba pa { s1 with many := s1.many + 1, br := ⟨t.1, t.2.1, r + 1, j + 1⟩ :: s1.br, marks := s1.marks ++ [⟨t.1, t.2.1, r + 1, j + 1⟩], behind := t.2.2 + 1 } := by
      refine F4.pnd h1q h2.refs ?_ hsi
      have h3 : Pnd (upd (upd H2 g1 (.lst [.str (Str.ofString "("), .str (Str.ofString "["), .str (Str.ofString "{")])) q (.lst [.str ⟨#[cl]⟩, .int ((r : Int) + 1), .int ((j : Int) + 1)])) (ps ++ [V.ref q]) (⟨t.1, t.2.1, r + 1, j + 1⟩ :: s1.br) :=
        Pnd.push (b := ⟨t.1, t.2.1, r + 1, j + 1⟩) (h2.same (same_new hq _)) upd_same hcm (by rw [hcv, hw]; rfl)
      exact h3
    refine ⟨_, rfl, three3, fun g2 hg2 => ?_⟩
    refine ⟨g2, CLS.map fun l => V.str (S l), rfl, .inl (SqL.of (by rw [upd_same, ← hdC])), rfl, flat_strs CLS, _, rfl, ?_⟩
    refine iteF' ((eIn CLS).trans (decide_eq_false (opn_cls hO1))) ?_
    have nbp : ba ≠ pa := F.ne
    have sg2 := same_new hg2 (.lst [.str (Str.ofString ")"), .str (Str.ofString "]"), .str (Str.ofString "}")])
    exact hO _ t.2.2 _ _ _ _ hts t1 t2 (F5.same sg2) (sg2 _ _ (by rw [upd_ne nbp]; exact s4 _ _ hB)) (by show s1.marks ++ [_] ≠ []; simp)
  refine iteF' ((eIn OPN).trans (decide_eq_false hO1)) ?_
  refine ⟨_, rfl, three3, fun g2 hg2 => ?_⟩
  have s4 := s3.trans (same_new hg2 (.lst [.str (Str.ofString ")"), .str (Str.ofString "]"), .str (Str.ofString "}")]))
  refine ⟨g2, CLS.map fun l => V.str (S l), rfl, .inl (SqL.of (by rw [upd_same, ← hdC])), rfl, flat_strs CLS, _, rfl, ?_⟩
  by_cases hC1 : word l j t.2.2 ∈ CLS
  · refine iteT' ((eIn CLS).trans (decide_eq_true hC1)) ?_
    have hk : isSg t.1 = true := by
      cases h : isSg t.1 with
      | true => rfl
      | false => exact absurd hC1 (sb2 h).2
    have hw := sb1 hk
    obtain ⟨o, ho⟩ : ∃ o, cloV (word l j t.2.2) = some o := by
      have := cloV_in (word l j t.2.2)
      rw [decide_eq_true hC1] at this
      cases h : cloV (word l j t.2.2) with
      | none => rw [h] at this; cases this
      | some o => exact ⟨o, rfl⟩
    have hg0 : gatherP ⟨t.1, t.2.1, r + 1, j + 1⟩ s1 = (match s1.br with
        | [] => (.error (.token, r + 1, j + 1) : Except Er3 Sc)
        | b :: rs => if wl b.w = o then .ok { s1 with many := s1.many + 1, br := rs } else .error (.token, r + 1, j + 1)).map (addM ⟨t.1, t.2.1, r + 1, j + 1⟩) := by
      unfold gatherP
      rw [if_neg hmy, if_pos hk]
      unfold matchBr
      dsimp only
      rw [hw, if_neg (show ¬ wl (.s (word l j t.2.2)) ∈ OPN from hO1)]
      have ho' : cloV (wl (.s (word l j t.2.2))) = some o := ho
      simp only [ho']
      all_goals (cases s1.br <;> rfl)
    have F4 := F.same s4
    obtain ⟨ps, h1, h2⟩ := F4.pn
    have hps : ps.length ≤ 120 := by
      have := F.si.brl; have := F.si.my; rw [h2.1]; omega
    refine ⟨_, rfl, by show 0 ≤ sizeLine; omega, fun e0 he0 => ?_⟩
    have s5 := s4.trans (same_new he0 (.lst []))
    have h1e := (same_new he0 (.lst [])) _ _ h1
    have h2e := h2.same (same_new he0 (.lst []))
    obtain ⟨ds, hds, hsh, hnil⟩ : ∃ ds : List PyData, DpAll K _ ps ds ∧ SeqAt.shaped (.list ds) = true ∧ PyData.eqv (.list ds) (.list []) = decide (ps = []) := h2e.data
    refine ⟨.list ds, .list [], .lst (SqL.of h1e) hds, .lst (SqL.of upd_same) .nil, hsh, by decide, _, rfl, ?_⟩
    rw [hnil]
    cases hbr : s1.br with
    | nil =>
      rw [hbr] at hg0 h2
      have hpn : ps = [] := List.eq_nil_of_length_eq_zero h2.1
      rw [hg0] at hts
      refine iteT' (decide_eq_true hpn) ?_
      refine ⟨_, rfl, _, _, rfl, rfl, _, rfl, _, _, rfl, rfl, three3, fun q hq => ?_⟩
      have := err _ .token (j + 1) _ q hts rfl s5 hq
      rw [← z.1] at this
      exact this
    | cons b rs =>
      rw [hbr] at hg0 h2 h2e
      have hpn : ps ≠ [] := fun z2 => by rw [z2] at h2; have := h2.1; simp at this
      refine iteF' (decide_eq_false hpn) ?_
      obtain ⟨a, c, ps', hpe, hpr, ha, hcm, hcv⟩ := h2e.top
      have etop : atI ps (-1) = some (V.ref a) := by rw [hpe]; exact atI_last _ _
      refine ⟨_, rfl, 1, rfl, pa, _, -1, _, rfl, rfl, SqL.of h1e, etop, a, _, 0, _, rfl, rfl, SqL.of ha, atI_nat (j := 0) rfl, _, rfl, rfl, _, rfl, ?_⟩
      have ecmp : (!decide (V.str (S c) = V.str (S (word l j t.2.2)))) = !decide (wl b.w = o) := by
        rw [str_dec]
        have inj : ∀ x ∈ CLS, ∀ y ∈ CLS, (cloV x = cloV y ↔ x = y) := by decide
        have := inj c hcm _ hC1
        rw [hcv, ho] at this
        by_cases h : c = word l j t.2.2
        · rw [decide_eq_true h, decide_eq_true (Option.some.inj (this.mpr h))]
        · rw [decide_eq_false h, decide_eq_false (fun z2 => h (this.mp (by rw [z2])))]
      by_cases hwo : wl b.w = o
      · refine iteF' (ecmp.trans (by rw [decide_eq_true hwo]; rfl)) ?_
        have hg : gatherP ⟨t.1, t.2.1, r + 1, j + 1⟩ s1 = .ok (addM ⟨t.1, t.2.1, r + 1, j + 1⟩ { s1 with many := s1.many + 1, br := rs }) := by rw [hg0]; dsimp only; rw [if_pos hwo]; rfl
        rw [hg] at hts
        have hsi := (tokS_ok hj F.si hts).2.2.1
        refine ⟨_, rfl, .inl ⟨rfl, _, SqL.of h1e⟩, pa, _, V.ref a, rfl, rfl, h1e, by rw [hpe]; simp, ?_⟩
        have F5 := (F.same s5).pnd (s' := { s1 with many := s1.many + 1, br := rs, marks := s1.marks ++ [⟨t.1, t.2.1, r + 1, j + 1⟩], behind := t.2.2 + 1 }) (ps' := ps.dropLast) h1e h2.refs (by rw [hpe, List.dropLast_concat]; exact hpr) hsi
        have nbp : ba ≠ pa := F.ne
        exact hO _ t.2.2 _ _ _ _ hts t1 t2 F5 (by show upd _ pa _ ba = _; rw [upd_ne nbp]; exact s5 _ _ hB) (by show s1.marks ++ [_] ≠ []; simp)
      · refine iteT' (ecmp.trans (by rw [decide_eq_false hwo]; rfl)) ?_
        have hg : gatherP ⟨t.1, t.2.1, r + 1, j + 1⟩ s1 = .error (.token, r + 1, j + 1) := by rw [hg0]; dsimp only; rw [if_neg hwo]; rfl
        rw [hg] at hts
        refine ⟨_, rfl, _, _, rfl, rfl, _, rfl, _, _, rfl, rfl, three3, fun q hq => ?_⟩
        have := err _ .token (j + 1) _ q hts rfl s5 hq
        rw [← z.1] at this
        exact this
  refine iteF' ((eIn CLS).trans (decide_eq_false hC1)) ?_
  have hg : gatherP ⟨t.1, t.2.1, r + 1, j + 1⟩ s1 = .ok (addM ⟨t.1, t.2.1, r + 1, j + 1⟩ { s1 with many := s1.many + 1 }) := by
    unfold gatherP
    rw [if_neg hmy]
    by_cases hk : isSg t.1 = true
    · rw [if_pos hk]
      have hw := sb1 hk
      unfold matchBr
      dsimp only
      rw [hw]
      rw [if_neg (show ¬ wl (.s (word l j t.2.2)) ∈ OPN from hO1)]
      have hn : cloV (wl (.s (word l j t.2.2))) = none := by
        have := cloV_in (word l j t.2.2)
        rw [decide_eq_false hC1] at this
        show cloV (word l j t.2.2) = none
        cases h : cloV (word l j t.2.2) with
        | none => rfl
        | some o => rw [h] at this; cases this
      rw [hn]
      rfl
    · rw [if_neg hk]
  rw [hg] at hts
  have hsi := (tokS_ok hj F.si hts).2.2.1
  have F4 := F.same s4
  obtain ⟨ps, h1, h2⟩ := F4.pn
  exact hO _ t.2.2 _ _ _ _ hts t1 t2 ⟨⟨ps, h1, h2⟩, hsi, F.ne, F4.sm, F.b0, F.p0⟩ (s4 _ _ hB) (by show s1.marks ++ [_] ≠ []; simp)
end
end D0
namespace D0
open PySem PySem.Spec PyProof.Rows L2 SX NumText
section
variable {P : Program} {w : World} {K : PySem.W.Frag} {mg : Str → Option Value} {base : Heap}
theorem tok_blk (T : Txt K w mg) (Ox : OkD P w K mg base CX0 2 "_law_extent" p__law_extent spExtent) (Ob : OkD P w K mg base CX0 1 "_law_block_fault" p__law_block_fault spBlock) {f : Addr} {cdv : Value} {A : Around} {outer : List Env} {s : Shared} {H : Hp} {E : XK} (hr : Room 2 (A.deeper (envOfC "_law_first_fault" (defScope s__law_first_fault) s.heap.objs.size f cdv))) :
    ∃ t, PSs (cxOf CX0 P w K mg base n__law_first_fault "_law_first_fault" (defScope s__law_first_fault) f cdv A outer s H E).nox (ib (fBody.getD 1 (.Pass ⟨0, 0, 0, 0⟩))) t ∧
      ∀ (D : Ends) (H0 H1 : Hp) (ra ba pa : Addr) (rows : List (List Nat)) (s1 : Sc) (bs : List Nat) (r j : Nat) (l : List Nat) (up : V) (y1 y2 y3 : Option V), RowsAt K H0 ra rows → rows[r]? = some l → l.length ≤ 120 → j < l.length → FP H0 H1 ba pa s1 → Blk H1 ba bs → BlkR s1 bs →
        (∀ e, stepR l (r + 1) j s1 = .error e → ∀ H' p, Same H0 H' → H0 p = none → H' p = some (.lst (eV e)) → D.rt (.ref p) H') →
        (∀ s2 u H' (y1 y2 y3 : Option V), stepR l (r + 1) j s1 = .ok (twl spc l u, s2) → j + 1 ≤ u → u ≤ l.length → FP H0 H' ba pa s2 → Blk H' ba s2.ind → s2.marks ≠ [] →
          D.nx [some (.ref ra), some (.ref ba), some (.ref pa), some (.int (s2.many : Nat)), some (.int (r : Nat)), some (.int (u : Nat)), some (.int (j : Nat)), y1, y2, y3] H') →
        t D [some (.ref ra), some (.ref ba), some (.ref pa), some (.int (s1.many : Nat)), some (.int (r : Nat)), some up, some (.int (j : Nat)), y1, y2, y3] H1 := by
  obtain ⟨t, ht, hg⟩ := tok_part (P := P) (w := w) (base := base) (outer := outer) (H := H) (E := E) T Ox hr
  refine ⟨_, pss_cons (ps_if (pt_cmpR op_eq (pv 3) pe_int (nomark _)) (pss_cons (ps_set (i := 7) sc__law_first_fault.nd rfl (.inl rfl) (pcall Ob hr (pa_cons (pv 1) (pa_cons (pv 6) pa_nil))))
      (pss_one (ps_if (pt_cmpR op_ne (pv 7) pe_str (nomark _)) (pss_one (ps_ret (pe_lst (pa_cons (pv 7) (pa_cons (pe_op op_add (pv 4) pe_int) (pa_cons (pe_op op_add (pv 6) pe_int) pa_nil)))))) pss_nil))) pss_nil) ht, ?_⟩
  intro D H0 H1 ra ba pa rows s1 bs r j l up y1 y2 y3 hR hrow hl hj F hB hbr hE hO
  have z : Str.ofString "" = S (erL none) := by decide +kernel
  have three3 : 3 ≤ sizeLine := by decide
  refine ⟨_, rfl, rfl, _, rfl, iteD (b := decide (V.int ((s1.many : Nat) : Int) = V.int ((0 : Nat) : Int))) (fun c => ?_) (fun c => ?_)⟩
  · rw [int_dec] at c
    have c := of_decide_eq_true c
    obtain ⟨k1, k2⟩ := begin_block (r := r) (w := j) hbr F.si
    have hI : bs = [] ∨ Ind bs := by
      rcases hbr with ⟨_, h, _⟩ | ⟨_, h⟩
      · exact .inl h
      · rw [h]; exact .inr F.si.ind
    refine ⟨_, rfl, _, rfl, ba, bs, j, rfl, hB, hI, fun H2 hB2 kp => ?_⟩
    have hbeg : beg (r + 1) j s1 = beginLine (r + 1) (j + 1) s1 := by unfold beg; rw [if_pos c]
    refine ⟨_, rfl, rfl, _, rfl, ?_⟩
    cases hf : (lawBlock bs j).1 with
    | some er =>
      have hst : stepR l (r + 1) j s1 = .error (er, r + 1, j + 1) := by unfold stepR; rw [hbeg, k1 er hf]; rfl
      refine iteT' (by rw [z, str_dec]; cases er <;> rfl) ?_
      refine ⟨_, rfl, _, rfl, _, _, rfl, rfl, _, rfl, _, _, rfl, rfl, three3, fun q hq => ?_⟩
      have s2 : Same H0 H2 := fun b o e => kp b o (fun z2 => by rw [z2, F.b0] at e; cases e) (F.sm _ _ e)
      exact hE _ hst _ q (s2.trans (same_new hq _)) (s2.free hq) (by rw [upd_same]; rfl)
    | none =>
      obtain ⟨s2, e1, e2, e3, e4⟩ := k2 hf
      refine iteF' (by rw [z, str_dec, decide_eq_true rfl]; rfl) ?_
      have hst : stepR l (r + 1) j s1 = tokS l (r + 1) j s2 := by unfold stepR; rw [hbeg, e1]; rfl
      have hs2 := (begin_ok e1 F.si).1
      have F2 : FP H0 H2 ba pa s2 := F.blk hB kp e3 hs2
      rw [← e4]
      refine hg D H0 H2 ra ba pa rows s2 r j l up _ y2 y3 (hR.same F2.sm) hrow hl hj F2 (by rw [e2]; exact hB2) (fun e he H' p sm hp hpp => ?_) (fun s3 u H' z1 z2 z3 he h1 h2 F3 B3 m3 => hO s3 u H' z1 z2 z3 (by rw [hst]; exact he) h1 h2 F3 B3 m3)
      exact hE e (by rw [hst]; exact he) H' p (F2.sm.trans sm) (F2.sm.free hp) hpp
  · rw [int_dec] at c
    have c := of_decide_eq_false c
    have hst : stepR l (r + 1) j s1 = tokS l (r + 1) j s1 := by unfold stepR beg; rw [if_neg c]; rfl
    have hBi : Blk H1 ba s1.ind := by
      rcases hbr with ⟨_, _, _, h4⟩ | ⟨_, h⟩
      · exact absurd h4 c
      · rw [← h]; exact hB
    refine hg D H0 H1 ra ba pa rows s1 r j l up y1 y2 y3 (hR.same F.sm) hrow hl hj F hBi (fun e he H' p sm hp hpp => ?_) (fun s3 u H' z1 z2 z3 he h1 h2 F3 B3 m3 => hO s3 u H' z1 z2 z3 (by rw [hst]; exact he) h1 h2 F3 B3 m3)
    exact hE e (by rw [hst]; exact he) H' p (F.sm.trans sm) (F.sm.free hp) hpp
theorem ok__law_first_fault (T : Txt K w mg) (Ox : OkD P w K mg base CX0 2 "_law_extent" p__law_extent spExtent) (Ob : OkD P w K mg base CX0 1 "_law_block_fault" p__law_block_fault spBlock) : OkD P w K mg base CX0 3 "_law_first_fault" p__law_first_fault (spFirst K) := by
  refine T.g__law_first_fault.ok sc__law_first_fault (fun vs H Q E h => ?_) (fun f cdv A outer sh H vs Q E hr h => ?_)
  · obtain ⟨ra, rows, rfl, _⟩ := h; rfl
  obtain ⟨ra, rows, rfl, hR, hrl, hl120, hE, hO⟩ := h
  obtain ⟨tk, htk, hgk⟩ := tok_blk (P := P) (w := w) (base := base) (outer := outer) (H := H) (E := E) T Ox Ob hr
  have z : Str.ofString "#" = S [35] ∧ Str.ofString " " = S [32] ∧ Str.ofString "BadToken" = S (erL (some .token)) := by decide +kernel
  have lim : (1000100 : Nat) ≤ sizeLine := by decide
  have three3 : 3 ≤ sizeLine := by omega
  obtain ⟨te, hte, hge⟩ : ∃ t, PSs (cxOf CX0 P w K mg base n__law_first_fault "_law_first_fault" (defScope s__law_first_fault) f cdv A outer sh H E).nox (List.drop 2 (fb ((defBody s__law_first_fault).getD 3 (.Pass ⟨0, 0, 0, 0⟩)))) t ∧
      ∀ (D : Ends) (s : Sc) (bs : List Nat) (ba pa : Addr) (ln : Nat) (y4 y5 y6 y7 y8 y9 : Option V) (H1 : Hp), FP H H1 ba pa s → Blk H1 ba bs → BlkR s bs →
        (∀ H', FP H H' ba pa (fin ln s) → Blk H' ba bs → BlkR (fin ln s) bs → (0 < (fin ln s).many → (fin ln s).br ≠ []) → D.nx [some (.ref ra), some (.ref ba), some (.ref pa), some (.int ((fin ln s).many : Nat)), y4, y5, y6, y7, y8, y9] H') →
        t D [some (.ref ra), some (.ref ba), some (.ref pa), some (.int (s.many : Nat)), y4, y5, y6, y7, y8, y9] H1 := by
    refine ⟨_, (pss_one (ps_if (pt_cmpR (op_eqD hr.units) (pv 2) (pe_lst pa_nil) (nomark _)) (pss_one (ps_set (i := 3) sc__law_first_fault.nd rfl (.inl rfl) pe_int)) pss_nil)), ?_⟩
    intro D s bs ba pa ln y4 y5 y6 y7 y8 y9 H1 F hB hbr hD
    refine ⟨_, rfl, by show 0 ≤ sizeLine; omega, fun e0 he0 => ?_⟩
    have s5 := same_new he0 (.lst [])
    obtain ⟨ps, h1, h2⟩ := (F.same s5).pn
    obtain ⟨ds, hds, hsh, hnil⟩ := h2.data (K := K)
    refine ⟨.list ds, .list [], .lst (SqL.of h1) hds, .lst (SqL.of upd_same) .nil, hsh, by decide, _, rfl, ?_⟩
    rw [hnil]
    have hpe : (ps = []) ↔ s.br = [] := ⟨fun h => List.eq_nil_of_length_eq_zero (by rw [← h2.1, h]; rfl), fun h => List.eq_nil_of_length_eq_zero (by rw [h2.1, h]; rfl)⟩
    have F5 := F.same s5
    by_cases hb : s.br = []
    · refine iteT' (decide_eq_true (hpe.mpr hb)) ?_
      by_cases hm : 0 < s.many
      · have ef : fin ln s = endLine ln s := by unfold fin; rw [if_pos ⟨hm, hb⟩]
        rw [ef] at hD
        have si2 : SI (endLine ln s) := ⟨F.si.ind, F.si.il, F.si.brw, by show s.br.length ≤ 0; rw [hb]; exact Nat.le_refl _, Nat.zero_le _⟩
        refine hD _ ⟨F5.pn, si2, F5.ne, F5.sm, F5.b0, F5.p0⟩ (s5 _ _ hB) ?_ (fun h => by have h : 0 < 0 := h; omega)
        rcases hbr with ⟨_, _, _, h4⟩ | ⟨_, h⟩
        · omega
        · exact .inr ⟨by show s.marks ++ [_] ≠ []; simp, h⟩
      · have ef : fin ln s = s := by unfold fin; rw [if_neg (fun z => hm z.1)]
        rw [ef] at hD
        have := hD _ F5 (s5 _ _ hB) hbr (fun h => absurd h hm)
        rw [show s.many = 0 by omega] at this
        exact this
    · refine iteF' (decide_eq_false (fun z2 => hb (hpe.mp z2))) ?_
      have ef : fin ln s = s := by unfold fin; rw [if_neg (fun z => hb z.2)]
      rw [ef] at hD
      exact hD _ F5 (s5 _ _ hB) hbr (fun _ => hb)
  refine ⟨_, (pss_cons (ps_set (i := 1) sc__law_first_fault.nd rfl (.inl rfl) (pe_lst pa_nil))
      (pss_cons (ps_set (i := 2) sc__law_first_fault.nd rfl (.inl rfl) (pe_lst pa_nil))
      (pss_cons (ps_set (i := 3) sc__law_first_fault.nd rfl (.inl rfl) pe_int)
      (pss_cons (ps_for PassesOwn.never rfl (pi_range1 rfl T.z_range (pa_cons (pe_callB call_len_seq (by rfl) T.z_len PySem.boot_len (pa_cons (pv 0) pa_nil)) pa_nil)) (pg_name (i := 4) sc__law_first_fault.nd rfl (Or.inl rfl)) (pss_cons (ps_set (i := 5) sc__law_first_fault.nd rfl (.inl rfl) pe_int) (pss_cons
      (ps_for PassesOwn.never rfl (pi_range1 rfl T.z_range (pa_cons (pe_callB call_len_str (by rfl) T.z_len PySem.boot_len (pa_cons (pe_ix ix_list (pv 0) (pv 4) (fun _ _ => rfl)) pa_nil)) pa_nil)) (pg_name (i := 6) sc__law_first_fault.nd rfl (Or.inl rfl)) (pss_cons (ps_if (PW.pt (pw_and (pt_cmpR op_ge (pv 6) (pv 5) (nomark _)) (pw_and1 (pt_cmpR op_eq (pe_ix ix_str (pe_ix ix_list (pv 0) (pv 4) (fun _ _ => rfl)) (pv 6) (fun _ _ => rfl)) pe_str (nomark _))))) (pss_one ps_break) pss_nil)
      (pss_one (ps_if (PW.pt (pw_and (pt_cmpR op_ge (pv 6) (pv 5) (nomark _)) (pw_and1 (pt_cmpR op_ne (pe_ix ix_str (pe_ix ix_list (pv 0) (pv 4) (fun _ _ => rfl)) (pv 6) (fun _ _ => rfl)) pe_str (nomark _))))) htk pss_nil)))) hte)))
      (pss_cons (ps_if (pt_cmpR (op_neD hr.units) (pv 2) (pe_lst pa_nil) (nomark _)) (pss_one (ps_ret (pe_lst (pa_cons pe_str (pa_cons (pe_ix ix_list (pe_ix ix_list (pv 2) (pe_un un_neg pe_int) (fun _ _ => rfl)) pe_int (fun _ _ => rfl)) (pa_cons (pe_ix ix_list (pe_ix ix_list (pv 2) (pe_un un_neg pe_int) (fun _ _ => rfl)) pe_int (fun _ _ => rfl)) pa_nil)))))) pss_nil)
      (pss_one (ps_ret (pe_lst pa_nil)))))))), ?_⟩
  refine ⟨by show 0 ≤ sizeLine; omega, fun ba hba => ⟨by show 0 ≤ sizeLine; omega, fun pa hpa => ?_⟩⟩
  have s1 := same_new hba (.lst [])
  have s2 := s1.trans (same_new hpa (.lst []))
  have nbp : ba ≠ pa := ne_of_none upd_same hpa
  have F0 : FP H (upd (upd H ba (.lst [])) pa (.lst [])) ba pa sc0 := ⟨⟨[], upd_same, Pnd.nil⟩, SI0, nbp, s2, hba, s1.free hpa⟩
  have hlenR : (rows.map fun l => V.str (S l)).length = rows.length := List.length_map ..
  generalize hRR : (scanRows rows 1 sc0).bind endText = RR at hE hO
  refine ⟨_, rfl, ra, _, rfl, .inl (SqL.of (s2 _ _ hR.at_)), _, rfl, by omega, by omega, ?_⟩
  refine for_range (lo := 0) (n := (((rows.map fun l => V.str (S l)).length : Nat) : Int).toNat) (fun i σ H' => ∃ (s : Sc) (bs : List Nat) (y4 y5 y6 y7 y8 y9 : Option V), σ = [some (.ref ra), some (.ref ba), some (.ref pa), some (.int (s.many : Nat)), y4, y5, y6, y7, y8, y9] ∧
      RR = (scanRows (rows.drop i) (i + 1) s).bind endText ∧ FP H H' ba pa s ∧ Blk H' ba bs ∧ BlkR s bs ∧ (0 < s.many → s.br ≠ []))
    ⟨sc0, [], none, none, none, none, none, none, rfl, hRR.symm, F0, by show upd _ pa _ ba = _; rw [upd_ne nbp, upd_same]; rfl, .inl ⟨rfl, rfl, rfl, rfl⟩, (fun h => by have h : 0 < 0 := h; omega)⟩ ?_ ?_
  · rintro i σ H1 hi ⟨s, bs, y4, y5, y6, y7, y8, y9, rfl, hRi, F, hB, hbr, hmb⟩
    have hil : i < rows.length := by omega
    have hrow : rows[i]? = some rows[i] := List.getElem?_eq_getElem hil
    have hdr : rows.drop i = rows[i] :: rows.drop (i + 1) := List.drop_eq_getElem_cons hil
    have hl := hl120 _ (List.getElem_mem hil)
    rw [hdr] at hRi
    generalize rows[i] = l at *
    have assoc : ∀ (x : Except Er3 Sc) (g h : Sc → Except Er3 Sc), (x.bind g).bind h = x.bind fun s => (g s).bind h := fun x g h => by cases x <;> rfl
    obtain ⟨cont, hcont⟩ : ∃ cont : Sc → Except Er3 Sc, cont = fun s' => (scanRows (rows.drop (i + 1)) (i + 1 + 1) s').bind endText := ⟨_, rfl⟩
    have hRi : RR = ((runRow l (i + 1) (l.length + 1) (twl spc l 0) s).map (fin (i + 1))).bind cont := by
      rw [hRi, hcont]
      show ((scanRow l (i + 1) s).bind (scanRows (rows.drop (i + 1)) (i + 1 + 1))).bind endText = _
      rw [assoc]; rfl
    have hS : (S l).length ≤ sizeLine := by rw [S_len]; omega
    have grow : atI (rows.map fun l => V.str (S l)) ((i : Nat) : Int) = some (.str (S l)) := atI_nat (by rw [List.getElem?_map, hrow]; rfl)
    rw [Int.zero_add]
    refine ⟨_, rfl, _, rfl, ra, _, _, .str (S l), rfl, rfl, SqL.of (F.sm _ _ hR.at_), grow, _, rfl, hS, _, rfl, by omega, by rw [S_len]; omega, ?_⟩
    rw [S_len]
    -- behind the row
    have rowend : ∀ (D : Ends) (s : Sc) (bs : List Nat) (y4 y5 y6 y7 y8 y9 : Option V) (H2 : Hp), FP H H2 ba pa s → Blk H2 ba bs → BlkR s bs → RR = cont (fin (i + 1) s) →
        (∀ σ H', (∃ (s : Sc) (bs : List Nat) (y4 y5 y6 y7 y8 y9 : Option V), σ = [some (.ref ra), some (.ref ba), some (.ref pa), some (.int (s.many : Nat)), y4, y5, y6, y7, y8, y9] ∧ RR = (scanRows (rows.drop (i + 1)) (i + 1 + 1) s).bind endText ∧ FP H H' ba pa s ∧ Blk H' ba bs ∧ BlkR s bs ∧ (0 < s.many → s.br ≠ [])) → D.nx σ H') →
        te D [some (.ref ra), some (.ref ba), some (.ref pa), some (.int (s.many : Nat)), y4, y5, y6, y7, y8, y9] H2 := fun D s bs y4 y5 y6 y7 y8 y9 H2 F2 B2 R2 hx hD =>
      hge D s bs ba pa (i + 1) y4 y5 y6 y7 y8 y9 H2 F2 B2 R2 (fun H' F3 B3 R3 m3 => hD _ H' ⟨_, bs, _, _, _, _, _, _, rfl, by rw [hx, hcont], F3, B3, R3, m3⟩)
    refine for_range (lo := 0) (n := ((l.length : Nat) : Int).toNat) (fun j σ H' => ∃ (s : Sc) (bs : List Nat) (u fu : Nat) (y6 y7 y8 y9 : Option V), σ = [some (.ref ra), some (.ref ba), some (.ref pa), some (.int (s.many : Nat)), some (.int (i : Nat)), some (.int (u : Nat)), y6, y7, y8, y9] ∧
        RR = ((runRow l (i + 1) fu (twl spc l (max j u)) s).map (fin (i + 1))).bind cont ∧ l.length < twl spc l (max j u) + fu ∧ u ≤ l.length ∧ FP H H' ba pa s ∧ Blk H' ba bs ∧ BlkR s bs)
      ⟨s, bs, 0, l.length + 1, y6, y7, y8, y9, rfl, hRi, by omega, Nat.zero_le _, F, hB, hbr⟩ ?_ ?_
    · rintro j σ H2 hj ⟨s, bs, u, fu, y6, y7, y8, y9, rfl, hRj, hfu, hul, F, hB, hbr⟩
      have hjl : j < l.length := by omega
      have gj : l[j]? = some l[j] := List.getElem?_eq_getElem hjl
      rw [Int.zero_add]
      have hSq := SqL.of (K := K) (F.sm _ _ hR.at_)
      have eu : decide ((u : Int) ≤ (j : Int)) = decide (u ≤ j) := by
        by_cases h : u ≤ j
        · rw [decide_eq_true h, decide_eq_true (by omega)]
        · rw [decide_eq_false h, decide_eq_false (by omega)]
      refine ⟨_, rfl, _, rfl, _, _, rfl, rfl, _, rfl, ?_⟩
      by_cases hu : u ≤ j
      · refine iteT' (eu.trans (decide_eq_true hu)) ?_
        rw [show max j u = j by omega] at hRj hfu
        generalize hc : l[j] = c at gj
        have e35 : decide (V.str (S [c]) = V.str (Str.ofString "#")) = decide (c = 35) := by rw [z.1, one_dec]
        have e32 : (!decide (V.str (S [c]) = V.str (Str.ofString " "))) = !decide (c = 32) := by rw [z.2.1, one_dec]
        refine ⟨_, rfl, _, rfl, ra, _, _, .str (S l), rfl, rfl, hSq, grow, _, rfl, S l, j, c, rfl, rfl, hS, at_S gj, rfl, _, rfl, ?_⟩
        by_cases c35 : c = 35
        · refine iteT' (e35.trans (decide_eq_true c35)) ?_
          have ht : twl spc l j = j := twl_stop (f := spc) gj (by rw [c35]; rfl)
          rw [ht, runRow_stop (by rw [here_at gj, c35]; rfl)] at hRj
          exact rowend _ s bs _ _ _ _ _ _ H2 F hB hbr hRj (fun σ H' h => h)
        refine iteF' (e35.trans (decide_eq_false c35)) ?_
        refine ⟨_, rfl, _, rfl, _, _, rfl, rfl, _, rfl, iteT' (eu.trans (decide_eq_true hu)) ?_⟩
        refine ⟨_, rfl, _, rfl, ra, _, _, .str (S l), rfl, rfl, hSq, grow, _, rfl, S l, j, c, rfl, rfl, hS, at_S gj, rfl, _, rfl, ?_⟩
        by_cases c32 : c = 32
        · refine iteF' (e32.trans (by rw [decide_eq_true c32]; rfl)) ?_
          have ht : twl spc l j = twl spc l (j + 1) := twl_step (f := spc) gj (by rw [c32]; rfl)
          rw [ht] at hRj hfu
          exact ⟨s, bs, u, fu, _, _, _, _, rfl, by rw [show max (j + 1) u = j + 1 by omega]; exact hRj, by rw [show max (j + 1) u = j + 1 by omega]; exact hfu, hul, F, hB, hbr⟩
        · refine iteT' (e32.trans (by rw [decide_eq_false c32]; rfl)) ?_
          have ht : twl spc l j = j := twl_stop (f := spc) gj (by unfold spc; exact beq_eq_false_iff_ne.mpr c32)
          rw [ht] at hRj hfu
          obtain ⟨f2, rfl⟩ : ∃ f2, fu = f2 + 1 := ⟨fu - 1, by omega⟩
          have hh : here l j = true := by rw [here_at gj, decide_eq_false c35]; rfl
          have hstep : runRow l (i + 1) (f2 + 1) j s = (stepR l (i + 1) j s).bind fun r => runRow l (i + 1) f2 r.1 r.2 := by
            show (if here l j = true then _ else _) = _
            rw [if_pos hh]
          rw [hstep] at hRj
          refine hgk _ H H2 ra ba pa rows s bs i j l _ _ _ _ hR hrow hl hjl F hB hbr (fun e he H' p sm hp hpp => ?_) (fun s2 u2 H' z1 z2 z3 he h1 h2 F3 B3 m3 => ?_)
          · rw [he] at hRj
            exact hE e hRj H' p sm hp hpp
          · rw [he] at hRj
            have hge := twl_ge (f := spc) l u2
            exact ⟨s2, s2.ind, u2, f2, _, _, _, _, rfl, by rw [show max (j + 1) u2 = u2 by omega]; exact hRj, by rw [show max (j + 1) u2 = u2 by omega]; omega, h2, F3, B3, .inr ⟨m3, rfl⟩⟩
      · refine iteF' (eu.trans (decide_eq_false hu)) ?_
        refine ⟨_, rfl, _, rfl, _, _, rfl, rfl, _, rfl, iteF' (eu.trans (decide_eq_false hu)) ?_⟩
        have e1 : max (j + 1) u = max j u := by omega
        exact ⟨s, bs, u, fu, _, _, _, _, rfl, by rw [e1]; exact hRj, by rw [e1]; exact hfu, hul, F, hB, hbr⟩
    · rintro σ H2 ⟨s, bs, u, fu, y6, y7, y8, y9, rfl, hRj, hfu, hul, F, hB, hbr⟩
      have hmx : max ((l.length : Nat) : Int).toNat u = l.length := by omega
      rw [hmx, twl_end, runRow_stop (here_false (Nat.lt_irrefl _))] at hRj
      exact rowend _ s bs _ _ _ _ _ _ H2 F hB hbr hRj (fun σ H' h => h)
  · rintro σ H1 ⟨s, bs, y4, y5, y6, y7, y8, y9, rfl, hRi, F, hB, hbr, hmb⟩
    have hn : (((rows.map fun l => V.str (S l)).length : Nat) : Int).toNat = rows.length := by omega
    rw [hn, List.drop_length] at hRi
    have hRi : RR = endText s := hRi
    refine ⟨_, rfl, by show 0 ≤ sizeLine; omega, fun e0 he0 => ?_⟩
    have s5 := same_new he0 (.lst [])
    have F5 := F.same s5
    obtain ⟨ps, h1, h2⟩ := F5.pn
    obtain ⟨ds, hds, hsh, hnil⟩ := h2.data (K := K)
    refine ⟨.list ds, .list [], .lst (SqL.of h1) hds, .lst (SqL.of upd_same) .nil, hsh, by decide, _, rfl, ?_⟩
    rw [hnil]
    unfold endText at hRi
    cases hb : s.br with
    | nil =>
      rw [hb] at h2 hRi
      have hpn : ps = [] := List.eq_nil_of_length_eq_zero h2.1
      refine iteF' (by rw [decide_eq_true hpn]; rfl) ?_
      refine ⟨by show 0 ≤ sizeLine; omega, fun q hq => ?_⟩
      exact hO _ hRi _ q (F5.sm.trans (same_new hq _)) (F5.sm.free hq) upd_same
    | cons b rs =>
      rw [hb] at h2 hRi
      have hpn : ps ≠ [] := fun z2 => by rw [z2] at h2; have := h2.1; simp at this
      refine iteT' (by rw [decide_eq_false hpn]; rfl) ?_
      obtain ⟨a, c, ps', hpe, hpr, ha, hcm, hcv⟩ := h2.top
      have etop : atI ps (-1) = some (V.ref a) := by rw [hpe]; exact atI_last _ _
      refine ⟨_, rfl, 1, rfl, pa, _, -1, _, rfl, rfl, SqL.of h1, etop, a, _, 1, _, rfl, rfl, SqL.of ha, atI_nat (j := 1) rfl, ?_⟩
      refine ⟨_, rfl, 1, rfl, pa, _, -1, _, rfl, rfl, SqL.of h1, etop, a, _, 2, _, rfl, rfl, SqL.of ha, atI_nat (j := 2) rfl, three3, fun q hq => ?_⟩
      refine hE _ hRi _ q (F5.sm.trans (same_new hq _)) (F5.sm.free hq) ?_
      rw [upd_same, z.2.2]; rfl
end
end D0
namespace D0
open PySem PySem.Spec PyProof.Rows L2 SX NumText
theorem spl_no : ∀ (l acc : List Nat), (∀ c ∈ acc, c ≠ 10) → ∀ r ∈ TL.spl [10] 0 acc l, ∀ c ∈ r, c ≠ 10
  | [], acc, h, r, hr => by
    have : r = acc := by simpa [TL.spl] using hr
    subst this; exact h
  | c :: t, acc, h, r, hr => by
    unfold TL.spl at hr
    split at hr
    · rcases List.mem_cons.mp hr with rfl | hr
      · exact h
      · exact spl_no t [] (fun c hc => by cases hc) r hr
    · rename_i hp
      refine spl_no t (acc ++ [c]) (fun x hx => ?_) r hr
      rcases List.mem_append.mp hx with hx | hx
      · exact h x hx
      · rw [List.mem_singleton.mp hx]
        intro z
        exact hp (by rw [z]; simp [TL.pre])
theorem all_row {c : Nat} (h : c ≠ 10) : decide (c ∈ allL) = rowc c := by
  by_cases hc : c < 128
  · have : ∀ c < 128, c ≠ 10 → decide (c ∈ allL) = rowc c := by decide +kernel
    exact this c hc h
  · have h1 : c ∉ allL := fun hm => by
      have : ∀ x ∈ allL, x < 128 := by decide
      exact hc (this c hm)
    rw [decide_eq_false h1]
    unfold rowc
    rw [decide_eq_false (by omega)]
def eVo : Except Er3 (List Mk) → List V
  | .error e => eV e
  | .ok _ => []
def spFault : Sp := fun vs H Q _ => ∃ (l : List Nat), vs = [.str (S l)] ∧ l.length ≤ big ∧ ∀ H' p, Same H H' → H p = none → H' p = some (.lst (eVo (tokensP l))) → Q (.ref p) H'
section
variable {P : Program} {w : World} {K : PySem.W.Frag} {mg : Str → Option Value} {base : Heap}
theorem ok__law_fault (T : Txt K w mg) (Oa : OkD P w K mg base CX0 1 "_law_allowed" p__law_allowed (spConst allL)) (Of : OkD P w K mg base CX0 3 "_law_first_fault" p__law_first_fault (spFirst K)) : OkD P w K mg base CX0 4 "_law_fault" p__law_fault spFault := by
  refine T.g__law_fault.ok sc__law_fault (fun vs H Q E h => ?_) (fun f cdv A outer s H vs Q E hr h => ?_)
  · obtain ⟨l, rfl, _⟩ := h; rfl
  obtain ⟨l, rfl, hl, q⟩ := h
  have hl' : l.length ≤ 1000000 := hl
  have zn : Str.ofString "\n" = S [10] ∧ Str.ofString "TooLong" = S (erL (some .long)) ∧ Str.ofString "BadSign" = S (erL (some .sign)) := by decide +kernel
  have lim : (1100000 : Nat) ≤ sizeLine := by decide
  have three3 : 3 ≤ sizeLine := by omega
  refine ⟨_, (pss_cons (ps_set (i := 1) sc__law_fault.nd rfl (.inl rfl) (pe_split (pv 0) pe_str))
      (pss_cons (ps_set (i := 2) sc__law_fault.nd rfl (.inl rfl) (pcall0 Oa hr))
      (pss_cons (ps_if (pt_cmpR op_gt (pe_callB call_len_str (by rfl) T.z_len PySem.boot_len (pa_cons (pv 0) pa_nil)) pe_int (nomark _)) (pss_one (ps_ret (pe_lst (pa_cons pe_str (pa_cons pe_int (pa_cons pe_int pa_nil)))))) pss_nil)
      (pss_cons (ps_for PassesOwn.never rfl (pi_range1 rfl T.z_range (pa_cons (pe_callB call_len_seq (by rfl) T.z_len PySem.boot_len (pa_cons (pv 1) pa_nil)) pa_nil)) (pg_name (i := 3) sc__law_fault.nd rfl (Or.inl rfl)) (pss_one (ps_for PassesOwn.never rfl (pi_range1 rfl T.z_range (pa_cons (pe_callB call_len_str (by rfl) T.z_len PySem.boot_len (pa_cons (pe_ix ix_list (pv 1) (pv 3) (fun _ _ => rfl)) pa_nil)) pa_nil)) (pg_name (i := 4) sc__law_fault.nd rfl (Or.inl rfl))
      (pss_one (ps_if (pt_cmpR op_notIn_sign (pe_ix ix_str (pe_ix ix_list (pv 1) (pv 3) (fun _ _ => rfl)) (pv 4) (fun _ _ => rfl)) (pv 2) (by rfl)) (pss_one (ps_ret (pe_lst (pa_cons pe_str (pa_cons (pe_op op_add (pv 3) pe_int) (pa_cons (pe_op op_add (pv 4) pe_int) pa_nil)))))) pss_nil)))))
      (pss_cons (ps_for PassesOwn.never rfl (pi_range1 rfl T.z_range (pa_cons (pe_callB call_len_seq (by rfl) T.z_len PySem.boot_len (pa_cons (pv 1) pa_nil)) pa_nil)) (pg_name (i := 3) sc__law_fault.nd rfl (Or.inl rfl)) (pss_one (ps_if (pt_cmpR op_gt (pe_callB call_len_str (by rfl) T.z_len PySem.boot_len (pa_cons (pe_ix ix_list (pv 1) (pv 3) (fun _ _ => rfl)) pa_nil)) pe_int (nomark _)) (pss_one (ps_ret (pe_lst (pa_cons pe_str (pa_cons (pe_op op_add (pv 3) pe_int) (pa_cons pe_int pa_nil)))))) pss_nil)))
      (pss_one (ps_ret (pcall Of hr (pa_cons (pv 1) pa_nil))))))))), ?_⟩
  refine ⟨_, rfl, ⟨_, rfl⟩, S l, S [10], rfl, (by rw [zn.1]), rfl, ?_, fun p hp => ?_⟩
  · rw [S_len]; omega
  rw [split_S (by decide) (by decide)]
  show gName 1 _ _ _ _
  have ers : TL.spl [10] 0 [] l = rowsOf l := rfl
  rw [ers]
  obtain ⟨hcount, hlen⟩ := spl_count l []
  have hno := spl_no l [] (fun c hc => by cases hc)
  rw [ers] at hcount hlen hno
  have htok : tokensP l = (checkRows l).bind fun rs => (scanRows rs 1 sc0).bind fun s => (endText s).map Sc.marks := rfl
  have hck : checkRows l = if 6000 < l.length then .error (.long, 1, 1) else
    match badAt (rowsOf l) 1 with
    | some e => .error (.sign, e.1, e.2)
    | none => match longAt (rowsOf l) 1 with
      | some n => .error (.long, n, 121)
      | none => .ok (rowsOf l) := rfl
  generalize rowsOf l = rs at *
  have em : (rs.map S).map V.str = rs.map fun r => V.str (S r) := by rw [List.map_map]; rfl
  rw [em]
  have sm0 : Same H (upd H p (.lst (rs.map fun r => V.str (S r)))) := same_new hp _
  have hp1 : upd H p (.lst (rs.map fun r => V.str (S r))) p = some (.lst (rs.map fun r => V.str (S r))) := upd_same
  have hSq := SqL.of (K := K) hp1
  have hSq_at := hp1
  generalize upd H p (.lst (rs.map fun r => V.str (S r))) = H1 at *
  have hrl : (rs.map fun r => V.str (S r)).length = rs.length := List.length_map ..
  have ret : ∀ (e : Er3) (g : Addr), checkRows l = .error e → H1 g = none → Q (.ref g) (upd H1 g (.lst (eV e))) := fun e g he hg => by
    refine q _ g (sm0.trans (same_new hg _)) (sm0.free hg) ?_
    rw [upd_same, htok, he]; rfl
  refine ⟨rfl, ?_⟩
  have e1 : decide ((6000 : Int) < ((S l).length : Int)) = decide (6000 < l.length) := by rw [S_len]; exact lt_dec (a := 6000)
  refine ⟨_, rfl, _, rfl, S_line hl, _, _, rfl, rfl, _, rfl, ?_⟩
  by_cases c : 6000 < l.length
  · rw [if_pos c] at hck
    refine iteT' (e1.trans (decide_eq_true c)) ?_
    refine ⟨three3, fun g hg => ?_⟩
    have := ret _ g hck hg
    rw [zn.2.1]; exact this
  rw [if_neg c] at hck
  refine iteF' (e1.trans (decide_eq_false c)) ?_
  refine ⟨_, rfl, p, _, rfl, .inl hSq, _, rfl, by omega, by omega, ?_⟩
  refine for_range (lo := 0) (n := (((rs.map fun r => V.str (S r)).length : Nat) : Int).toNat) (fun i σ H' => ∃ (y3 y4 : Option V), σ = [some (.str (S l)), some (.ref p), some (.str (S allL)), y3, y4] ∧ H' = H1 ∧ ∀ r ∈ rs.take i, rowBad r = none) ⟨none, none, rfl, rfl, (fun r hr => by cases hr)⟩ ?_ ?_
  · rintro i σ H2 hi ⟨y3, y4, rfl, rfl, hn⟩
    have hil : i < rs.length := by omega
    have hrow : rs[i]? = some rs[i] := List.getElem?_eq_getElem hil
    have hl2 := hlen _ (List.getElem_mem hil)
    have hno2 := hno _ (List.getElem_mem hil)
    generalize rs[i] = r at *
    have hl3 : r.length ≤ 1000000 := by simp only [List.length_nil] at hl2; omega
    have hS : (S r).length ≤ sizeLine := by rw [S_len]; omega
    have grow : atI (rs.map fun l => V.str (S l)) ((i : Nat) : Int) = some (.str (S r)) := atI_nat (by rw [List.getElem?_map, hrow]; rfl)
    rw [Int.zero_add]
    refine ⟨_, rfl, _, rfl, p, _, _, .str (S r), rfl, rfl, hSq, grow, _, rfl, hS, _, rfl, by omega, by rw [S_len]; omega, ?_⟩
    rw [S_len]
    refine for_range (lo := 0) (n := ((r.length : Nat) : Int).toNat) (fun j σ H' => ∃ (y4 : Option V), σ = [some (.str (S l)), some (.ref p), some (.str (S allL)), some (.int (i : Nat)), y4] ∧ H' = H2 ∧ ∀ c ∈ r.take j, (!rowc c) = false) ⟨y4, rfl, rfl, (fun c hc => by cases hc)⟩ ?_ ?_
    · rintro j σ H3 hj ⟨y4, rfl, rfl, hn2⟩
      have hjl : j < r.length := by omega
      have gj : r[j]? = some r[j] := List.getElem?_eq_getElem hjl
      have hc10 := hno2 _ (List.getElem_mem hjl)
      generalize r[j] = ch at *
      rw [Int.zero_add]
      refine ⟨_, rfl, _, rfl, p, _, _, .str (S r), rfl, rfl, hSq, grow, _, rfl, S r, j, ch, rfl, rfl, hS, at_S gj, _, rfl, ch, _, rfl, rfl, _, rfl, ?_⟩
      have e3 : (!decide (ch ∈ (S allL).cps.toList)) = !rowc ch := by rw [← all_row hc10]
      cases hrc : rowc ch with
      | false =>
        have hb := badAt_at (n := 1) hrow (idx_at gj (by rw [hrc]; rfl) hn2) hn
        rw [hb] at hck
        refine iteT' (e3.trans (by rw [hrc]; rfl)) ?_
        refine ⟨_, rfl, _, _, rfl, rfl, _, rfl, _, _, rfl, rfl, three3, fun g hg => ?_⟩
        have := ret _ g hck hg
        rw [zn.2.2]
        have e4 : eV (.sign, 1 + i, j + 1) = [.str (S (erL (some .sign))), .int ((i : Int) + 1), .int ((j : Int) + 1)] := by
          unfold eV; dsimp only
          rw [show ((1 + i : Nat) : Int) = (i : Int) + 1 by omega]; rfl
        have this : Q (.ref g) (upd H3 g (.lst (eV (.sign, 1 + i, j + 1)))) := this
        rw [e4] at this
        exact this
      | true =>
        refine iteF' (e3.trans (by rw [hrc]; rfl)) ⟨_, rfl, rfl, fun c hc => ?_⟩
        rw [List.take_add_one, gj] at hc
        rcases List.mem_append.mp hc with hc | hc
        · exact hn2 c hc
        · have : c = ch := by simpa using hc
          rw [this, hrc]; rfl
    · rintro σ H3 ⟨y4, rfl, rfl, hn2⟩
      refine ⟨_, _, rfl, rfl, fun x hx => ?_⟩
      rw [List.take_add_one, hrow] at hx
      rcases List.mem_append.mp hx with hx | hx
      · exact hn x hx
      · have : x = r := by simpa using hx
        subst this
        refine idx_none fun c hc => hn2 c ?_
        rw [show ((x.length : Nat) : Int).toNat = x.length by omega, List.take_length]; exact hc
  · rintro σ H2 ⟨y3, y4, rfl, rfl, hn⟩
    rw [show (((rs.map fun r => V.str (S r)).length : Nat) : Int).toNat = rs.length by omega, List.take_length] at hn
    have hb := badAt_none (n := 1) hn
    rw [hb] at hck
    refine ⟨_, rfl, p, _, rfl, .inl hSq, _, rfl, by omega, by omega, ?_⟩
    refine for_range (lo := 0) (n := (((rs.map fun r => V.str (S r)).length : Nat) : Int).toNat) (fun i σ H' => ∃ (y3 : Option V), σ = [some (.str (S l)), some (.ref p), some (.str (S allL)), y3, y4] ∧ H' = H2 ∧ ∀ r ∈ rs.take i, ¬ 120 < r.length) ⟨y3, rfl, rfl, (fun r hr => by cases hr)⟩ ?_ ?_
    · rintro i σ H3 hi ⟨y3, rfl, rfl, hn2⟩
      have hil : i < rs.length := by omega
      have hrow : rs[i]? = some rs[i] := List.getElem?_eq_getElem hil
      have hl2 := hlen _ (List.getElem_mem hil)
      generalize rs[i] = r at *
      have hl3 : r.length ≤ 1000000 := by simp only [List.length_nil] at hl2; omega
      have hS : (S r).length ≤ sizeLine := by rw [S_len]; omega
      have grow : atI (rs.map fun l => V.str (S l)) ((i : Nat) : Int) = some (.str (S r)) := atI_nat (by rw [List.getElem?_map, hrow]; rfl)
      rw [Int.zero_add]
      have e3 : decide ((120 : Int) < ((S r).length : Int)) = decide (120 < r.length) := by rw [S_len]; exact lt_dec (a := 120)
      refine ⟨_, rfl, _, rfl, p, _, _, .str (S r), rfl, rfl, hSq, grow, _, rfl, hS, _, _, rfl, rfl, _, rfl, ?_⟩
      by_cases h120 : 120 < r.length
      · have hlo := longAt_at (n := 1) hrow h120 hn2
        rw [hlo] at hck
        refine iteT' (e3.trans (decide_eq_true h120)) ?_
        refine ⟨_, rfl, _, _, rfl, rfl, three3, fun g hg => ?_⟩
        have := ret _ g hck hg
        rw [zn.2.1]
        have e4 : eV (.long, 1 + i, 121) = [.str (S (erL (some .long))), .int ((i : Int) + 1), .int 121] := by
          unfold eV; dsimp only
          rw [show ((1 + i : Nat) : Int) = (i : Int) + 1 by omega]; rfl
        have this : Q (.ref g) (upd H3 g (.lst (eV (.long, 1 + i, 121)))) := this
        rw [e4] at this
        exact this
      · refine iteF' (e3.trans (decide_eq_false h120)) ⟨_, rfl, rfl, fun x hx => ?_⟩
        rw [List.take_add_one, hrow] at hx
        rcases List.mem_append.mp hx with hx | hx
        · exact hn2 x hx
        · have : x = r := by simpa using hx
          rw [this]; exact h120
    · rintro σ H3 ⟨y3, rfl, rfl, hn2⟩
      rw [show (((rs.map fun r => V.str (S r)).length : Nat) : Int).toNat = rs.length by omega, List.take_length] at hn2
      have hlo := longAt_none (n := 1) hn2
      rw [hlo] at hck
      refine ⟨_, rfl, p, rs, rfl, ⟨hSq_at, by show _ ≤ 1000000; omega, fun r hr => by have := hlen r hr; simp only [List.length_nil] at this; show _ ≤ 1000000; omega⟩, by omega, (fun r hr => by have := hn2 r hr; omega), fun e he H' g sm hg hgp => ?_, fun s2 he H' g sm hg hgp => ?_⟩
      · have ht : tokensP l = .error e := by
          rw [htok, hck]
          show ((scanRows rs 1 sc0).bind fun s => (endText s).map Sc.marks) = .error e
          cases hx : scanRows rs 1 sc0 with
          | error e2 => rw [hx] at he; exact congrArg Except.error (Except.error.inj he)
          | ok s3 =>
            rw [hx] at he
            have he : endText s3 = .error e := he
            show (endText s3).map Sc.marks = _
            rw [he]; rfl
        exact q H' g (sm0.trans sm) (sm0.free hg) (by rw [hgp, ht]; rfl)
      · have ht : ∃ ms, tokensP l = .ok ms := by
          rw [htok, hck]
          show ∃ ms, ((scanRows rs 1 sc0).bind fun s => (endText s).map Sc.marks) = .ok ms
          cases hx : scanRows rs 1 sc0 with
          | error e2 => rw [hx] at he; cases he
          | ok s3 =>
            rw [hx] at he
            have he : endText s3 = .ok s2 := he
            exact ⟨s2.marks, by show (endText s3).map Sc.marks = _; rw [he]; rfl⟩
        obtain ⟨ms, ht⟩ := ht
        exact q H' g (sm0.trans sm) (sm0.free hg) (by rw [hgp, ht]; rfl)
end
end D0
namespace D0
open PySem PySem.Spec PyProof.Rows L2 SX NumText
/-- the def's promise where p's object stands (the caught error) -/
structure FnP (P : Program) (w : World) (K : PySem.W.Frag) (mg : Str → Option Value) (base : Heap) (p : Addr × Obj) (k : Nat) (f : Addr) (fd : FuncData) (ps : List Str) (sp : Sp) : Prop where
  len : ∀ vs H Q E, sp vs H Q E → vs.length = ps.length
  run : ∀ (A : Around) (outer : List Env) (s : Shared) (H : Hp) (args : Args) (us : List Value) (vs : List V) (Q : VK) (E : XK), L2H.RoomH k A → L2H.PinOk outer H s p → Env0 P w K mg base A outer s H → BindsTo s fd args (ps.zip us) → Vals vs us → sp vs H Q E →
    codeAny (model P w) A (.call (.ref f) args) (CR CX0 outer P w H s Q E) s
theorem fn_ofP {P : Program} {w : World} {K : PySem.W.Frag} {mg : Str → Option Value} {base : Heap} {k : Nat} {f : Addr} {name qual : Str} {params : Arguments} {body : List Stmt} {scope : Scope} {dV kV doc pm cdv ct oc : Value} {an od : Option Addr}
    {osl : Array (Option Value)} {N ps : List Str} {sp : Sp} {p : Addr × Obj} (lk : K.lookup f = some ⟨oc, od, .func (PySem.W.fnOf name qual params body scope dV kV doc pm an cdv ct), osl⟩) (hcd : PySem.W.codeIn K cdv qual = true) (S : FnScope N ps scope)
    (len : ∀ vs H Q E, sp vs H Q E → vs.length = ps.length)
    (hbody : ∀ (A : Around) (outer : List Env) (s : Shared) (H : Hp) (vs : List V) (Q : VK) (E : XK), L2H.RoomH k (A.deeper (envOfC qual scope s.heap.objs.size f cdv)) → sp vs H Q E →
      ∃ t, PSs (L2H.cxH CX0 P w K mg base N qual scope f cdv A outer s H E p) body t ∧ t { nx := fun _ H' => Q .non H', rt := Q } (L2.start N vs) H) :
    FnP P w K mg base p (k + 1) f (PySem.W.fnOf name qual params body scope dV kV doc pm an cdv ct) ps sp := by
  refine ⟨len, fun A outer s H args us vs Q E hr hpin e0 hb r hsp => ?_⟩
  have hl := len _ _ _ _ hsp
  have KX : K.In s.heap := e0.mod.kin.keeps fun b o e => (e0.bs b o e).1
  have lim : s.heap.NoLimit := e0.mod.nolimit.keeps fun b o e => (e0.bs b o e).1
  have hkind : ∀ y ∈ ps.zip us, scope.names.lookup y.1 = some .local ∨ (scope.names.lookup y.1 = some .cell ∧ ((cellsFrom (s.heap.objs.size + 1) scope.names []).lookup y.1).isSome = true) := fun ⟨n, v⟩ hy => by
    rcases S.par n (List.of_mem_zip hy).1 with q | q
    · exact .inl q
    · exact .inr ⟨q, PySem.W.cellsFrom_some _ _ _ (.inl q)⟩
  refine codeAny_call_function hr.depth (KX _ _ lk) rfl S.co S.gen rfl (PySem.W.codeRec_of KX hcd) (hb _ _ _ _ ?_)
  refine wpAny_newFunctionEnv_cells S.kind hkind fun env he s1 x => ?_
  subst he
  refine ⟨lim.keeps x.toInCall.keep, codeAny_func ?_⟩
  obtain ⟨t, ht, hq⟩ := hbody A outer s H vs Q E (hr.deeper _) hsp
  have I : Inv (L2H.cxH CX0 P w K mg base N qual scope f cdv A outer s H E p) [] (L2.start N vs) H s1 := L2H.inv_startH S hpin e0 hl r x
  refine wpAny_mono (ht.run [] s1 (L2.start N vs) H _ I hq) (fun fl s' hs => ?_) fun e s' hs => hs
  have fin : ∀ {σ' : L2.St} {H' : Hp} {v : V} {u : Value}, Inv (L2H.cxH CX0 P w K mg base N qual scope f cdv A outer s H E p) [] σ' H' s' → RelV v u → Q v H' → CE outer P w H s Q u s' :=
    fun {σ' H' v u} J rv q => ⟨v, H', J.os, J.bare, J.base, J.hok, rv, q⟩
  cases fl with
  | ret u =>
    obtain ⟨v, σ', H', J, rv, q⟩ := hs
    exact fin J rv q
  | next =>
    obtain ⟨σ', H', J, q⟩ := hs
    exact fin (v := V.non) (u := Value.none) J rfl q
  | brk =>
    obtain ⟨_, _, _, q⟩ := hs
    exact False.elim q
  | cont =>
    obtain ⟨_, _, _, q⟩ := hs
    exact False.elim q
section
variable {X : Cx} {k : Nat} {f : Addr} {fd : FuncData} {ps : List Str} {sp : Sp} {x : Str} {q pos : Pos} {e : Expr} {es : List Expr} {t : TA} {p : Addr × Obj}
theorem run_fnP {pins : List (Addr × Obj)} {σ : L2.St} {H : Hp} {s : Shared} {Q : VK} {us : List Value} {vs : List V} (F : FnP X.prog X.w X.K X.mg X.base p k f fd ps sp) (hr : L2H.RoomH k X.A) (hp : p ∈ X.pn) (hb : Binds X.K fd ps [])
    (I : Inv X pins σ H s) (r : Vals vs us) (h : sp vs H Q E0) : wpAny (model X.prog X.w) X.A (call (.ref f) us) (EP X pins σ Q) X.xe s := by
  have hl : us.length = ps.length := by rw [← r.length]; exact F.len _ _ _ _ h
  have b := hb s us I.kIn (by rw [List.append_nil]; exact hl)
  rw [List.append_nil] at b
  have P1 := I.pin p (List.mem_append_left _ hp)
  have hpin : L2H.PinOk X.stack H s p := ⟨P1.1, P1.2.1, fun hm => (List.mem_cons.mp (I.stkSub p.1 hm)).elim P1.2.2.1 P1.2.2.2.1, P1.2.2.2.2⟩
  refine wpAny_call (codeAny_mono (F.run X.A X.stack s H ⟨us, []⟩ us vs Q E0 hr hpin I.env0 b r h) fun r s' hq => ?_)
  cases r with
  | error e => exact False.elim hq
  | ok fl =>
    cases fl with
    | ret u => exact I.after hq
    | next => exact False.elim hq
    | brk => exact False.elim hq
    | cont => exact False.elim hq
theorem pe_callP (F : FnP X.prog X.w X.K X.mg X.base p k f fd ps sp) (hr : L2H.RoomH k X.A) (hp : p ∈ X.pn) (hg : Gl X x) (hm : X.mg x = some (.ref f)) (hk : PySem.W.keepIn X.K (.ref f) = true) (hb : Binds X.K fd ps [])
    (ha : PA X (e :: es) t) (hdb : (x == ("__debug__" : Str)) = false := by decide) (he : starEach (e :: es) X.env = (false, eval e X.env) :: starEach es X.env := by rfl) (hpl : (backTo pos (starEach es X.env)).any (·.1) = false := by rfl) :
    PE X (.Call (.Name x q) (e :: es) [] pos) (fun σ H Q => t σ H fun vs H1 => sp vs H1 Q E0) := by
  refine ⟨fun pins s σ H Q I h => ?_⟩
  refine wpAny_Call_Name_kw (ld_glob I hg hm ?_ hdb)
  refine PySem.W.callWith_K (h₀ := X.base) I.ok.mod.kin hk (thn (ha.run pos pins s σ H _ I h) fun us s1 ⟨vs, H1, I1, r, q⟩ => ⟨I1.kIn, ?_⟩) he hpl
  exact run_fnP F hr hp hb I1 r q
end
/-- isinstance of the caught error: a its address, D its class, dd its dict -/
structure ExcD (K : PySem.W.Frag) (D : Addr) : Prop where
  cl : (PySem.W.clsIn K D).isSome = true
  hg : PySem.W.findIn K (.ref D) "__getattribute__" = some (some (.builtin "BaseException.__getattribute__"))
  hk : PySem.W.findIn K (.ref D) "__getattr__" = some none
  hs : PySem.W.subIn K (.ref D) (.type "BaseException") = some true
  hd : PySem.W.hasDictIn K D = true
  ha : PySem.W.findIn K (.ref D) "__class__" = some (some (.builtin "object.__class__"))
  hn : PySem.W.specialIn K (.builtin "object.__class__") "__get__" = some (some (.builtin "getset_descriptor.__get__"))
  ht : PySem.W.takesIn K (.builtin "object.__class__") = some true
  hm : PySem.W.mroIn K D (.type "object") = some true
def rIsP (K : PySem.W.Frag) (D a dd : Addr) : List V → Hp → VK → Prop := fun xs H Q => ∃ (c : V) (cv : Value) (b : Bool) (fs : List (Str × V)), xs = [.ref a, c] ∧ H dd = some (.xd fs) ∧ (∀ u, RelV c u → u = cv) ∧ PySem.W.kitOne K (.ref D) cv = some b ∧ Q (.bl b) H
theorem call_isP {X : Cx} {a D dd : Addr} {oe : Obj} (C : ExcD X.K D) (hz : Zc (.ref D) (some dd) oe) (hf : ∃ vs, oe.data = .fields vs) (hp : (a, oe) ∈ X.pn) : CallR X (.builtin "isinstance") (rIsP X.K D a dd) := by
  intro pins s σ H xs us Q I r h
  obtain ⟨c, cv, b, fs, rfl, hdd, hcv, e, q⟩ := h
  cases r with
  | cons rx rr =>
    cases rr with
    | cons rt rr =>
      cases rr
      cases rx
      have ec := hcv _ rt
      subst ec
      obtain ⟨hget, _⟩ := I.pin (a, oe) (List.mem_append.mpr (.inl hp))
      obtain ⟨vs, hv⟩ := hf
      have hx : ObjOk X.prog X.w H s.heap dd (.xd fs) := I.hok dd _ hdd
      obtain ⟨mA, hns, hr⟩ := hx
      obtain ⟨od, ho, hl⟩ := lookIn_ns hns
      have J : PySem.W.InstAt s.heap a oe D (some od) := ⟨hget, hz.1, by unfold PySem.W.notCls; rw [hv] <;> rfl, by rw [hz.2]; exact ho⟩
      exact PySem.W.kia_one (PySem.W.kitx_exc C.cl C.hg C.hk C.hs C.ha C.hn C.ht C.hm) I.kIn J e (fun z => nomatch z) fun tk => ⟨.bl b, H, I.kept (t' := tk) fun _ _ z => z, rfl, q⟩
def Er.eqb : Er → Er → Bool
  | .sign, .sign => true | .token, .token => true | .indent, .indent => true | .long, .long => true | .deep, .deep => true | _, _ => false
structure KitE (K : PySem.W.Frag) (mg : Str → Option Value) (ec : Er → Addr) (CY CO CL CS : Addr) : Prop where
  ex : ∀ k, ExcD K (ec k)
  kk : ∀ k j, PySem.W.kitOne K (.ref (ec k)) (.ref (ec j)) = some (k.eqb j)
  gY : mg "BadSyntax" = some (.ref CY)
  gO : mg "BadScope" = some (.ref CO)
  gL : mg "LikerunError" = some (.ref CL)
  gS : mg "SourceError" = some (.ref CS)
  kY : ∀ k, PySem.W.kitOne K (.ref (ec k)) (.ref CY) = some false
  kO : ∀ k, PySem.W.kitOne K (.ref (ec k)) (.ref CO) = some false
  kL : ∀ k, PySem.W.kitOne K (.ref (ec k)) (.ref CL) = some true
  kV : ∀ k, PySem.W.kitOne K (.ref (ec k)) (.type "ValueError") = some true
  eS : ∀ k, PySem.W.exmOne K (.ref (ec k)) (.ref CS) = some true
def spClasses (k : Er) (a dd : Addr) : Sp := fun vs H Q _ => ∃ fs, vs = [.ref a] ∧ H dd = some (.xd fs) ∧ ∀ H' q, Same H H' → H q = none → H' q = some (.lst [.str (S (erL (some k)))]) → Q (.ref q) H'
def spWholeP : Sp := fun vs H Q _ => ∃ (i : Int), vs = [.int i] ∧ Q (.bl true) H
section
variable {P : Program} {w : World} {K : PySem.W.Frag} {mg : Str → Option Value} {base : Heap} {ec : Er → Addr} {CY CO CL CS : Addr}
theorem okP_whole (T : Txt K w mg) (p : Addr × Obj) : ∃ f fd, mg "_law_whole" = some (.ref f) ∧ PySem.W.keepIn K (.ref f) = true ∧ Binds K fd p__law_whole [] ∧ FnP P w K mg base p 1 f fd p__law_whole spWholeP := by
  obtain ⟨f, fd, F, hm, hb⟩ := T.g__law_whole
  obtain ⟨oc, od, kV, doc, pm, an, cdv, ct, osl, rfl, lk, hcd⟩ := F.ex
  refine ⟨f, _, hm, F.kp, hb, fn_ofP lk hcd sc__law_whole (fun vs H Q E h => ?_) (fun A outer s H vs Q E hr h => ?_)⟩
  · obtain ⟨i, rfl, _⟩ := h; rfl
  obtain ⟨i, rfl, q⟩ := h
  refine ⟨_, (pss_one (ps_ret (pe_and (pe_callB call_isi (by rfl) T.z_isinstance PyProof.Rows.boot_isinstance (pa_cons (pv 0) (pa_cons (pe_bltn (v := .ty "int") rfl T.z_int PyProof.Rows.boot_int rfl) pa_nil))) (pe_one (pe_not (pe_callB call_isi (by rfl) T.z_isinstance PyProof.Rows.boot_isinstance (pa_cons (pv 0) (pa_cons (pe_bltn (v := .ty "bool") rfl T.z_bool PyProof.Rows.boot_bool rfl) pa_nil)))))))), ?_⟩
  refine ⟨_, rfl, _, _, _, _, _, rfl, .ty _, .base (.int i), kit_ty (by decide +kernel : kitB "int" "int" = some true), _, rfl, ?_⟩
  exact iteT ⟨_, rfl, _, _, _, _, _, rfl, .ty _, .base (.int i), kit_ty (by decide +kernel : kitB "int" "bool" = some false), _, rfl, q⟩
theorem okP_classes (T : Txt K w mg) (ER : ErrT P w K mg base ec) (U : KitE K mg ec CY CO CL CS) (k : Er) (a dd : Addr) (oe : Obj) (hz : Zc (.ref (ec k)) (some dd) oe) (hf : ∃ vs, oe.data = .fields vs) :
    ∃ f fd, mg "_law_classes" = some (.ref f) ∧ PySem.W.keepIn K (.ref f) = true ∧ Binds K fd p__law_classes [] ∧ FnP P w K mg base (a, oe) 1 f fd p__law_classes (spClasses k a dd) := by
  obtain ⟨f, fd, F, hm, hb⟩ := T.g__law_classes
  obtain ⟨oc, od, kV, doc, pm, an, cdv, ct, osl, rfl, lk, hcd⟩ := F.ex
  refine ⟨f, _, hm, F.kp, hb, fn_ofP lk hcd sc__law_classes (fun vs H Q E h => ?_) (fun A outer s H vs Q E hr h => ?_)⟩
  · obtain ⟨fs, rfl, _⟩ := h; rfl
  obtain ⟨fs, rfl, hdd, q⟩ := h
  refine ⟨_, (pss_cons (ps_set (i := 1) sc__law_classes.nd rfl (.inl rfl) (pe_lst pa_nil))
      (pss_cons (ps_if (pt_val (pe_callB (call_isP (U.ex k) hz hf List.mem_cons_self) (by rfl) T.z_isinstance PyProof.Rows.boot_isinstance (pa_cons (pv 0) (pa_cons (pe_glob rfl (ER.gl .sign) (show RelV (.ref (ec .sign)) _ from rfl)) pa_nil)))) (pss_one (ps_expr (pe_bm PySem.F.plainAttrs_list PySem.F.slot_list_append PySem.F.type_list_append mt_append (pv 1) (pa_cons pe_str pa_nil)))) pss_nil)
      (pss_cons (ps_if (pt_val (pe_callB (call_isP (U.ex k) hz hf List.mem_cons_self) (by rfl) T.z_isinstance PyProof.Rows.boot_isinstance (pa_cons (pv 0) (pa_cons (pe_glob rfl (ER.gl .token) (show RelV (.ref (ec .token)) _ from rfl)) pa_nil)))) (pss_one (ps_expr (pe_bm PySem.F.plainAttrs_list PySem.F.slot_list_append PySem.F.type_list_append mt_append (pv 1) (pa_cons pe_str pa_nil)))) pss_nil)
      (pss_cons (ps_if (pt_val (pe_callB (call_isP (U.ex k) hz hf List.mem_cons_self) (by rfl) T.z_isinstance PyProof.Rows.boot_isinstance (pa_cons (pv 0) (pa_cons (pe_glob rfl (ER.gl .indent) (show RelV (.ref (ec .indent)) _ from rfl)) pa_nil)))) (pss_one (ps_expr (pe_bm PySem.F.plainAttrs_list PySem.F.slot_list_append PySem.F.type_list_append mt_append (pv 1) (pa_cons pe_str pa_nil)))) pss_nil)
      (pss_cons (ps_if (pt_val (pe_callB (call_isP (U.ex k) hz hf List.mem_cons_self) (by rfl) T.z_isinstance PyProof.Rows.boot_isinstance (pa_cons (pv 0) (pa_cons (pe_glob rfl (ER.gl .long) (show RelV (.ref (ec .long)) _ from rfl)) pa_nil)))) (pss_one (ps_expr (pe_bm PySem.F.plainAttrs_list PySem.F.slot_list_append PySem.F.type_list_append mt_append (pv 1) (pa_cons pe_str pa_nil)))) pss_nil)
      (pss_cons (ps_if (pt_val (pe_callB (call_isP (U.ex k) hz hf List.mem_cons_self) (by rfl) T.z_isinstance PyProof.Rows.boot_isinstance (pa_cons (pv 0) (pa_cons (pe_glob rfl (ER.gl .deep) (show RelV (.ref (ec .deep)) _ from rfl)) pa_nil)))) (pss_one (ps_expr (pe_bm PySem.F.plainAttrs_list PySem.F.slot_list_append PySem.F.type_list_append mt_append (pv 1) (pa_cons pe_str pa_nil)))) pss_nil)
      (pss_cons (ps_if (PW.pt (pw_or (pt_val (pe_callB (call_isP (U.ex k) hz hf List.mem_cons_self) (by rfl) T.z_isinstance PyProof.Rows.boot_isinstance (pa_cons (pv 0) (pa_cons (pe_glob rfl U.gY (show RelV (.ref CY) _ from rfl)) pa_nil))))
      (pw_or1 (pt_val (pe_callB (call_isP (U.ex k) hz hf List.mem_cons_self) (by rfl) T.z_isinstance PyProof.Rows.boot_isinstance (pa_cons (pv 0) (pa_cons (pe_glob rfl U.gO (show RelV (.ref CO) _ from rfl)) pa_nil))))))) (pss_one (ps_expr (pe_bm PySem.F.plainAttrs_list PySem.F.slot_list_append PySem.F.type_list_append mt_append (pv 1) (pa_cons pe_str pa_nil)))) pss_nil)
      (pss_cons (ps_if (PW.pt (pw_or (pt_not (pt_val (pe_callB (call_isP (U.ex k) hz hf List.mem_cons_self) (by rfl) T.z_isinstance PyProof.Rows.boot_isinstance (pa_cons (pv 0) (pa_cons (pe_glob rfl U.gL (show RelV (.ref CL) _ from rfl)) pa_nil)))))
      (pw_or1 (pt_not (pt_val (pe_callB (call_isP (U.ex k) hz hf List.mem_cons_self) (by rfl) T.z_isinstance PyProof.Rows.boot_isinstance (pa_cons (pv 0) (pa_cons (pe_bltn (v := .ty "ValueError") rfl T.z_ValueError (by decide +kernel) rfl) pa_nil)))))))) (pss_one (ps_expr (pe_bm PySem.F.plainAttrs_list PySem.F.slot_list_append PySem.F.type_list_append mt_append (pv 1) (pa_cons pe_str pa_nil)))) pss_nil)
      (pss_one (ps_ret (pv 1))))))))))), ?_⟩
  have zn : Str.ofString "BadSign" = S (erL (some .sign)) ∧ Str.ofString "BadToken" = S (erL (some .token)) ∧ Str.ofString "BadIndent" = S (erL (some .indent)) ∧ Str.ofString "TooLong" = S (erL (some .long)) ∧ Str.ofString "TooDeep" = S (erL (some .deep)) := by decide +kernel
  have lim : (1000 : Nat) ≤ sizeLine := by decide
  refine ⟨by show 0 ≤ sizeLine; omega, fun p hp => ?_⟩
  have s1 := same_new hp (.lst [])
  have np : dd ≠ p := ne_of_none hdd hp
  have hd1 := s1 _ _ hdd
  have hd2 : ∀ x : V, upd (upd H p (.lst [])) p (.lst ([] ++ [x])) dd = some (.xd fs) := fun x => by rw [upd_ne np]; exact hd1
  have fin : ∀ x : V, x = .str (S (erL (some k))) → Q (.ref p) (upd (upd H p (.lst [])) p (.lst ([] ++ [x]))) := fun x hx => by
    rw [upd_upd]
    exact q _ p (same_new hp _) hp (by rw [upd_same, hx]; rfl)
  have kk := U.kk k
  have kY := U.kY k
  have kO := U.kO k
  have kL := U.kL k
  have kV := U.kV k
  cases k with
  | sign =>
    refine ⟨_, rfl, .ref (ec .sign), .ref (ec .sign), _, fs, rfl, hd1, (fun u h => h), kk .sign, _, rfl, ?_⟩
    refine iteT' rfl ?_
    refine ⟨_, rfl, .inl ⟨rfl, _, SqL.of upd_same⟩, p, _, _, rfl, rfl, upd_same, by show 0 < sizeLine; omega, ?_⟩
    refine ⟨_, rfl, .ref (ec .token), .ref (ec .token), _, fs, rfl, hd2 _, (fun u h => h), kk .token, _, rfl, ?_⟩
    refine iteF' rfl ?_
    refine ⟨_, rfl, .ref (ec .indent), .ref (ec .indent), _, fs, rfl, hd2 _, (fun u h => h), kk .indent, _, rfl, ?_⟩
    refine iteF' rfl ?_
    refine ⟨_, rfl, .ref (ec .long), .ref (ec .long), _, fs, rfl, hd2 _, (fun u h => h), kk .long, _, rfl, ?_⟩
    refine iteF' rfl ?_
    refine ⟨_, rfl, .ref (ec .deep), .ref (ec .deep), _, fs, rfl, hd2 _, (fun u h => h), kk .deep, _, rfl, ?_⟩
    refine iteF' rfl ?_
    refine ⟨_, rfl, .ref CY, .ref CY, _, fs, rfl, hd2 _, (fun u h => h), kY, _, rfl, iteF' rfl ?_⟩
    refine ⟨_, rfl, .ref CO, .ref CO, _, fs, rfl, hd2 _, (fun u h => h), kO, _, rfl, iteF' rfl ?_⟩
    refine ⟨_, rfl, .ref CL, .ref CL, _, fs, rfl, hd2 _, (fun u h => h), kL, _, rfl, iteF' rfl ?_⟩
    refine ⟨_, rfl, .ty "ValueError", .type "ValueError", _, fs, rfl, hd2 _, (fun u h => h), kV, _, rfl, iteF' rfl ?_⟩
    exact ⟨_, rfl, fin _ (by rw [zn.1])⟩
  | token =>
    refine ⟨_, rfl, .ref (ec .sign), .ref (ec .sign), _, fs, rfl, hd1, (fun u h => h), kk .sign, _, rfl, ?_⟩
    refine iteF' rfl ?_
    refine ⟨_, rfl, .ref (ec .token), .ref (ec .token), _, fs, rfl, hd1, (fun u h => h), kk .token, _, rfl, ?_⟩
    refine iteT' rfl ?_
    refine ⟨_, rfl, .inl ⟨rfl, _, SqL.of upd_same⟩, p, _, _, rfl, rfl, upd_same, by show 0 < sizeLine; omega, ?_⟩
    refine ⟨_, rfl, .ref (ec .indent), .ref (ec .indent), _, fs, rfl, hd2 _, (fun u h => h), kk .indent, _, rfl, ?_⟩
    refine iteF' rfl ?_
    refine ⟨_, rfl, .ref (ec .long), .ref (ec .long), _, fs, rfl, hd2 _, (fun u h => h), kk .long, _, rfl, ?_⟩
    refine iteF' rfl ?_
    refine ⟨_, rfl, .ref (ec .deep), .ref (ec .deep), _, fs, rfl, hd2 _, (fun u h => h), kk .deep, _, rfl, ?_⟩
    refine iteF' rfl ?_
    refine ⟨_, rfl, .ref CY, .ref CY, _, fs, rfl, hd2 _, (fun u h => h), kY, _, rfl, iteF' rfl ?_⟩
    refine ⟨_, rfl, .ref CO, .ref CO, _, fs, rfl, hd2 _, (fun u h => h), kO, _, rfl, iteF' rfl ?_⟩
    refine ⟨_, rfl, .ref CL, .ref CL, _, fs, rfl, hd2 _, (fun u h => h), kL, _, rfl, iteF' rfl ?_⟩
    refine ⟨_, rfl, .ty "ValueError", .type "ValueError", _, fs, rfl, hd2 _, (fun u h => h), kV, _, rfl, iteF' rfl ?_⟩
    exact ⟨_, rfl, fin _ (by rw [zn.2.1])⟩
  | indent =>
    refine ⟨_, rfl, .ref (ec .sign), .ref (ec .sign), _, fs, rfl, hd1, (fun u h => h), kk .sign, _, rfl, ?_⟩
    refine iteF' rfl ?_
    refine ⟨_, rfl, .ref (ec .token), .ref (ec .token), _, fs, rfl, hd1, (fun u h => h), kk .token, _, rfl, ?_⟩
    refine iteF' rfl ?_
    refine ⟨_, rfl, .ref (ec .indent), .ref (ec .indent), _, fs, rfl, hd1, (fun u h => h), kk .indent, _, rfl, ?_⟩
    refine iteT' rfl ?_
    refine ⟨_, rfl, .inl ⟨rfl, _, SqL.of upd_same⟩, p, _, _, rfl, rfl, upd_same, by show 0 < sizeLine; omega, ?_⟩
    refine ⟨_, rfl, .ref (ec .long), .ref (ec .long), _, fs, rfl, hd2 _, (fun u h => h), kk .long, _, rfl, ?_⟩
    refine iteF' rfl ?_
    refine ⟨_, rfl, .ref (ec .deep), .ref (ec .deep), _, fs, rfl, hd2 _, (fun u h => h), kk .deep, _, rfl, ?_⟩
    refine iteF' rfl ?_
    refine ⟨_, rfl, .ref CY, .ref CY, _, fs, rfl, hd2 _, (fun u h => h), kY, _, rfl, iteF' rfl ?_⟩
    refine ⟨_, rfl, .ref CO, .ref CO, _, fs, rfl, hd2 _, (fun u h => h), kO, _, rfl, iteF' rfl ?_⟩
    refine ⟨_, rfl, .ref CL, .ref CL, _, fs, rfl, hd2 _, (fun u h => h), kL, _, rfl, iteF' rfl ?_⟩
    refine ⟨_, rfl, .ty "ValueError", .type "ValueError", _, fs, rfl, hd2 _, (fun u h => h), kV, _, rfl, iteF' rfl ?_⟩
    exact ⟨_, rfl, fin _ (by rw [zn.2.2.1])⟩
  | long =>
    refine ⟨_, rfl, .ref (ec .sign), .ref (ec .sign), _, fs, rfl, hd1, (fun u h => h), kk .sign, _, rfl, ?_⟩
    refine iteF' rfl ?_
    refine ⟨_, rfl, .ref (ec .token), .ref (ec .token), _, fs, rfl, hd1, (fun u h => h), kk .token, _, rfl, ?_⟩
    refine iteF' rfl ?_
    refine ⟨_, rfl, .ref (ec .indent), .ref (ec .indent), _, fs, rfl, hd1, (fun u h => h), kk .indent, _, rfl, ?_⟩
    refine iteF' rfl ?_
    refine ⟨_, rfl, .ref (ec .long), .ref (ec .long), _, fs, rfl, hd1, (fun u h => h), kk .long, _, rfl, ?_⟩
    refine iteT' rfl ?_
    refine ⟨_, rfl, .inl ⟨rfl, _, SqL.of upd_same⟩, p, _, _, rfl, rfl, upd_same, by show 0 < sizeLine; omega, ?_⟩
    refine ⟨_, rfl, .ref (ec .deep), .ref (ec .deep), _, fs, rfl, hd2 _, (fun u h => h), kk .deep, _, rfl, ?_⟩
    refine iteF' rfl ?_
    refine ⟨_, rfl, .ref CY, .ref CY, _, fs, rfl, hd2 _, (fun u h => h), kY, _, rfl, iteF' rfl ?_⟩
    refine ⟨_, rfl, .ref CO, .ref CO, _, fs, rfl, hd2 _, (fun u h => h), kO, _, rfl, iteF' rfl ?_⟩
    refine ⟨_, rfl, .ref CL, .ref CL, _, fs, rfl, hd2 _, (fun u h => h), kL, _, rfl, iteF' rfl ?_⟩
    refine ⟨_, rfl, .ty "ValueError", .type "ValueError", _, fs, rfl, hd2 _, (fun u h => h), kV, _, rfl, iteF' rfl ?_⟩
    exact ⟨_, rfl, fin _ (by rw [zn.2.2.2.1])⟩
  | deep =>
    refine ⟨_, rfl, .ref (ec .sign), .ref (ec .sign), _, fs, rfl, hd1, (fun u h => h), kk .sign, _, rfl, ?_⟩
    refine iteF' rfl ?_
    refine ⟨_, rfl, .ref (ec .token), .ref (ec .token), _, fs, rfl, hd1, (fun u h => h), kk .token, _, rfl, ?_⟩
    refine iteF' rfl ?_
    refine ⟨_, rfl, .ref (ec .indent), .ref (ec .indent), _, fs, rfl, hd1, (fun u h => h), kk .indent, _, rfl, ?_⟩
    refine iteF' rfl ?_
    refine ⟨_, rfl, .ref (ec .long), .ref (ec .long), _, fs, rfl, hd1, (fun u h => h), kk .long, _, rfl, ?_⟩
    refine iteF' rfl ?_
    refine ⟨_, rfl, .ref (ec .deep), .ref (ec .deep), _, fs, rfl, hd1, (fun u h => h), kk .deep, _, rfl, ?_⟩
    refine iteT' rfl ?_
    refine ⟨_, rfl, .inl ⟨rfl, _, SqL.of upd_same⟩, p, _, _, rfl, rfl, upd_same, by show 0 < sizeLine; omega, ?_⟩
    refine ⟨_, rfl, .ref CY, .ref CY, _, fs, rfl, hd2 _, (fun u h => h), kY, _, rfl, iteF' rfl ?_⟩
    refine ⟨_, rfl, .ref CO, .ref CO, _, fs, rfl, hd2 _, (fun u h => h), kO, _, rfl, iteF' rfl ?_⟩
    refine ⟨_, rfl, .ref CL, .ref CL, _, fs, rfl, hd2 _, (fun u h => h), kL, _, rfl, iteF' rfl ?_⟩
    refine ⟨_, rfl, .ty "ValueError", .type "ValueError", _, fs, rfl, hd2 _, (fun u h => h), kV, _, rfl, iteF' rfl ?_⟩
    exact ⟨_, rfl, fin _ (by rw [zn.2.2.2.2])⟩
end
end D0
namespace D0
open PySem PySem.Spec PyProof.Rows L2 SX NumText
theorem pcallS {X : Cx} {CX : CXT} {k j : Nat} {ps : List Str} {sp : Sp} {E : L2.St → XK} {x : Str} {p pos : Pos} {e : Expr} {es : List Expr} {t : TA}
    (O : OkD X.prog X.w X.K X.mg X.base CX k x ps sp) (hr : Room j X.A) (hx : ∀ σ, PassesAt CX X σ (E σ)) (ha : PA X (e :: es) t) (hj : k ≤ j := by first | decide | omega) (hg : Gl X x := by rfl)
    (hdb : (x == ("__debug__" : Str)) = false := by decide) (he : starEach (e :: es) X.env = (false, eval e X.env) :: starEach es X.env := by rfl) (hpl : (backTo pos (starEach es X.env)).any (·.1) = false := by rfl) :
    PE X (.Call (.Name x p) (e :: es) [] pos) (tCallS sp E t) := by
  obtain ⟨f, fd, hm, hk, hb, _, F⟩ := O
  exact pe_callS F (hr.mono hj) hg hm hk hb hx ha hdb he hpl
theorem pss_cond {X : Cx} {b : List Stmt} {p : Prop} {t : TS} (h : p → PSs X b t) : PSs X b (fun D σ H => p ∧ t D σ H) := ⟨fun pins s σ H D I q => (h q.1).run pins s σ H D I q.2⟩
theorem pcallP {X : Cx} {k : Nat} {ps : List Str} {sp : Sp} {x : Str} {q pos : Pos} {e : Expr} {es : List Expr} {t : TA} {p : Addr × Obj}
    (O : ∃ f fd, X.mg x = some (.ref f) ∧ PySem.W.keepIn X.K (.ref f) = true ∧ Binds X.K fd ps [] ∧ FnP X.prog X.w X.K X.mg X.base p k f fd ps sp) (hr : L2H.RoomH k X.A) (hp : p ∈ X.pn) (ha : PA X (e :: es) t) (hg : Gl X x := by rfl)
    (hdb : (x == ("__debug__" : Str)) = false := by decide) (he : starEach (e :: es) X.env = (false, eval e X.env) :: starEach es X.env := by rfl) (hpl : (backTo pos (starEach es X.env)).any (·.1) = false := by rfl) :
    PE X (.Call (.Name x q) (e :: es) [] pos) (fun σ H Q => t σ H fun vs H1 => sp vs H1 Q E0) := by
  obtain ⟨f, fd, hm, hk, hb, F⟩ := O
  exact pe_callP F hr hp hg hm hk hb ha hdb he hpl
def spRaised : Sp := fun vs H Q _ => ∃ (l : List Nat) (e : Er3) (fa : Addr), vs = [.str (S l), .ref fa] ∧ l.length ≤ big ∧ H fa = some (.lst (eV e)) ∧ tokensP l = .error e ∧ ∀ H', Same H H' → Q (.bl true) H'
def hb2 : List Stmt → List Stmt
  | .Try _ [.ExceptHandler _ _ b _] _ _ _ :: _ => b
  | _ => []
section
variable {P : Program} {w : World} {K : PySem.W.Frag} {mg : Str → Option Value} {base : Heap} {ec : Er → Addr} {CY CO CL CS : Addr}
theorem raised_suite (T : Txt K w mg) (ER : ErrT P w K mg base ec) (U : KitE K mg ec CY CO CL CS) (XF : ∀ k, XfC K (ec k)) {f : Addr} {cdv : Value} {A : Around} {outer : List Env} {s : Shared} {H : Hp} {E : XK} (e : Er3) (l : List Nat) (fa : Addr) (hfa : H fa = some (.lst (eV e)))
    (hr : Room 6 (A.deeper (envOfC "_law_is_raised" (defScope s__law_is_raised) s.heap.objs.size f cdv))) (a dd : Addr) :
    ∃ t : TS, (∀ oe pn, Zc (.ref (ec e.1)) (some dd) oe → (∃ vs, oe.data = .fields vs) → PSs ((cxOf CX0 P w K mg base n__law_is_raised "_law_is_raised" (defScope s__law_is_raised) f cdv A outer s H E).nox.suite a ((a, oe) :: pn)) (hb2 (defBody s__law_is_raised)) t) ∧
      (∀ D H1, Same H H1 → H dd = none → H1 dd = some (.xd (xs2 (e.2.1 : Nat) (e.2.2 : Nat))) → (∀ H2, Same H H2 → D.rt (.bl true) H2) → t D [some (.str (S l)), some (.ref fa), some (.ref a)] H1) := by
  have hrm : L2H.RoomH 1 (A.deeper (envOfC "_law_is_raised" (defScope s__law_is_raised) s.heap.objs.size f cdv)) := ⟨(hr.mono (j := 1) (by decide)).dp, (hr.mono (j := 1) (by decide)).un⟩
  refine ⟨_, fun oe pn hz hf => (pss_cons (ps_if (PW.pt (pw_or (pt_not (pt_val (pcallP (okP_whole (P := P) (w := w) (base := base) T (a, oe)) ⟨hrm.dp, hrm.un⟩ List.mem_cons_self (pa_cons (pe_xf (XF e.1) (ER.nl e.1) hz hf (pv 2)) pa_nil))))
            (pw_or1 (pt_not (pt_val (pcallP (okP_whole (P := P) (w := w) (base := base) T (a, oe)) ⟨hrm.dp, hrm.un⟩ List.mem_cons_self (pa_cons (pe_xf (XF e.1) (ER.nc e.1) hz hf (pv 2)) pa_nil))))))) (pss_one (ps_ret pe_bl)) pss_nil)
      (pss_one (ps_ret (pe_and (pe_cmpR (show OpR _ _ (rEqD K) from op_eqD hr.units) (pcallP (okP_classes (base := base) T ER U e.1 a dd oe hz hf) ⟨hrm.dp, hrm.un⟩ List.mem_cons_self (pa_cons (pv 2) pa_nil)) (pe_lst (pa_cons (pe_ix (show IxR _ (rIxL K) from ix_list) (pv 1) pe_int (fun _ _ => rfl)) pa_nil)) (nomark _))
            (pe_one (pe_cmpR (show OpR _ _ (rEqD K) from op_eqD hr.units) (pe_lst (pa_cons (pe_xf (XF e.1) (ER.nl e.1) hz hf (pv 2)) (pa_cons (pe_xf (XF e.1) (ER.nc e.1) hz hf (pv 2)) pa_nil))) (pe_slice (show SlR _ (rSlL K) from sl_list) (pv 1) (po_some pe_int) po_none) (nomark _))))))), ?_⟩
  intro D H1 s1 nd hdd q
  have hfa1 := s1 _ _ hfa
  refine ⟨_, rfl, rfl, rfl, dd, _, _, rfl, hdd, rfl, _, rfl, _, rfl, iteF ?_⟩
  refine ⟨_, rfl, rfl, rfl, dd, _, _, rfl, hdd, rfl, _, rfl, _, rfl, iteF ?_⟩
  have lim : (1000 : Nat) ≤ sizeLine := by decide
  refine ⟨_, rfl, _, rfl, hdd, fun H2 p s2 hp hp2 => ?_⟩
  have hfa2 := s2 _ _ hfa1
  refine ⟨_, rfl, fa, eV e, 0, _, rfl, rfl, SqL.of hfa2, rfl, by show 1 ≤ sizeLine; omega, fun p3 hp3 => ?_⟩
  have hp3' : H2 p3 = none := hp3
  have s3 := same_new hp3' (.lst [V.str (S (erL (some e.1)))])
  have eok : ∀ k : Er, PyData.strOk (S (erL (some k))) = true := fun k => by cases k <;> decide +kernel
  have shp : SeqAt.shaped (.list [.str (S (erL (some e.1)))]) = true := by
    generalize e.1 = k
    cases k <;> decide +kernel
  refine ⟨.list [.str (S (erL (some e.1)))], .list [.str (S (erL (some e.1)))], .lst (SqL.of (s3 _ _ hp2)) (.cons (.str _) .nil), .lst (SqL.of upd_same) (.cons (.str _) .nil), shp, shp, _, rfl, ?_⟩
  have ev : PyData.eqv (.list [.str (S (erL (some e.1)))]) (.list [.str (S (erL (some e.1)))]) = true := by
    generalize e.1 = k
    cases k <;> decide +kernel
  rw [ev]
  refine iteT ?_
  have hdd3 : upd H2 p3 (.lst [V.str (S (erL (some e.1)))]) dd = some (.xd (xs2 (e.2.1 : Nat) (e.2.2 : Nat))) := s3 _ _ (s2 _ _ hdd)
  refine ⟨_, rfl, rfl, rfl, dd, _, _, rfl, hdd3, rfl, ?_⟩
  refine ⟨_, rfl, rfl, rfl, dd, _, _, rfl, hdd3, rfl, by show 2 ≤ sizeLine; omega, fun p4 hp4 => ?_⟩
  have s4 := same_new hp4 (.lst [V.int (e.2.1 : Nat), V.int (e.2.2 : Nat)])
  refine ⟨_, rfl, 1, rfl, fa, eV e, rfl, SqL.of (s4 _ _ (s3 _ _ hfa2)), fun p5 hp5 => ?_⟩
  have s5 := same_new hp5 (.lst (cutV (eV e) (some 1) none))
  have shi : SeqAt.shaped (.list [.int (e.2.1 : Nat), .int (e.2.2 : Nat)]) = true := rfl
  have evi : PyData.eqv (.list [.int (e.2.1 : Nat), .int (e.2.2 : Nat)]) (.list [.int (e.2.1 : Nat), .int (e.2.2 : Nat)]) = true := by
    show (((e.2.1 : Nat) : Int) == ((e.2.1 : Nat) : Int) && (((e.2.2 : Nat) : Int) == ((e.2.2 : Nat) : Int) && true)) = true
    rw [beq_self_eq_true, beq_self_eq_true] <;> rfl
  refine ⟨.list [.int (e.2.1 : Nat), .int (e.2.2 : Nat)], .list [.int (e.2.1 : Nat), .int (e.2.2 : Nat)], .lst (SqL.of (s5 _ _ upd_same)) (.cons (.int _) (.cons (.int _) .nil)), .lst (SqL.of upd_same) (.cons (.int _) (.cons (.int _) .nil)), shi, shi, ?_⟩
  rw [evi]
  exact q _ (s1.trans (s2.trans (s3.trans (s4.trans s5))))
theorem ok__law_is_raised (T : Txt K w mg) (ER : ErrT P w K mg base ec) (U : KitE K mg ec CY CO CL CS) (XF : ∀ k, XfC K (ec k)) (Ot : OkD P w K mg base (L2.CX P w) 6 "tokens" p_tokens (spTokens ec)) : OkD P w K mg base CX0 7 "_law_is_raised" p__law_is_raised spRaised := by
  refine T.g__law_is_raised.ok sc__law_is_raised (fun vs H Q E h => ?_) (fun f cdv A outer s H vs Q E hr h => ?_)
  · obtain ⟨l, e, fa, rfl, _⟩ := h; rfl
  obtain ⟨l, e, fa, rfl, hl, hfa, hte, q⟩ := h
  have SU := fun a dd => raised_suite (P := P) (w := w) (base := base) (f := f) (cdv := cdv) (A := A) (outer := outer) (s := s) (H := H) (E := E) T ER U XF e l fa hfa hr a dd
  refine ⟨_, (pss_cons (ps_try_as (i := 2) (tb := fun W => tDrop (tCallS (spTokens ec) (WE W) (tCons (tVar 0) tNil))) (Wout := fun _ _ _ _ => False)
      (ts := fun a cls d D σ H => (cls = .ref (ec e.1) ∧ d = some (d.getD 0)) ∧ Classical.choose (SU a (d.getD 0)) D σ H) rfl rfl sc__law_is_raised.nd rfl rfl ⟨rfl, by decide, Or.inl U.gS⟩ takes0
      (fun W pn xe tk _ => pss_one (ps_expr (pcallS Ot hr (fun σ => passAt tk σ) (pa_cons (pv 0) pa_nil))))
      (fun a oe cls d pn hz hf => pss_cond (p := cls = .ref (ec e.1) ∧ d = some (d.getD 0)) (fun h => by
        obtain ⟨rfl, hd⟩ := h
        exact (Classical.choose_spec (SU a (d.getD 0))).1 oe pn (by rw [← hd]; exact hz) hf)))
      (pss_one (ps_ret pe_bl))), ?_⟩
  refine ⟨_, rfl, l, rfl, hl, fun e' he' d H' sm hd hx => ?_, fun ms hms => ?_⟩
  · rw [hte] at he'
    cases he'
    exact ⟨true, U.eS _, fun _ a ha => ⟨⟨rfl, rfl⟩, (Classical.choose_spec (SU a d)).2 _ H' sm hd hx (fun H2 s2 => q H2 s2)⟩, fun z => nomatch z⟩
  · rw [hte] at hms
    cases hms
end
end D0
namespace D0
open PySem PySem.Spec PyProof.Rows L2 SX NumText
def spRight : Sp := fun vs H Q _ => ∃ (l : List Nat), vs = [.str (S l)] ∧ l.length ≤ big ∧ ∀ H', Same H H' → Q (.bl true) H'
def spLaw (K : PySem.W.Frag) : Sp := fun vs H Q _ => ∃ (a : Addr) (ns : List Int), vs = [.ref a] ∧ SqL K H a (ns.map V.int) ∧ ns.length ≤ 63 ∧ ∀ H', Q (.bl true) H'
def eD (e : Er3) : List PyData := [.str (S (erL (some e.1))), .int (e.2.1 : Nat), .int (e.2.2 : Nat)]
theorem eD_sh (e : Er3) : SeqAt.shaped (.list (eD e)) = true := by
  obtain ⟨k, a, b⟩ := e
  have h : ∀ x : Str, SeqAt.shaped (.list [.str x, .int (a : Nat), .int (b : Nat)]) = SeqAt.shaped (.list [.str x, .int 0, .int 0]) := fun x => rfl
  show SeqAt.shaped (.list [.str (S (erL (some k))), .int (a : Nat), .int (b : Nat)]) = true
  rw [h]
  cases k <;> decide +kernel
section
variable {P : Program} {w : World} {K : PySem.W.Frag} {mg : Str → Option Value} {base : Heap} {ec : Er → Addr}
theorem ok__law_is_right (T : Txt K w mg) (Of : OkD P w K mg base CX0 4 "_law_fault" p__law_fault spFault) (Or_ : OkD P w K mg base CX0 7 "_law_is_raised" p__law_is_raised spRaised) (Ot : OkD P w K mg base (L2.CX P w) 6 "tokens" p_tokens (spTokens ec))
    (Oi : OkD P w K mg base CX0 2 "_law_is_tokens" p__law_is_tokens spIsTok) (Ow : OkD P w K mg base CX0 3 "_law_follows" p__law_follows (spFollows K)) : OkD P w K mg base CX0 8 "_law_is_right" p__law_is_right spRight := by
  refine T.g__law_is_right.ok sc__law_is_right (fun vs H Q E h => ?_) (fun f cdv A outer s H vs Q E hr h => ?_)
  · obtain ⟨l, rfl, _⟩ := h; rfl
  obtain ⟨l, rfl, hl, q⟩ := h
  have hl' : l.length ≤ 1000000 := hl
  have lim : (1100000 : Nat) ≤ sizeLine := by decide
  have zn : Str.ofString "\n" = S [10] := by decide +kernel
  refine ⟨_, (pss_cons (ps_set (i := 1) sc__law_is_right.nd rfl (.inl rfl) (pcall Of hr (pa_cons (pv 0) pa_nil)))
      (pss_cons (ps_if (pt_cmpR (op_neD hr.units) (pv 1) (pe_lst pa_nil) (nomark _)) (pss_one (ps_ret (pcall Or_ hr (pa_cons (pv 0) (pa_cons (pv 1) pa_nil))))) pss_nil)
      (pss_cons (ps_set (i := 2) sc__law_is_right.nd rfl (.inl rfl) (pcallE Ot hr passL (pa_cons (pv 0) pa_nil)))
      (pss_one (ps_ret (pe_and (pcall Oi hr (pa_cons (pv 2) pa_nil)) (pe_one (pcall Ow hr (pa_cons (pv 2) (pa_cons (pe_split (pv 0) pe_str) pa_nil)))))))))), ?_⟩
  refine ⟨_, rfl, l, rfl, hl, fun H1 fa s1 hfa hfl => ?_⟩
  refine ⟨_, rfl, by show 0 ≤ sizeLine; omega, fun p hp => ?_⟩
  have s2 := same_new hp (.lst [])
  cases ht : tokensP l with
  | error e =>
    rw [ht] at hfl
    refine ⟨.list (eD e), .list [], .lst (SqL.of (s2 _ _ hfl)) (.cons (.str _) (.cons (.int _) (.cons (.int _) .nil))), .lst (SqL.of upd_same) .nil, eD_sh e, by decide, _, rfl, iteT ?_⟩
    refine ⟨_, rfl, _, rfl, l, e, fa, rfl, hl, s2 _ _ hfl, ht, fun H2 s3 => q H2 (s1.trans (s2.trans s3))⟩
  | ok ms =>
    rw [ht] at hfl
    refine ⟨.list [], .list [], .lst (SqL.of (s2 _ _ hfl)) .nil, .lst (SqL.of upd_same) .nil, by decide, by decide, _, rfl, iteF ?_⟩
    refine ⟨_, rfl, l, rfl, hl, fun e he => ?_, fun ms' hms H2 tp us s3 htp htp2 hmk => ?_⟩
    · rw [ht] at he; cases he
    · rw [ht] at hms
      cases hms
      obtain ⟨e, f1, f2, f3, f4, f5, f6⟩ := tokens_follow ht
      refine ⟨_, rfl, tp, us, ms, rfl, htp2, hmk, fun m hm => (f4 m hm).1, _, rfl, iteT ?_⟩
      refine ⟨_, rfl, _, rfl, ⟨_, rfl⟩, S l, S [10], rfl, (by rw [zn]), rfl, ?_, fun p2 hp2 => ?_⟩
      · rw [S_len]; omega
      rw [split_S (by decide) (by decide)]
      have ers : TL.spl [10] 0 [] l = rowsOf l := rfl
      rw [ers]
      have em : ((rowsOf l).map S).map V.str = (rowsOf l).map fun r => V.str (S r) := by rw [List.map_map]; rfl
      rw [em]
      have s4 : Same H2 (upd H2 p2 (.lst ((rowsOf l).map fun r => V.str (S r)))) := same_new hp2 _
      refine ⟨tp, p2, us, ms, rowsOf l, e, rfl, s4 _ _ htp2, hmk.same s4, ⟨upd_same, by show _ ≤ 1000000; omega, fun r hr2 => by have := f6 r hr2; show _ ≤ 1000000; omega⟩, by omega, f6, f1, f2, f3, fun m hm => (f4 m hm).2, fun H3 s5 => ?_⟩
      exact q H3 (s1.trans (s2.trans (s3.trans (s4.trans s5))))
theorem ok_law (T : Txt K w mg) (Ob : OkD P w K mg base CX0 1 "_law_bag" p__law_bag (spBag K)) (Os : OkD P w K mg base CX0 5 "_law_source" p__law_source (spTxt 70001)) (Oe : OkD P w K mg base CX0 2 "_law_edited" p__law_edited spEdit)
    (Or_ : OkD P w K mg base CX0 8 "_law_is_right" p__law_is_right spRight) : OkD P w K mg base CX0 9 "law" p_law (spLaw K) := by
  refine T.g_law.ok sc_law (fun vs H Q E h => ?_) (fun f cdv A outer s H vs Q E hr h => ?_)
  · obtain ⟨a, ns, rfl, _⟩ := h; rfl
  obtain ⟨a, ns, rfl, hS, h63, q⟩ := h
  refine ⟨_, (pss_cons (ps_set (i := 1) sc_law.nd rfl (.inl rfl) (pcall Os hr (pa_cons (pcall Ob hr (pa_cons (pv 0) (pa_cons pe_int pa_nil))) pa_nil)))
      (pss_cons (ps_set (i := 2) sc_law.nd rfl (.inl rfl) (pcall Oe hr (pa_cons (pcall Ob hr (pa_cons (pv 0) (pa_cons pe_int pa_nil))) (pa_cons (pv 1) pa_nil))))
      (pss_one (ps_ret (pe_and (pcall Or_ hr (pa_cons (pv 1) pa_nil)) (pe_one (pcall Or_ hr (pa_cons (pv 2) pa_nil)))))))), ?_⟩
  refine ⟨_, rfl, a, ns, 0, rfl, hS, h63, by omega, fun b H1 s1 nb bag => ?_⟩
  refine ⟨b, rfl, bag, fun l H2 hl st => ?_⟩
  have sH2 : Same H H2 := fun a o e => st.keep a o (ne_of_none e nb) (s1 a o e)
  refine ⟨_, rfl, a, ns, 1, rfl, sH2.seq hS, h63, by omega, fun b2 H3 s3 nb2 bag2 => ?_⟩
  refine ⟨_, rfl, b2, l, rfl, bag2, by omega, fun m H4 hm st4 => ?_⟩
  refine ⟨_, rfl, l, rfl, by show _ ≤ 1000000; omega, fun H5 s5 => ⟨_, rfl, iteT ?_⟩⟩
  refine ⟨_, rfl, m, rfl, by show _ ≤ 1000000; omega, fun H6 s6 => ?_⟩
  exact q H6
end
end D0
namespace D0
open PySem PySem.Spec PyProof.Rows L2 SX NumText
theorem kit_own {K : PySem.W.Frag} {B C : Addr} {b : Bool} (n : (B == C) = false) (cl : PySem.W.isClsIn K C = true) (ty : PySem.W.typeIn K (.ref C) = some (.type "type")) (s : PySem.W.subIn K (.ref B) (.ref C) = some b) : PySem.W.kitOne K (.ref B) (.ref C) = some b := by
  have e0 : (Value.ref B == Value.ref C) = false := by
    refine beq_eq_false_iff_ne.mpr fun z => ?_
    have := beq_eq_false_iff_ne.mp n
    exact this (Value.ref.inj z)
  have cl' : (PySem.W.clsIn K C).isSome = true := cl
  have e1 : ((PySem.W.clsIn K C).isSome && PySem.W.typeIn K (.ref C) == some (.type "type")) = true := by rw [cl', ty]; rfl
  show (if (Value.ref B == Value.ref C) = true then some true else (if ((PySem.W.clsIn K C).isSome && PySem.W.typeIn K (.ref C) == some (.type "type")) = true then PySem.W.subIn K (.ref B) (.ref C) else none)) = some b
  rw [e0, if_neg Bool.false_ne_true, if_pos e1]
  exact s
theorem kit_self {K : PySem.W.Frag} {v : Value} : PySem.W.kitOne K v v = some true := by
  show (if (v == v) = true then some true else _) = some true
  rw [if_pos (beq_self_eq_true v)]
theorem kit_bt {K : PySem.W.Frag} {B : Addr} {T : String} {b : Bool} (m : PySem.W.kitMeta T = true) (s : PySem.W.subIn K (.ref B) (.type T) = some b) : PySem.W.kitOne K (.ref B) (.type T) = some b := by
  show (if (Value.ref B == Value.type T) = true then some true else (if PySem.W.kitMeta T = true then PySem.W.subIn K (.ref B) (.type T) else none)) = some b
  rw [if_neg, if_pos m]
  · exact s
  · intro z; cases eq_of_beq z
/-! ### the written tuples and dicts -/
theorem rel_of_str {u : Value} {z : Str} (h : absV u = some (.str z)) : RelV (.str z) u := by
  cases u <;> cases h <;> exact ⟨_, rfl⟩
theorem vals_of_str : ∀ (ls : List (List Nat)) (us : List Value), us.map absV = ls.map (fun l => some (V.str (S l))) → Vals (ls.map fun l => V.str (S l)) us
  | [], [], _ => .nil
  | [], _ :: _, h => by cases h
  | _ :: _, [], h => by cases h
  | l :: ls, u :: us, h => by
    rw [List.map_cons, List.map_cons] at h
    injection h with h1 h2
    exact .cons (rel_of_str h1) (vals_of_str ls us h2)
theorem tupT_of {K : PySem.W.Frag} {mg : Str → Option Value} {x : Str} {ls : List (List Nat)} {a : Addr} {od : Option Addr} {its : Array Value} {n : Nat} {sl : Array (Option Value)} (gm : mg x = some (.ref a)) (lk : K.lookup a = some ⟨.type "tuple", od, .seq its n, sl⟩)
    (v : its.toList.map absV = ls.map (fun l => some (V.str (S l)))) (hz : its.size ≤ 1000) : TupT K mg x ls :=
  ⟨a, gm, fun H => .inr ⟨_, its, n, lk, rfl, rfl, Nat.le_trans hz (by decide), vals_of_str ls _ v⟩⟩
def Ents (P : Params) : List (List Nat × List Nat) → List DictEntry → Prop
  | [], [] => True
  | (k, v) :: r, e :: es => (∃ h t u, e = ⟨h, .str (S k) t, .str (S v) u⟩ ∧ h = PyData.keyHash P (S k)) ∧ Ents P r es
  | _, _ => False
def getL : List (List Nat × List Nat) → List Nat → Option (List Nat)
  | [], _ => none
  | (k, v) :: r, l => if k = l then some v else getL r l
theorem ents_keys {P : Params} : ∀ {ps : List (List Nat × List Nat)} {es : List DictEntry}, Ents P ps es → PySem.W.KeysLit P es
  | [], [], _ => trivial
  | [], _ :: _, h => h.elim
  | _ :: _, [], h => h.elim
  | (k, v) :: r, e :: es, ⟨⟨h, t, u, he, hh⟩, hr⟩ => ⟨⟨S k, t, by rw [he], by rw [he]; exact hh⟩, ents_keys hr⟩
theorem ents_find {P : Params} (l : List Nat) : ∀ {ps : List (List Nat × List Nat)} {es : List DictEntry}, Ents P ps es →
    es.any (·.refKey) = false ∧ ((es.find? (·.key.isStr (S l))).isSome = (getL ps l).isSome) ∧ ∀ m, getL ps l = some m → ∃ e, es.find? (·.key.isStr (S l)) = some e ∧ RelV (.str (S m)) e.val
  | [], [], _ => ⟨rfl, rfl, fun m h => by cases h⟩
  | [], _ :: _, h => h.elim
  | _ :: _, [], h => h.elim
  | (k, v) :: r, e :: es, ⟨⟨h, t, u, he, hh⟩, hr⟩ => by
    obtain ⟨i1, i2, i3⟩ := ents_find l hr
    subst he
    refine ⟨by rw [List.any_cons, i1]; rfl, ?_⟩
    have hk : (Value.str (S k) t).isStr (S l) = decide (k = l) := by
      show (S k == S l) = decide (k = l)
      by_cases c : k = l
      · subst c; rw [beq_self_eq_true, decide_eq_true rfl]
      · rw [decide_eq_false c]; exact beq_eq_false_iff_ne.mpr fun z => c (S_inj z)
    by_cases c : k = l
    · have e1 : List.find? (fun x : DictEntry => x.key.isStr (S l)) (⟨h, .str (S k) t, .str (S v) u⟩ :: es) = some ⟨h, .str (S k) t, .str (S v) u⟩ := by
        rw [List.find?_cons, show (Value.str (S k) t).isStr (S l) = true by rw [hk, decide_eq_true c]]
      have e2 : getL ((k, v) :: r) l = some v := if_pos c
      rw [e1, e2]
      exact ⟨rfl, fun m hm => by cases hm; exact ⟨_, rfl, ⟨_, rfl⟩⟩⟩
    · have e1 : List.find? (fun x : DictEntry => x.key.isStr (S l)) (⟨h, .str (S k) t, .str (S v) u⟩ :: es) = List.find? (fun x : DictEntry => x.key.isStr (S l)) es := by
        rw [List.find?_cons, show (Value.str (S k) t).isStr (S l) = false by rw [hk, decide_eq_false c]]
      have e2 : getL ((k, v) :: r) l = getL r l := if_neg c
      rw [e1, e2]
      exact ⟨i2, i3⟩
theorem dictT_of {K : PySem.W.Frag} {w : World} {mg : Str → Option Value} {x : Str} {f : List Nat → Option (List Nat)} {d : Addr} {es : Array DictEntry} {n : Nat} (ps : List (List Nat × List Nat)) (hf : ∀ l, f l = getL ps l) (gm : mg x = some (.ref d)) (low : (d == sysModules) = false)
    (lk : K.lookup d = some ⟨.type "dict", none, .dict es n, #[]⟩) (he : Ents w.params ps es.toList) : DictT K w mg x f := by
  refine ⟨d, es, n, gm, ⟨lk, ents_keys he, low⟩, fun l => ?_⟩
  obtain ⟨i1, i2, i3⟩ := ents_find l he
  rw [hf l]
  have hn : PySem.W.nsIn K d (S l) = match es.toList.find? (·.key.isStr (S l)) with
      | some e => some (some e.val)
      | none => if es.toList.any (·.refKey) then none else some none := by
    unfold PySem.W.nsIn
    rw [lk] <;> rfl
  rw [hn, i1]
  cases hg : getL ps l with
  | none =>
    rw [hg] at i2
    cases hq : es.toList.find? (·.key.isStr (S l)) with
    | none => exact ⟨none, rfl, rfl, fun m h => by cases h⟩
    | some e => rw [hq] at i2; cases i2
  | some m =>
    obtain ⟨e, he2, hr⟩ := i3 m hg
    rw [he2]
    exact ⟨some e.val, rfl, rfl, fun m' h => by cases h; exact ⟨_, rfl, hr⟩⟩
def escP : List (List Nat × List Nat) := [([110], [10]), ([92], [92]), ([39], [39]), ([34], [34])]
def cloP : List (List Nat × List Nat) := [([41], [40]), ([93], [91]), ([125], [123])]
theorem escV_get (l : List Nat) : escV l = getL escP l := by
  by_cases a : [110] = l
  · subst a; rfl
  by_cases b : [92] = l
  · subst b; rfl
  by_cases c : [39] = l
  · subst c; rfl
  by_cases d : [34] = l
  · subst d; rfl
  have e : getL escP l = none := by
    show (if [110] = l then _ else if [92] = l then _ else if [39] = l then _ else if [34] = l then _ else _) = _
    rw [if_neg a, if_neg b, if_neg c, if_neg d]; rfl
  rw [e]
  unfold escV
  split
  · exact absurd rfl a
  · exact absurd rfl b
  · exact absurd rfl c
  · exact absurd rfl d
  · rfl
theorem cloV_get (l : List Nat) : cloV l = getL cloP l := by
  by_cases a : [41] = l
  · subst a; rfl
  by_cases b : [93] = l
  · subst b; rfl
  by_cases c : [125] = l
  · subst c; rfl
  have e : getL cloP l = none := by
    show (if [41] = l then _ else if [93] = l then _ else if [125] = l then _ else _) = _
    rw [if_neg a, if_neg b, if_neg c]; rfl
  rw [e]
  unfold cloV
  split
  · exact absurd rfl a
  · exact absurd rfl b
  · exact absurd rfl c
  · rfl
section
variable {P : Program} {w : World} {K : PySem.W.Frag} {mg : Str → Option Value} {base : Heap} {ec : Er → Addr} {CY CO CL CS C : Addr}
theorem all_ok (T : Txt K w mg) (ER : ErrT P w K mg base ec) (SC0 : ScT K mg C) (U : KitE K mg ec CY CO CL CS) (XF : ∀ k, XfC K (ec k)) : OkD P w K mg base CX0 9 "law" p_law (spLaw K) := by
  have o1 := ok_is_digit (P := P) (w := w) (base := base) T.g_is_digit
  have o2 := ok_digits_end T.g_digits_end o1 T.z_len
  have o3 := ok_is_row (P := P) (w := w) (base := base) T.g_is_row T.z_ord T.c_PERCENT
  have o4 := ok_is_letter (P := P) (w := w) (base := base) T.g_is_letter
  have o5 := ok_name_end T.g_name_end o1 o4 T.z_len
  have o6 := ok_spaces_end (P := P) (w := w) (base := base) T.g_spaces_end T.z_len
  have o7 := ok_scan_name T ER o5
  have o8 := ok_scan_number T ER o2 o4
  have o9 := ok_scan_text T ER
  have o10 := ok_scan_sign T ER
  have o11 := ok_scan_token T ER o1 o4 o7 o8 o9 o10
  have m1 := ok_Scanner_begin_line T ER SC0
  have m2 := ok_Scanner_match_bracket T ER SC0
  have m3 := ok_Scanner_gather T ER SC0 m2
  have m4 := ok_Scanner_end_line (P := P) (w := w) (base := base) SC0
  have m5 := ok_Scanner_scan_row T ER SC0 o6 o11 m1 m3 m4
  have o12 := ok_check_letters T ER o3
  have o13 := ok_checked_rows T ER o12
  have m6 := ok_Scanner_end_text T ER SC0
  have o14 := ok_tokens T ER SC0 o13 m5 m6
  have o15 := ok__law_bag (P := P) (w := w) (base := base) T
  have o16 := ok__law_take (P := P) (w := w) (base := base) T
  have o17 := ok__law_letters (P := P) (w := w) (base := base) T
  have o18 := ok__law_allowed (P := P) (w := w) (base := base) T
  have o19 := ok__law_signs (P := P) (w := w) (base := base) T
  have o20 := ok__law_keywords (P := P) (w := w) (base := base) T
  have o21 := ok__law_name T o16 o17
  have o22 := ok__law_figures T o16
  have o23 := ok__law_comment T o16 o18
  have o24 := ok__law_quoted T o16 o18
  have o25 := ok__law_word T o16 o19 o20 o21 o22 o24
  have o26 := ok__law_odd T o16 o18
  have o27 := ok__law_block_fault (P := P) (w := w) (base := base) T
  have o28 := ok__law_whole (P := P) (w := w) (base := base) T
  have o29 := ok__law_edited T o16 o18
  have o30 := ok__law_extent T o17 o19
  have o31 := ok__law_row_end T o16 o23
  have o32 := ok__law_pieces T o16 o26 o31 o25
  have o33 := ok__law_source T o16 o18 o32
  have o34 := ok__law_next_spot (P := P) (w := w) (base := base) T
  have o35 := ok__law_margin (P := P) (w := w) (base := base) T
  have o36 := ok__law_quoted_size (P := P) (w := w) (base := base) T
  have o37 := ok__law_size T o17 o19 o20 o36
  have o38 := ok__law_is_tokens T o28
  have o39 := ok__law_follows T o34 o35 o37
  have o40 := ok__law_first_fault T o30 o27
  have o41 := ok__law_fault T o18 o40
  have o42 := ok__law_is_raised T ER U XF o14
  have o43 := ok__law_is_right T o41 o42 o14 o38 o39
  exact ok_law T o15 o33 o29 o43
end
end D0
namespace D0
open PySem PySem.Spec PyProof.Rows L2 SX NumText
def ecf (C0 C1 C2 C3 C4 : Addr) : Er → Addr
  | .sign => C0 | .token => C1 | .indent => C2 | .long => C3 | .deep => C4
set_option maxHeartbeats 8000000 in
theorem all_mk {l : PySem.W.OpenLaw} {w : World} {K : PySem.W.Frag} {h : Heap} {mg : Str → Option Value} {fa : Addr} (X : K.In h) (G : h.Ns mainGlobals mg) (hfa : mg "law" = some (.ref fa))
    {od1 an1 : Option Addr} {sl1 : Array (Option Value)} {oc1 kV1 dc1 pm1 cd1 ct1 : Value} {f1 : Addr}
    {od2 an2 : Option Addr} {sl2 : Array (Option Value)} {oc2 kV2 dc2 pm2 cd2 ct2 : Value} {f2 : Addr}
    {od3 an3 : Option Addr} {sl3 : Array (Option Value)} {oc3 kV3 dc3 pm3 cd3 ct3 : Value} {f3 : Addr}
    {od4 an4 : Option Addr} {sl4 : Array (Option Value)} {oc4 kV4 dc4 pm4 cd4 ct4 : Value} {f4 : Addr}
    {od5 an5 : Option Addr} {sl5 : Array (Option Value)} {oc5 kV5 dc5 pm5 cd5 ct5 : Value} {f5 : Addr}
    {od6 an6 : Option Addr} {sl6 : Array (Option Value)} {oc6 kV6 dc6 pm6 cd6 ct6 : Value} {f6 : Addr}
    {od7 an7 : Option Addr} {sl7 : Array (Option Value)} {oc7 kV7 dc7 pm7 cd7 ct7 : Value} {f7 : Addr}
    {od8 an8 : Option Addr} {sl8 : Array (Option Value)} {oc8 kV8 dc8 pm8 cd8 ct8 : Value} {f8 : Addr}
    {od9 an9 : Option Addr} {sl9 : Array (Option Value)} {oc9 kV9 dc9 pm9 cd9 ct9 : Value} {f9 : Addr}
    {od10 an10 : Option Addr} {sl10 : Array (Option Value)} {oc10 kV10 dc10 pm10 cd10 ct10 : Value} {f10 : Addr}
    {od11 an11 : Option Addr} {sl11 : Array (Option Value)} {oc11 kV11 dc11 pm11 cd11 ct11 : Value} {f11 : Addr}
    {od12 an12 : Option Addr} {sl12 : Array (Option Value)} {oc12 kV12 dc12 pm12 cd12 ct12 : Value} {f12 : Addr}
    {od13 an13 : Option Addr} {sl13 : Array (Option Value)} {oc13 kV13 dc13 pm13 cd13 ct13 : Value} {f13 : Addr}
    {od14 an14 : Option Addr} {sl14 : Array (Option Value)} {oc14 kV14 dc14 pm14 cd14 ct14 : Value} {f14 : Addr}
    {od15 an15 : Option Addr} {sl15 : Array (Option Value)} {oc15 kV15 dc15 pm15 cd15 ct15 : Value} {f15 : Addr}
    {od16 an16 : Option Addr} {sl16 : Array (Option Value)} {oc16 kV16 dc16 pm16 cd16 ct16 : Value} {f16 : Addr}
    {od17 an17 : Option Addr} {sl17 : Array (Option Value)} {oc17 kV17 dc17 pm17 cd17 ct17 : Value} {f17 : Addr}
    {od18 an18 : Option Addr} {sl18 : Array (Option Value)} {oc18 kV18 dc18 pm18 cd18 ct18 : Value} {f18 : Addr}
    {od19 an19 : Option Addr} {sl19 : Array (Option Value)} {oc19 kV19 dc19 pm19 cd19 ct19 : Value} {f19 : Addr}
    {od20 an20 : Option Addr} {sl20 : Array (Option Value)} {oc20 kV20 dc20 pm20 cd20 ct20 : Value} {f20 : Addr}
    {od21 an21 : Option Addr} {sl21 : Array (Option Value)} {oc21 kV21 dc21 pm21 cd21 ct21 : Value} {f21 : Addr}
    {od22 an22 : Option Addr} {sl22 : Array (Option Value)} {oc22 kV22 dc22 pm22 cd22 ct22 : Value} {f22 : Addr}
    {od23 an23 : Option Addr} {sl23 : Array (Option Value)} {oc23 kV23 dc23 pm23 cd23 ct23 : Value} {f23 : Addr}
    {od24 an24 : Option Addr} {sl24 : Array (Option Value)} {oc24 kV24 dc24 pm24 cd24 ct24 : Value} {f24 : Addr}
    {od25 an25 : Option Addr} {sl25 : Array (Option Value)} {oc25 kV25 dc25 pm25 cd25 ct25 : Value} {f25 : Addr}
    {od26 an26 : Option Addr} {sl26 : Array (Option Value)} {oc26 kV26 dc26 pm26 cd26 ct26 : Value} {f26 : Addr}
    {od27 an27 : Option Addr} {sl27 : Array (Option Value)} {oc27 kV27 dc27 pm27 cd27 ct27 : Value} {f27 : Addr}
    {od28 an28 : Option Addr} {sl28 : Array (Option Value)} {oc28 kV28 dc28 pm28 cd28 ct28 : Value} {f28 : Addr}
    {od29 an29 : Option Addr} {sl29 : Array (Option Value)} {oc29 kV29 dc29 pm29 cd29 ct29 : Value} {f29 : Addr}
    {od30 an30 : Option Addr} {sl30 : Array (Option Value)} {oc30 kV30 dc30 pm30 cd30 ct30 : Value} {f30 : Addr}
    {od31 an31 : Option Addr} {sl31 : Array (Option Value)} {oc31 kV31 dc31 pm31 cd31 ct31 : Value} {f31 : Addr}
    {od32 an32 : Option Addr} {sl32 : Array (Option Value)} {oc32 kV32 dc32 pm32 cd32 ct32 : Value} {f32 : Addr}
    {od33 an33 : Option Addr} {sl33 : Array (Option Value)} {oc33 kV33 dc33 pm33 cd33 ct33 : Value} {f33 : Addr}
    {od34 an34 : Option Addr} {sl34 : Array (Option Value)} {oc34 kV34 dc34 pm34 cd34 ct34 : Value} {f34 : Addr}
    {od35 an35 : Option Addr} {sl35 : Array (Option Value)} {oc35 kV35 dc35 pm35 cd35 ct35 : Value} {f35 : Addr}
    {od36 an36 : Option Addr} {sl36 : Array (Option Value)} {oc36 kV36 dc36 pm36 cd36 ct36 : Value} {f36 : Addr}
    {od37 an37 : Option Addr} {sl37 : Array (Option Value)} {oc37 kV37 dc37 pm37 cd37 ct37 : Value} {f37 : Addr}
    {od38 an38 : Option Addr} {sl38 : Array (Option Value)} {oc38 kV38 dc38 pm38 cd38 ct38 : Value} {f38 : Addr}
    {od39 an39 : Option Addr} {sl39 : Array (Option Value)} {oc39 kV39 dc39 pm39 cd39 ct39 : Value} {f39 : Addr}
    {od40 an40 : Option Addr} {sl40 : Array (Option Value)} {oc40 kV40 dc40 pm40 cd40 ct40 : Value} {f40 : Addr}
    {od41 an41 : Option Addr} {sl41 : Array (Option Value)} {oc41 kV41 dc41 pm41 cd41 ct41 : Value} {f41 : Addr}
    {od42 an42 : Option Addr} {sl42 : Array (Option Value)} {oc42 kV42 dc42 pm42 cd42 ct42 : Value} {f42 : Addr}
    {od43 an43 : Option Addr} {sl43 : Array (Option Value)} {oc43 kV43 dc43 pm43 cd43 ct43 : Value} {f43 : Addr}
    {od44 an44 : Option Addr} {sl44 : Array (Option Value)} {oc44 kV44 dc44 pm44 cd44 ct44 : Value} {f44 : Addr}
    {od45 an45 : Option Addr} {sl45 : Array (Option Value)} {oc45 kV45 dc45 pm45 cd45 ct45 : Value} {f45 : Addr}
    {od46 an46 : Option Addr} {sl46 : Array (Option Value)} {oc46 kV46 dc46 pm46 cd46 ct46 : Value} {f46 : Addr}
    {od47 an47 : Option Addr} {sl47 : Array (Option Value)} {oc47 kV47 dc47 pm47 cd47 ct47 : Value} {f47 : Addr}
    {od48 an48 : Option Addr} {sl48 : Array (Option Value)} {oc48 kV48 dc48 pm48 cd48 ct48 : Value} {f48 : Addr}
    {od49 an49 : Option Addr} {sl49 : Array (Option Value)} {oc49 kV49 dc49 pm49 cd49 ct49 : Value} {f49 : Addr}
    {od50 an50 : Option Addr} {sl50 : Array (Option Value)} {oc50 kV50 dc50 pm50 cd50 ct50 : Value} {f50 : Addr}
    {od51 an51 : Option Addr} {sl51 : Array (Option Value)} {oc51 kV51 dc51 pm51 cd51 ct51 : Value} {f51 : Addr}
    {od52 an52 : Option Addr} {sl52 : Array (Option Value)} {oc52 kV52 dc52 pm52 cd52 ct52 : Value} {f52 : Addr}
    {od53 an53 : Option Addr} {sl53 : Array (Option Value)} {oc53 kV53 dc53 pm53 cd53 ct53 : Value} {f53 : Addr}
    {CC C0 C1 C2 C3 C4 CY CO CL CS : Addr}
    {t_PERCENT : Tok}
    {t_NAME_LIMIT : Tok}
    {t_NUMBER_LIMIT : Tok}
    {t_TEXT_LIMIT : Tok}
    {t_ROW_LIMIT : Tok}
    {t_TOKEN_LIMIT : Tok}
    {t_INDENT_LIMIT : Tok}
    {a_KEYWORDS : Addr} {od_KEYWORDS : Option Addr} {its_KEYWORDS : Array Value} {n_KEYWORDS : Nat} {sl_KEYWORDS : Array (Option Value)}
    {a_SIGNS : Addr} {od_SIGNS : Option Addr} {its_SIGNS : Array Value} {n_SIGNS : Nat} {sl_SIGNS : Array (Option Value)}
    {a_OPENING : Addr} {od_OPENING : Option Addr} {its_OPENING : Array Value} {n_OPENING : Nat} {sl_OPENING : Array (Option Value)}
    {a_ESCAPES : Addr} {n_ESCAPES : Nat} {hESCAPES0 : Int} {tESCAPES0 uESCAPES0 : Tok} {hESCAPES1 : Int} {tESCAPES1 uESCAPES1 : Tok} {hESCAPES2 : Int} {tESCAPES2 uESCAPES2 : Tok} {hESCAPES3 : Int} {tESCAPES3 uESCAPES3 : Tok}
    {a_CLOSING : Addr} {n_CLOSING : Nat} {hCLOSING0 : Int} {tCLOSING0 uCLOSING0 : Tok} {hCLOSING1 : Int} {tCLOSING1 uCLOSING1 : Tok} {hCLOSING2 : Int} {tCLOSING2 uCLOSING2 : Tok}
    {nm0x q0x : Str} {N0x : Addr} {bs0x bm0x : List Value} {sn0x : List Str} {sub0x : List Value} {ab0x : Bool} {col0x : Option Bool} {dd0x : Option Addr} {k00x k10x k20x k30x k50x : Option Value}
    {nm1x q1x : Str} {N1x : Addr} {bs1x bm1x : List Value} {sn1x : List Str} {sub1x : List Value} {ab1x : Bool} {col1x : Option Bool} {dd1x : Option Addr} {k01x k11x k21x k31x k51x : Option Value}
    {nm2x q2x : Str} {N2x : Addr} {bs2x bm2x : List Value} {sn2x : List Str} {sub2x : List Value} {ab2x : Bool} {col2x : Option Bool} {dd2x : Option Addr} {k02x k12x k22x k32x k52x : Option Value}
    {nm3x q3x : Str} {N3x : Addr} {bs3x bm3x : List Value} {sn3x : List Str} {sub3x : List Value} {ab3x : Bool} {col3x : Option Bool} {dd3x : Option Addr} {k03x k13x k23x k33x k53x : Option Value}
    {nm4x q4x : Str} {N4x : Addr} {bs4x bm4x : List Value} {sn4x : List Str} {sub4x : List Value} {ab4x : Bool} {col4x : Option Bool} {dd4x : Option Addr} {k04x k14x k24x k34x k54x : Option Value}
    (a1_0 : PySem.W.findIn K (.ref C0) "__init__" = some (some (.ref f1)))
    (a1_1 : PySem.W.findIn K (.ref C1) "__init__" = some (some (.ref f1)))
    (a1_2 : PySem.W.findIn K (.ref C2) "__init__" = some (some (.ref f1)))
    (a1_3 : PySem.W.findIn K (.ref C3) "__init__" = some (some (.ref f1)))
    (a1_4 : PySem.W.findIn K (.ref C4) "__init__" = some (some (.ref f1)))
    (i1 : PySem.W.typeIn K (.ref f1) = some (.type "function"))
    (l1 : K.lookup f1 = some ⟨oc1, od1, .func (PySem.W.fnOf "__init__" "SourceError.__init__" (defArgs s_SourceError___init__) (defBody s_SourceError___init__) (defScope s_SourceError___init__) .none kV1 dc1 pm1 an1 cd1 ct1), sl1⟩)
    (c1 : PySem.W.codeIn K cd1 "SourceError.__init__" = true)
    (k1 : PySem.W.keepIn K (.ref f1) = true)
    (a2 : PySem.W.nsIn K mainGlobals "is_row" = some (some (.ref f2)))
    (l2 : K.lookup f2 = some ⟨oc2, od2, .func (PySem.W.fnOf "is_row" "is_row" (defArgs s_is_row) (defBody s_is_row) (defScope s_is_row) .none kV2 dc2 pm2 an2 cd2 ct2), sl2⟩)
    (c2 : PySem.W.codeIn K cd2 "is_row" = true)
    (k2 : PySem.W.keepIn K (.ref f2) = true)
    (a3 : PySem.W.nsIn K mainGlobals "is_letter" = some (some (.ref f3)))
    (l3 : K.lookup f3 = some ⟨oc3, od3, .func (PySem.W.fnOf "is_letter" "is_letter" (defArgs s_is_letter) (defBody s_is_letter) (defScope s_is_letter) .none kV3 dc3 pm3 an3 cd3 ct3), sl3⟩)
    (c3 : PySem.W.codeIn K cd3 "is_letter" = true)
    (k3 : PySem.W.keepIn K (.ref f3) = true)
    (a4 : PySem.W.nsIn K mainGlobals "is_digit" = some (some (.ref f4)))
    (l4 : K.lookup f4 = some ⟨oc4, od4, .func (PySem.W.fnOf "is_digit" "is_digit" (defArgs s_is_digit) (defBody s_is_digit) (defScope s_is_digit) .none kV4 dc4 pm4 an4 cd4 ct4), sl4⟩)
    (c4 : PySem.W.codeIn K cd4 "is_digit" = true)
    (k4 : PySem.W.keepIn K (.ref f4) = true)
    (a5 : PySem.W.nsIn K mainGlobals "digits_end" = some (some (.ref f5)))
    (l5 : K.lookup f5 = some ⟨oc5, od5, .func (PySem.W.fnOf "digits_end" "digits_end" (defArgs s_digits_end) (defBody s_digits_end) (defScope s_digits_end) .none kV5 dc5 pm5 an5 cd5 ct5), sl5⟩)
    (c5 : PySem.W.codeIn K cd5 "digits_end" = true)
    (k5 : PySem.W.keepIn K (.ref f5) = true)
    (a6 : PySem.W.nsIn K mainGlobals "name_end" = some (some (.ref f6)))
    (l6 : K.lookup f6 = some ⟨oc6, od6, .func (PySem.W.fnOf "name_end" "name_end" (defArgs s_name_end) (defBody s_name_end) (defScope s_name_end) .none kV6 dc6 pm6 an6 cd6 ct6), sl6⟩)
    (c6 : PySem.W.codeIn K cd6 "name_end" = true)
    (k6 : PySem.W.keepIn K (.ref f6) = true)
    (a7 : PySem.W.nsIn K mainGlobals "scan_token" = some (some (.ref f7)))
    (l7 : K.lookup f7 = some ⟨oc7, od7, .func (PySem.W.fnOf "scan_token" "scan_token" (defArgs s_scan_token) (defBody s_scan_token) (defScope s_scan_token) .none kV7 dc7 pm7 an7 cd7 ct7), sl7⟩)
    (c7 : PySem.W.codeIn K cd7 "scan_token" = true)
    (k7 : PySem.W.keepIn K (.ref f7) = true)
    (a8 : PySem.W.nsIn K mainGlobals "scan_name" = some (some (.ref f8)))
    (l8 : K.lookup f8 = some ⟨oc8, od8, .func (PySem.W.fnOf "scan_name" "scan_name" (defArgs s_scan_name) (defBody s_scan_name) (defScope s_scan_name) .none kV8 dc8 pm8 an8 cd8 ct8), sl8⟩)
    (c8 : PySem.W.codeIn K cd8 "scan_name" = true)
    (k8 : PySem.W.keepIn K (.ref f8) = true)
    (a9 : PySem.W.nsIn K mainGlobals "scan_number" = some (some (.ref f9)))
    (l9 : K.lookup f9 = some ⟨oc9, od9, .func (PySem.W.fnOf "scan_number" "scan_number" (defArgs s_scan_number) (defBody s_scan_number) (defScope s_scan_number) .none kV9 dc9 pm9 an9 cd9 ct9), sl9⟩)
    (c9 : PySem.W.codeIn K cd9 "scan_number" = true)
    (k9 : PySem.W.keepIn K (.ref f9) = true)
    (a10 : PySem.W.nsIn K mainGlobals "scan_text" = some (some (.ref f10)))
    (l10 : K.lookup f10 = some ⟨oc10, od10, .func (PySem.W.fnOf "scan_text" "scan_text" (defArgs s_scan_text) (defBody s_scan_text) (defScope s_scan_text) .none kV10 dc10 pm10 an10 cd10 ct10), sl10⟩)
    (c10 : PySem.W.codeIn K cd10 "scan_text" = true)
    (k10 : PySem.W.keepIn K (.ref f10) = true)
    (a11 : PySem.W.nsIn K mainGlobals "scan_sign" = some (some (.ref f11)))
    (l11 : K.lookup f11 = some ⟨oc11, od11, .func (PySem.W.fnOf "scan_sign" "scan_sign" (defArgs s_scan_sign) (defBody s_scan_sign) (defScope s_scan_sign) .none kV11 dc11 pm11 an11 cd11 ct11), sl11⟩)
    (c11 : PySem.W.codeIn K cd11 "scan_sign" = true)
    (k11 : PySem.W.keepIn K (.ref f11) = true)
    (a12 : PySem.W.findIn K (.ref CC) "__init__" = some (some (.ref f12)))
    (i12 : PySem.W.isFn K (.ref f12) = true)
    (l12 : K.lookup f12 = some ⟨oc12, od12, .func (PySem.W.fnOf "__init__" "Scanner.__init__" (defArgs s_Scanner___init__) (defBody s_Scanner___init__) (defScope s_Scanner___init__) .none kV12 dc12 pm12 an12 cd12 ct12), sl12⟩)
    (c12 : PySem.W.codeIn K cd12 "Scanner.__init__" = true)
    (k12 : PySem.W.keepIn K (.ref f12) = true)
    (a13 : PySem.W.findIn K (.ref CC) "scan_row" = some (some (.ref f13)))
    (i13 : PySem.W.isFn K (.ref f13) = true)
    (l13 : K.lookup f13 = some ⟨oc13, od13, .func (PySem.W.fnOf "scan_row" "Scanner.scan_row" (defArgs s_Scanner_scan_row) (defBody s_Scanner_scan_row) (defScope s_Scanner_scan_row) .none kV13 dc13 pm13 an13 cd13 ct13), sl13⟩)
    (c13 : PySem.W.codeIn K cd13 "Scanner.scan_row" = true)
    (k13 : PySem.W.keepIn K (.ref f13) = true)
    (a14 : PySem.W.findIn K (.ref CC) "begin_line" = some (some (.ref f14)))
    (i14 : PySem.W.isFn K (.ref f14) = true)
    (l14 : K.lookup f14 = some ⟨oc14, od14, .func (PySem.W.fnOf "begin_line" "Scanner.begin_line" (defArgs s_Scanner_begin_line) (defBody s_Scanner_begin_line) (defScope s_Scanner_begin_line) .none kV14 dc14 pm14 an14 cd14 ct14), sl14⟩)
    (c14 : PySem.W.codeIn K cd14 "Scanner.begin_line" = true)
    (k14 : PySem.W.keepIn K (.ref f14) = true)
    (a15 : PySem.W.findIn K (.ref CC) "gather" = some (some (.ref f15)))
    (i15 : PySem.W.isFn K (.ref f15) = true)
    (l15 : K.lookup f15 = some ⟨oc15, od15, .func (PySem.W.fnOf "gather" "Scanner.gather" (defArgs s_Scanner_gather) (defBody s_Scanner_gather) (defScope s_Scanner_gather) .none kV15 dc15 pm15 an15 cd15 ct15), sl15⟩)
    (c15 : PySem.W.codeIn K cd15 "Scanner.gather" = true)
    (k15 : PySem.W.keepIn K (.ref f15) = true)
    (a16 : PySem.W.findIn K (.ref CC) "match_bracket" = some (some (.ref f16)))
    (i16 : PySem.W.isFn K (.ref f16) = true)
    (l16 : K.lookup f16 = some ⟨oc16, od16, .func (PySem.W.fnOf "match_bracket" "Scanner.match_bracket" (defArgs s_Scanner_match_bracket) (defBody s_Scanner_match_bracket) (defScope s_Scanner_match_bracket) .none kV16 dc16 pm16 an16 cd16 ct16), sl16⟩)
    (c16 : PySem.W.codeIn K cd16 "Scanner.match_bracket" = true)
    (k16 : PySem.W.keepIn K (.ref f16) = true)
    (a17 : PySem.W.findIn K (.ref CC) "end_line" = some (some (.ref f17)))
    (i17 : PySem.W.isFn K (.ref f17) = true)
    (l17 : K.lookup f17 = some ⟨oc17, od17, .func (PySem.W.fnOf "end_line" "Scanner.end_line" (defArgs s_Scanner_end_line) (defBody s_Scanner_end_line) (defScope s_Scanner_end_line) .none kV17 dc17 pm17 an17 cd17 ct17), sl17⟩)
    (c17 : PySem.W.codeIn K cd17 "Scanner.end_line" = true)
    (k17 : PySem.W.keepIn K (.ref f17) = true)
    (a18 : PySem.W.findIn K (.ref CC) "end_text" = some (some (.ref f18)))
    (i18 : PySem.W.isFn K (.ref f18) = true)
    (l18 : K.lookup f18 = some ⟨oc18, od18, .func (PySem.W.fnOf "end_text" "Scanner.end_text" (defArgs s_Scanner_end_text) (defBody s_Scanner_end_text) (defScope s_Scanner_end_text) .none kV18 dc18 pm18 an18 cd18 ct18), sl18⟩)
    (c18 : PySem.W.codeIn K cd18 "Scanner.end_text" = true)
    (k18 : PySem.W.keepIn K (.ref f18) = true)
    (a19 : PySem.W.nsIn K mainGlobals "tokens" = some (some (.ref f19)))
    (l19 : K.lookup f19 = some ⟨oc19, od19, .func (PySem.W.fnOf "tokens" "tokens" (defArgs s_tokens) (defBody s_tokens) (defScope s_tokens) .none kV19 dc19 pm19 an19 cd19 ct19), sl19⟩)
    (c19 : PySem.W.codeIn K cd19 "tokens" = true)
    (k19 : PySem.W.keepIn K (.ref f19) = true)
    (a20 : PySem.W.nsIn K mainGlobals "checked_rows" = some (some (.ref f20)))
    (l20 : K.lookup f20 = some ⟨oc20, od20, .func (PySem.W.fnOf "checked_rows" "checked_rows" (defArgs s_checked_rows) (defBody s_checked_rows) (defScope s_checked_rows) .none kV20 dc20 pm20 an20 cd20 ct20), sl20⟩)
    (c20 : PySem.W.codeIn K cd20 "checked_rows" = true)
    (k20 : PySem.W.keepIn K (.ref f20) = true)
    (a21 : PySem.W.nsIn K mainGlobals "check_letters" = some (some (.ref f21)))
    (l21 : K.lookup f21 = some ⟨oc21, od21, .func (PySem.W.fnOf "check_letters" "check_letters" (defArgs s_check_letters) (defBody s_check_letters) (defScope s_check_letters) .none kV21 dc21 pm21 an21 cd21 ct21), sl21⟩)
    (c21 : PySem.W.codeIn K cd21 "check_letters" = true)
    (k21 : PySem.W.keepIn K (.ref f21) = true)
    (a22 : PySem.W.nsIn K mainGlobals "spaces_end" = some (some (.ref f22)))
    (l22 : K.lookup f22 = some ⟨oc22, od22, .func (PySem.W.fnOf "spaces_end" "spaces_end" (defArgs s_spaces_end) (defBody s_spaces_end) (defScope s_spaces_end) .none kV22 dc22 pm22 an22 cd22 ct22), sl22⟩)
    (c22 : PySem.W.codeIn K cd22 "spaces_end" = true)
    (k22 : PySem.W.keepIn K (.ref f22) = true)
    (a23 : PySem.W.nsIn K mainGlobals "_law_bag" = some (some (.ref f23)))
    (l23 : K.lookup f23 = some ⟨oc23, od23, .func (PySem.W.fnOf "_law_bag" "_law_bag" (defArgs s__law_bag) (defBody s__law_bag) (defScope s__law_bag) .none kV23 dc23 pm23 an23 cd23 ct23), sl23⟩)
    (c23 : PySem.W.codeIn K cd23 "_law_bag" = true)
    (k23 : PySem.W.keepIn K (.ref f23) = true)
    (a24 : PySem.W.nsIn K mainGlobals "_law_take" = some (some (.ref f24)))
    (l24 : K.lookup f24 = some ⟨oc24, od24, .func (PySem.W.fnOf "_law_take" "_law_take" (defArgs s__law_take) (defBody s__law_take) (defScope s__law_take) .none kV24 dc24 pm24 an24 cd24 ct24), sl24⟩)
    (c24 : PySem.W.codeIn K cd24 "_law_take" = true)
    (k24 : PySem.W.keepIn K (.ref f24) = true)
    (a25 : PySem.W.nsIn K mainGlobals "_law_whole" = some (some (.ref f25)))
    (l25 : K.lookup f25 = some ⟨oc25, od25, .func (PySem.W.fnOf "_law_whole" "_law_whole" (defArgs s__law_whole) (defBody s__law_whole) (defScope s__law_whole) .none kV25 dc25 pm25 an25 cd25 ct25), sl25⟩)
    (c25 : PySem.W.codeIn K cd25 "_law_whole" = true)
    (k25 : PySem.W.keepIn K (.ref f25) = true)
    (a26 : PySem.W.nsIn K mainGlobals "_law_signs" = some (some (.ref f26)))
    (l26 : K.lookup f26 = some ⟨oc26, od26, .func (PySem.W.fnOf "_law_signs" "_law_signs" (defArgs s__law_signs) (defBody s__law_signs) (defScope s__law_signs) .none kV26 dc26 pm26 an26 cd26 ct26), sl26⟩)
    (c26 : PySem.W.codeIn K cd26 "_law_signs" = true)
    (k26 : PySem.W.keepIn K (.ref f26) = true)
    (a27 : PySem.W.nsIn K mainGlobals "_law_keywords" = some (some (.ref f27)))
    (l27 : K.lookup f27 = some ⟨oc27, od27, .func (PySem.W.fnOf "_law_keywords" "_law_keywords" (defArgs s__law_keywords) (defBody s__law_keywords) (defScope s__law_keywords) .none kV27 dc27 pm27 an27 cd27 ct27), sl27⟩)
    (c27 : PySem.W.codeIn K cd27 "_law_keywords" = true)
    (k27 : PySem.W.keepIn K (.ref f27) = true)
    (a28 : PySem.W.nsIn K mainGlobals "_law_letters" = some (some (.ref f28)))
    (l28 : K.lookup f28 = some ⟨oc28, od28, .func (PySem.W.fnOf "_law_letters" "_law_letters" (defArgs s__law_letters) (defBody s__law_letters) (defScope s__law_letters) .none kV28 dc28 pm28 an28 cd28 ct28), sl28⟩)
    (c28 : PySem.W.codeIn K cd28 "_law_letters" = true)
    (k28 : PySem.W.keepIn K (.ref f28) = true)
    (a29 : PySem.W.nsIn K mainGlobals "_law_allowed" = some (some (.ref f29)))
    (l29 : K.lookup f29 = some ⟨oc29, od29, .func (PySem.W.fnOf "_law_allowed" "_law_allowed" (defArgs s__law_allowed) (defBody s__law_allowed) (defScope s__law_allowed) .none kV29 dc29 pm29 an29 cd29 ct29), sl29⟩)
    (c29 : PySem.W.codeIn K cd29 "_law_allowed" = true)
    (k29 : PySem.W.keepIn K (.ref f29) = true)
    (a30 : PySem.W.nsIn K mainGlobals "_law_name" = some (some (.ref f30)))
    (l30 : K.lookup f30 = some ⟨oc30, od30, .func (PySem.W.fnOf "_law_name" "_law_name" (defArgs s__law_name) (defBody s__law_name) (defScope s__law_name) .none kV30 dc30 pm30 an30 cd30 ct30), sl30⟩)
    (c30 : PySem.W.codeIn K cd30 "_law_name" = true)
    (k30 : PySem.W.keepIn K (.ref f30) = true)
    (a31 : PySem.W.nsIn K mainGlobals "_law_figures" = some (some (.ref f31)))
    (l31 : K.lookup f31 = some ⟨oc31, od31, .func (PySem.W.fnOf "_law_figures" "_law_figures" (defArgs s__law_figures) (defBody s__law_figures) (defScope s__law_figures) .none kV31 dc31 pm31 an31 cd31 ct31), sl31⟩)
    (c31 : PySem.W.codeIn K cd31 "_law_figures" = true)
    (k31 : PySem.W.keepIn K (.ref f31) = true)
    (a32 : PySem.W.nsIn K mainGlobals "_law_quoted" = some (some (.ref f32)))
    (l32 : K.lookup f32 = some ⟨oc32, od32, .func (PySem.W.fnOf "_law_quoted" "_law_quoted" (defArgs s__law_quoted) (defBody s__law_quoted) (defScope s__law_quoted) .none kV32 dc32 pm32 an32 cd32 ct32), sl32⟩)
    (c32 : PySem.W.codeIn K cd32 "_law_quoted" = true)
    (k32 : PySem.W.keepIn K (.ref f32) = true)
    (a33 : PySem.W.nsIn K mainGlobals "_law_word" = some (some (.ref f33)))
    (l33 : K.lookup f33 = some ⟨oc33, od33, .func (PySem.W.fnOf "_law_word" "_law_word" (defArgs s__law_word) (defBody s__law_word) (defScope s__law_word) .none kV33 dc33 pm33 an33 cd33 ct33), sl33⟩)
    (c33 : PySem.W.codeIn K cd33 "_law_word" = true)
    (k33 : PySem.W.keepIn K (.ref f33) = true)
    (a34 : PySem.W.nsIn K mainGlobals "_law_odd" = some (some (.ref f34)))
    (l34 : K.lookup f34 = some ⟨oc34, od34, .func (PySem.W.fnOf "_law_odd" "_law_odd" (defArgs s__law_odd) (defBody s__law_odd) (defScope s__law_odd) .none kV34 dc34 pm34 an34 cd34 ct34), sl34⟩)
    (c34 : PySem.W.codeIn K cd34 "_law_odd" = true)
    (k34 : PySem.W.keepIn K (.ref f34) = true)
    (a35 : PySem.W.nsIn K mainGlobals "_law_comment" = some (some (.ref f35)))
    (l35 : K.lookup f35 = some ⟨oc35, od35, .func (PySem.W.fnOf "_law_comment" "_law_comment" (defArgs s__law_comment) (defBody s__law_comment) (defScope s__law_comment) .none kV35 dc35 pm35 an35 cd35 ct35), sl35⟩)
    (c35 : PySem.W.codeIn K cd35 "_law_comment" = true)
    (k35 : PySem.W.keepIn K (.ref f35) = true)
    (a36 : PySem.W.nsIn K mainGlobals "_law_row_end" = some (some (.ref f36)))
    (l36 : K.lookup f36 = some ⟨oc36, od36, .func (PySem.W.fnOf "_law_row_end" "_law_row_end" (defArgs s__law_row_end) (defBody s__law_row_end) (defScope s__law_row_end) .none kV36 dc36 pm36 an36 cd36 ct36), sl36⟩)
    (c36 : PySem.W.codeIn K cd36 "_law_row_end" = true)
    (k36 : PySem.W.keepIn K (.ref f36) = true)
    (a37 : PySem.W.nsIn K mainGlobals "_law_pieces" = some (some (.ref f37)))
    (l37 : K.lookup f37 = some ⟨oc37, od37, .func (PySem.W.fnOf "_law_pieces" "_law_pieces" (defArgs s__law_pieces) (defBody s__law_pieces) (defScope s__law_pieces) .none kV37 dc37 pm37 an37 cd37 ct37), sl37⟩)
    (c37 : PySem.W.codeIn K cd37 "_law_pieces" = true)
    (k37 : PySem.W.keepIn K (.ref f37) = true)
    (a38 : PySem.W.nsIn K mainGlobals "_law_source" = some (some (.ref f38)))
    (l38 : K.lookup f38 = some ⟨oc38, od38, .func (PySem.W.fnOf "_law_source" "_law_source" (defArgs s__law_source) (defBody s__law_source) (defScope s__law_source) .none kV38 dc38 pm38 an38 cd38 ct38), sl38⟩)
    (c38 : PySem.W.codeIn K cd38 "_law_source" = true)
    (k38 : PySem.W.keepIn K (.ref f38) = true)
    (a39 : PySem.W.nsIn K mainGlobals "_law_edited" = some (some (.ref f39)))
    (l39 : K.lookup f39 = some ⟨oc39, od39, .func (PySem.W.fnOf "_law_edited" "_law_edited" (defArgs s__law_edited) (defBody s__law_edited) (defScope s__law_edited) .none kV39 dc39 pm39 an39 cd39 ct39), sl39⟩)
    (c39 : PySem.W.codeIn K cd39 "_law_edited" = true)
    (k39 : PySem.W.keepIn K (.ref f39) = true)
    (a40 : PySem.W.nsIn K mainGlobals "_law_extent" = some (some (.ref f40)))
    (l40 : K.lookup f40 = some ⟨oc40, od40, .func (PySem.W.fnOf "_law_extent" "_law_extent" (defArgs s__law_extent) (defBody s__law_extent) (defScope s__law_extent) .none kV40 dc40 pm40 an40 cd40 ct40), sl40⟩)
    (c40 : PySem.W.codeIn K cd40 "_law_extent" = true)
    (k40 : PySem.W.keepIn K (.ref f40) = true)
    (a41 : PySem.W.nsIn K mainGlobals "_law_block_fault" = some (some (.ref f41)))
    (l41 : K.lookup f41 = some ⟨oc41, od41, .func (PySem.W.fnOf "_law_block_fault" "_law_block_fault" (defArgs s__law_block_fault) (defBody s__law_block_fault) (defScope s__law_block_fault) .none kV41 dc41 pm41 an41 cd41 ct41), sl41⟩)
    (c41 : PySem.W.codeIn K cd41 "_law_block_fault" = true)
    (k41 : PySem.W.keepIn K (.ref f41) = true)
    (a42 : PySem.W.nsIn K mainGlobals "_law_first_fault" = some (some (.ref f42)))
    (l42 : K.lookup f42 = some ⟨oc42, od42, .func (PySem.W.fnOf "_law_first_fault" "_law_first_fault" (defArgs s__law_first_fault) (defBody s__law_first_fault) (defScope s__law_first_fault) .none kV42 dc42 pm42 an42 cd42 ct42), sl42⟩)
    (c42 : PySem.W.codeIn K cd42 "_law_first_fault" = true)
    (k42 : PySem.W.keepIn K (.ref f42) = true)
    (a43 : PySem.W.nsIn K mainGlobals "_law_fault" = some (some (.ref f43)))
    (l43 : K.lookup f43 = some ⟨oc43, od43, .func (PySem.W.fnOf "_law_fault" "_law_fault" (defArgs s__law_fault) (defBody s__law_fault) (defScope s__law_fault) .none kV43 dc43 pm43 an43 cd43 ct43), sl43⟩)
    (c43 : PySem.W.codeIn K cd43 "_law_fault" = true)
    (k43 : PySem.W.keepIn K (.ref f43) = true)
    (a44 : PySem.W.nsIn K mainGlobals "_law_quoted_size" = some (some (.ref f44)))
    (l44 : K.lookup f44 = some ⟨oc44, od44, .func (PySem.W.fnOf "_law_quoted_size" "_law_quoted_size" (defArgs s__law_quoted_size) (defBody s__law_quoted_size) (defScope s__law_quoted_size) .none kV44 dc44 pm44 an44 cd44 ct44), sl44⟩)
    (c44 : PySem.W.codeIn K cd44 "_law_quoted_size" = true)
    (k44 : PySem.W.keepIn K (.ref f44) = true)
    (a45 : PySem.W.nsIn K mainGlobals "_law_size" = some (some (.ref f45)))
    (l45 : K.lookup f45 = some ⟨oc45, od45, .func (PySem.W.fnOf "_law_size" "_law_size" (defArgs s__law_size) (defBody s__law_size) (defScope s__law_size) .none kV45 dc45 pm45 an45 cd45 ct45), sl45⟩)
    (c45 : PySem.W.codeIn K cd45 "_law_size" = true)
    (k45 : PySem.W.keepIn K (.ref f45) = true)
    (a46 : PySem.W.nsIn K mainGlobals "_law_next_spot" = some (some (.ref f46)))
    (l46 : K.lookup f46 = some ⟨oc46, od46, .func (PySem.W.fnOf "_law_next_spot" "_law_next_spot" (defArgs s__law_next_spot) (defBody s__law_next_spot) (defScope s__law_next_spot) .none kV46 dc46 pm46 an46 cd46 ct46), sl46⟩)
    (c46 : PySem.W.codeIn K cd46 "_law_next_spot" = true)
    (k46 : PySem.W.keepIn K (.ref f46) = true)
    (a47 : PySem.W.nsIn K mainGlobals "_law_margin" = some (some (.ref f47)))
    (l47 : K.lookup f47 = some ⟨oc47, od47, .func (PySem.W.fnOf "_law_margin" "_law_margin" (defArgs s__law_margin) (defBody s__law_margin) (defScope s__law_margin) .none kV47 dc47 pm47 an47 cd47 ct47), sl47⟩)
    (c47 : PySem.W.codeIn K cd47 "_law_margin" = true)
    (k47 : PySem.W.keepIn K (.ref f47) = true)
    (a48 : PySem.W.nsIn K mainGlobals "_law_follows" = some (some (.ref f48)))
    (l48 : K.lookup f48 = some ⟨oc48, od48, .func (PySem.W.fnOf "_law_follows" "_law_follows" (defArgs s__law_follows) (defBody s__law_follows) (defScope s__law_follows) .none kV48 dc48 pm48 an48 cd48 ct48), sl48⟩)
    (c48 : PySem.W.codeIn K cd48 "_law_follows" = true)
    (k48 : PySem.W.keepIn K (.ref f48) = true)
    (a49 : PySem.W.nsIn K mainGlobals "_law_is_tokens" = some (some (.ref f49)))
    (l49 : K.lookup f49 = some ⟨oc49, od49, .func (PySem.W.fnOf "_law_is_tokens" "_law_is_tokens" (defArgs s__law_is_tokens) (defBody s__law_is_tokens) (defScope s__law_is_tokens) .none kV49 dc49 pm49 an49 cd49 ct49), sl49⟩)
    (c49 : PySem.W.codeIn K cd49 "_law_is_tokens" = true)
    (k49 : PySem.W.keepIn K (.ref f49) = true)
    (a50 : PySem.W.nsIn K mainGlobals "_law_classes" = some (some (.ref f50)))
    (l50 : K.lookup f50 = some ⟨oc50, od50, .func (PySem.W.fnOf "_law_classes" "_law_classes" (defArgs s__law_classes) (defBody s__law_classes) (defScope s__law_classes) .none kV50 dc50 pm50 an50 cd50 ct50), sl50⟩)
    (c50 : PySem.W.codeIn K cd50 "_law_classes" = true)
    (k50 : PySem.W.keepIn K (.ref f50) = true)
    (a51 : PySem.W.nsIn K mainGlobals "_law_is_raised" = some (some (.ref f51)))
    (l51 : K.lookup f51 = some ⟨oc51, od51, .func (PySem.W.fnOf "_law_is_raised" "_law_is_raised" (defArgs s__law_is_raised) (defBody s__law_is_raised) (defScope s__law_is_raised) .none kV51 dc51 pm51 an51 cd51 ct51), sl51⟩)
    (c51 : PySem.W.codeIn K cd51 "_law_is_raised" = true)
    (k51 : PySem.W.keepIn K (.ref f51) = true)
    (a52 : PySem.W.nsIn K mainGlobals "_law_is_right" = some (some (.ref f52)))
    (l52 : K.lookup f52 = some ⟨oc52, od52, .func (PySem.W.fnOf "_law_is_right" "_law_is_right" (defArgs s__law_is_right) (defBody s__law_is_right) (defScope s__law_is_right) .none kV52 dc52 pm52 an52 cd52 ct52), sl52⟩)
    (c52 : PySem.W.codeIn K cd52 "_law_is_right" = true)
    (k52 : PySem.W.keepIn K (.ref f52) = true)
    (a53 : PySem.W.nsIn K mainGlobals "law" = some (some (.ref f53)))
    (l53 : K.lookup f53 = some ⟨oc53, od53, .func (PySem.W.fnOf "law" "law" (defArgs s_law) (defBody s_law) (defScope s_law) .none kV53 dc53 pm53 an53 cd53 ct53), sl53⟩)
    (c53 : PySem.W.codeIn K cd53 "law" = true)
    (k53 : PySem.W.keepIn K (.ref f53) = true)
    (z_ValueError : PySem.W.nsIn K mainGlobals "ValueError" = some none)
    (z_all : PySem.W.nsIn K mainGlobals "all" = some none)
    (z_bool : PySem.W.nsIn K mainGlobals "bool" = some none)
    (z_enumerate : PySem.W.nsIn K mainGlobals "enumerate" = some none)
    (z_int : PySem.W.nsIn K mainGlobals "int" = some none)
    (z_isinstance : PySem.W.nsIn K mainGlobals "isinstance" = some none)
    (z_len : PySem.W.nsIn K mainGlobals "len" = some none)
    (z_list : PySem.W.nsIn K mainGlobals "list" = some none)
    (z_ord : PySem.W.nsIn K mainGlobals "ord" = some none)
    (z_range : PySem.W.nsIn K mainGlobals "range" = some none)
    (z_reversed : PySem.W.nsIn K mainGlobals "reversed" = some none)
    (z_str : PySem.W.nsIn K mainGlobals "str" = some none)
    (z_tuple : PySem.W.nsIn K mainGlobals "tuple" = some none)
    (q_PERCENT : PySem.W.nsIn K mainGlobals "PERCENT" = some (some (.int 37 t_PERCENT)))
    (q_NAME_LIMIT : PySem.W.nsIn K mainGlobals "NAME_LIMIT" = some (some (.int 30 t_NAME_LIMIT)))
    (q_NUMBER_LIMIT : PySem.W.nsIn K mainGlobals "NUMBER_LIMIT" = some (some (.int 40 t_NUMBER_LIMIT)))
    (q_TEXT_LIMIT : PySem.W.nsIn K mainGlobals "TEXT_LIMIT" = some (some (.int 6000 t_TEXT_LIMIT)))
    (q_ROW_LIMIT : PySem.W.nsIn K mainGlobals "ROW_LIMIT" = some (some (.int 120 t_ROW_LIMIT)))
    (q_TOKEN_LIMIT : PySem.W.nsIn K mainGlobals "TOKEN_LIMIT" = some (some (.int 120 t_TOKEN_LIMIT)))
    (q_INDENT_LIMIT : PySem.W.nsIn K mainGlobals "INDENT_LIMIT" = some (some (.int 11 t_INDENT_LIMIT)))
    (q_KEYWORDS : PySem.W.nsIn K mainGlobals "KEYWORDS" = some (some (.ref a_KEYWORDS)))
    (l_KEYWORDS : K.lookup a_KEYWORDS = some ⟨.type "tuple", od_KEYWORDS, .seq its_KEYWORDS n_KEYWORDS, sl_KEYWORDS⟩)
    (v_KEYWORDS : its_KEYWORDS.toList.map absV = KW.map (fun l => some (V.str (S l))))
    (w_KEYWORDS : its_KEYWORDS.size ≤ 1000)
    (q_SIGNS : PySem.W.nsIn K mainGlobals "SIGNS" = some (some (.ref a_SIGNS)))
    (l_SIGNS : K.lookup a_SIGNS = some ⟨.type "tuple", od_SIGNS, .seq its_SIGNS n_SIGNS, sl_SIGNS⟩)
    (v_SIGNS : its_SIGNS.toList.map absV = SG.map (fun l => some (V.str (S l))))
    (w_SIGNS : its_SIGNS.size ≤ 1000)
    (q_OPENING : PySem.W.nsIn K mainGlobals "OPENING" = some (some (.ref a_OPENING)))
    (l_OPENING : K.lookup a_OPENING = some ⟨.type "tuple", od_OPENING, .seq its_OPENING n_OPENING, sl_OPENING⟩)
    (v_OPENING : its_OPENING.toList.map absV = OPN.map (fun l => some (V.str (S l))))
    (w_OPENING : its_OPENING.size ≤ 1000)
    (q_ESCAPES : PySem.W.nsIn K mainGlobals "ESCAPES" = some (some (.ref a_ESCAPES)))
    (l_ESCAPES : K.lookup a_ESCAPES = some ⟨.type "dict", none, .dict #[⟨hESCAPES0, .str (Str.ofString "n") tESCAPES0, .str (Str.ofString "\n") uESCAPES0⟩, ⟨hESCAPES1, .str (Str.ofString "\\") tESCAPES1, .str (Str.ofString "\\") uESCAPES1⟩, ⟨hESCAPES2, .str (Str.ofString "'") tESCAPES2, .str (Str.ofString "'") uESCAPES2⟩, ⟨hESCAPES3, .str (Str.ofString "\"") tESCAPES3, .str (Str.ofString "\"") uESCAPES3⟩] n_ESCAPES, #[]⟩)
    (w_ESCAPES : (a_ESCAPES == sysModules) = false)
    (eESCAPES0 : hESCAPES0 = PyData.keyHash w.params (Str.ofString "n"))
    (eESCAPES1 : hESCAPES1 = PyData.keyHash w.params (Str.ofString "\\"))
    (eESCAPES2 : hESCAPES2 = PyData.keyHash w.params (Str.ofString "'"))
    (eESCAPES3 : hESCAPES3 = PyData.keyHash w.params (Str.ofString "\""))
    (q_CLOSING : PySem.W.nsIn K mainGlobals "CLOSING" = some (some (.ref a_CLOSING)))
    (l_CLOSING : K.lookup a_CLOSING = some ⟨.type "dict", none, .dict #[⟨hCLOSING0, .str (Str.ofString ")") tCLOSING0, .str (Str.ofString "(") uCLOSING0⟩, ⟨hCLOSING1, .str (Str.ofString "]") tCLOSING1, .str (Str.ofString "[") uCLOSING1⟩, ⟨hCLOSING2, .str (Str.ofString "}") tCLOSING2, .str (Str.ofString "{") uCLOSING2⟩] n_CLOSING, #[]⟩)
    (w_CLOSING : (a_CLOSING == sysModules) = false)
    (eCLOSING0 : hCLOSING0 = PyData.keyHash w.params (Str.ofString ")"))
    (eCLOSING1 : hCLOSING1 = PyData.keyHash w.params (Str.ofString "]"))
    (eCLOSING2 : hCLOSING2 = PyData.keyHash w.params (Str.ofString "}"))
    (gS : PySem.W.nsIn K mainGlobals "Scanner" = some (some (.ref CC)))
    (pgS : PySem.W.plainGet K CC Str.empty = true)
    (hdS : PySem.W.hasDictIn K CC = true)
    (poS : PySem.W.plainOver K CC = true)
    (saS : PySem.W.findIn K (.ref CC) "__setattr__" = some (some (.builtin "object.__setattr__")))
    (mkS : PySem.W.makesIn K CC = true)
    (kcS : PySem.W.keepIn K (.ref CC) = true)
    (n_marks : PySem.W.findIn K (.ref CC) "marks" = some none)
    (n_brackets : PySem.W.findIn K (.ref CC) "brackets" = some none)
    (n_indents : PySem.W.findIn K (.ref CC) "indents" = some none)
    (n_many : PySem.W.findIn K (.ref CC) "many" = some none)
    (n_behind : PySem.W.findIn K (.ref CC) "behind" = some none)
    (g_0 : PySem.W.nsIn K mainGlobals "BadSign" = some (some (.ref C0)))
    (o_0 : K.lookup C0 = some (excClassObj nm0x q0x C0 N0x bs0x bm0x true sn0x sub0x ab0x col0x dd0x k00x k10x k20x k30x k50x "ValueError.__new__"))
    (r_0 : PySem.HandSPX.refsVE bm0x = true)
    (sa_0 : PySem.W.findIn K (.ref C0) "__setattr__" = some (some (.builtin "object.__setattr__")))
    (xb_0 : PySem.W.subIn K (.ref C0) (.type "BaseException") = some true)
    (ty_0 : PySem.W.typeIn K (.ref C0) = some (.type "type"))
    (kc_0 : PySem.W.keepIn K (.ref C0) = true)
    (nl_0 : PySem.W.findIn K (.ref C0) "line" = some none)
    (nc_0 : PySem.W.findIn K (.ref C0) "column" = some none)
    (cl_0 : PySem.W.isClsIn K C0 = true)
    (hg_0 : PySem.W.findIn K (.ref C0) "__getattribute__" = some (some (.builtin "BaseException.__getattribute__")))
    (hk_0 : PySem.W.findIn K (.ref C0) "__getattr__" = some none)
    (hd_0 : PySem.W.hasDictIn K C0 = true)
    (ha_0 : PySem.W.findIn K (.ref C0) "__class__" = some (some (.builtin "object.__class__")))
    (hm_0 : PySem.W.mroIn K C0 (.type "object") = some true)
    (sv_0 : PySem.W.subIn K (.ref C0) (.type "ValueError") = some true)
    (ne_01 : (C0 == C1) = false)
    (ss_01 : PySem.W.subIn K (.ref C0) (.ref C1) = some false)
    (ne_02 : (C0 == C2) = false)
    (ss_02 : PySem.W.subIn K (.ref C0) (.ref C2) = some false)
    (ne_03 : (C0 == C3) = false)
    (ss_03 : PySem.W.subIn K (.ref C0) (.ref C3) = some false)
    (ne_04 : (C0 == C4) = false)
    (ss_04 : PySem.W.subIn K (.ref C0) (.ref C4) = some false)
    (ne_0Y : (C0 == CY) = false)
    (ss_0Y : PySem.W.subIn K (.ref C0) (.ref CY) = some false)
    (ne_0O : (C0 == CO) = false)
    (ss_0O : PySem.W.subIn K (.ref C0) (.ref CO) = some false)
    (ne_0L : (C0 == CL) = false)
    (ss_0L : PySem.W.subIn K (.ref C0) (.ref CL) = some true)
    (ss_0S : PySem.W.subIn K (.ref C0) (.ref CS) = some true)
    (g_1 : PySem.W.nsIn K mainGlobals "BadToken" = some (some (.ref C1)))
    (o_1 : K.lookup C1 = some (excClassObj nm1x q1x C1 N1x bs1x bm1x true sn1x sub1x ab1x col1x dd1x k01x k11x k21x k31x k51x "ValueError.__new__"))
    (r_1 : PySem.HandSPX.refsVE bm1x = true)
    (sa_1 : PySem.W.findIn K (.ref C1) "__setattr__" = some (some (.builtin "object.__setattr__")))
    (xb_1 : PySem.W.subIn K (.ref C1) (.type "BaseException") = some true)
    (ty_1 : PySem.W.typeIn K (.ref C1) = some (.type "type"))
    (kc_1 : PySem.W.keepIn K (.ref C1) = true)
    (nl_1 : PySem.W.findIn K (.ref C1) "line" = some none)
    (nc_1 : PySem.W.findIn K (.ref C1) "column" = some none)
    (cl_1 : PySem.W.isClsIn K C1 = true)
    (hg_1 : PySem.W.findIn K (.ref C1) "__getattribute__" = some (some (.builtin "BaseException.__getattribute__")))
    (hk_1 : PySem.W.findIn K (.ref C1) "__getattr__" = some none)
    (hd_1 : PySem.W.hasDictIn K C1 = true)
    (ha_1 : PySem.W.findIn K (.ref C1) "__class__" = some (some (.builtin "object.__class__")))
    (hm_1 : PySem.W.mroIn K C1 (.type "object") = some true)
    (sv_1 : PySem.W.subIn K (.ref C1) (.type "ValueError") = some true)
    (ne_10 : (C1 == C0) = false)
    (ss_10 : PySem.W.subIn K (.ref C1) (.ref C0) = some false)
    (ne_12 : (C1 == C2) = false)
    (ss_12 : PySem.W.subIn K (.ref C1) (.ref C2) = some false)
    (ne_13 : (C1 == C3) = false)
    (ss_13 : PySem.W.subIn K (.ref C1) (.ref C3) = some false)
    (ne_14 : (C1 == C4) = false)
    (ss_14 : PySem.W.subIn K (.ref C1) (.ref C4) = some false)
    (ne_1Y : (C1 == CY) = false)
    (ss_1Y : PySem.W.subIn K (.ref C1) (.ref CY) = some false)
    (ne_1O : (C1 == CO) = false)
    (ss_1O : PySem.W.subIn K (.ref C1) (.ref CO) = some false)
    (ne_1L : (C1 == CL) = false)
    (ss_1L : PySem.W.subIn K (.ref C1) (.ref CL) = some true)
    (ss_1S : PySem.W.subIn K (.ref C1) (.ref CS) = some true)
    (g_2 : PySem.W.nsIn K mainGlobals "BadIndent" = some (some (.ref C2)))
    (o_2 : K.lookup C2 = some (excClassObj nm2x q2x C2 N2x bs2x bm2x true sn2x sub2x ab2x col2x dd2x k02x k12x k22x k32x k52x "ValueError.__new__"))
    (r_2 : PySem.HandSPX.refsVE bm2x = true)
    (sa_2 : PySem.W.findIn K (.ref C2) "__setattr__" = some (some (.builtin "object.__setattr__")))
    (xb_2 : PySem.W.subIn K (.ref C2) (.type "BaseException") = some true)
    (ty_2 : PySem.W.typeIn K (.ref C2) = some (.type "type"))
    (kc_2 : PySem.W.keepIn K (.ref C2) = true)
    (nl_2 : PySem.W.findIn K (.ref C2) "line" = some none)
    (nc_2 : PySem.W.findIn K (.ref C2) "column" = some none)
    (cl_2 : PySem.W.isClsIn K C2 = true)
    (hg_2 : PySem.W.findIn K (.ref C2) "__getattribute__" = some (some (.builtin "BaseException.__getattribute__")))
    (hk_2 : PySem.W.findIn K (.ref C2) "__getattr__" = some none)
    (hd_2 : PySem.W.hasDictIn K C2 = true)
    (ha_2 : PySem.W.findIn K (.ref C2) "__class__" = some (some (.builtin "object.__class__")))
    (hm_2 : PySem.W.mroIn K C2 (.type "object") = some true)
    (sv_2 : PySem.W.subIn K (.ref C2) (.type "ValueError") = some true)
    (ne_20 : (C2 == C0) = false)
    (ss_20 : PySem.W.subIn K (.ref C2) (.ref C0) = some false)
    (ne_21 : (C2 == C1) = false)
    (ss_21 : PySem.W.subIn K (.ref C2) (.ref C1) = some false)
    (ne_23 : (C2 == C3) = false)
    (ss_23 : PySem.W.subIn K (.ref C2) (.ref C3) = some false)
    (ne_24 : (C2 == C4) = false)
    (ss_24 : PySem.W.subIn K (.ref C2) (.ref C4) = some false)
    (ne_2Y : (C2 == CY) = false)
    (ss_2Y : PySem.W.subIn K (.ref C2) (.ref CY) = some false)
    (ne_2O : (C2 == CO) = false)
    (ss_2O : PySem.W.subIn K (.ref C2) (.ref CO) = some false)
    (ne_2L : (C2 == CL) = false)
    (ss_2L : PySem.W.subIn K (.ref C2) (.ref CL) = some true)
    (ss_2S : PySem.W.subIn K (.ref C2) (.ref CS) = some true)
    (g_3 : PySem.W.nsIn K mainGlobals "TooLong" = some (some (.ref C3)))
    (o_3 : K.lookup C3 = some (excClassObj nm3x q3x C3 N3x bs3x bm3x true sn3x sub3x ab3x col3x dd3x k03x k13x k23x k33x k53x "ValueError.__new__"))
    (r_3 : PySem.HandSPX.refsVE bm3x = true)
    (sa_3 : PySem.W.findIn K (.ref C3) "__setattr__" = some (some (.builtin "object.__setattr__")))
    (xb_3 : PySem.W.subIn K (.ref C3) (.type "BaseException") = some true)
    (ty_3 : PySem.W.typeIn K (.ref C3) = some (.type "type"))
    (kc_3 : PySem.W.keepIn K (.ref C3) = true)
    (nl_3 : PySem.W.findIn K (.ref C3) "line" = some none)
    (nc_3 : PySem.W.findIn K (.ref C3) "column" = some none)
    (cl_3 : PySem.W.isClsIn K C3 = true)
    (hg_3 : PySem.W.findIn K (.ref C3) "__getattribute__" = some (some (.builtin "BaseException.__getattribute__")))
    (hk_3 : PySem.W.findIn K (.ref C3) "__getattr__" = some none)
    (hd_3 : PySem.W.hasDictIn K C3 = true)
    (ha_3 : PySem.W.findIn K (.ref C3) "__class__" = some (some (.builtin "object.__class__")))
    (hm_3 : PySem.W.mroIn K C3 (.type "object") = some true)
    (sv_3 : PySem.W.subIn K (.ref C3) (.type "ValueError") = some true)
    (ne_30 : (C3 == C0) = false)
    (ss_30 : PySem.W.subIn K (.ref C3) (.ref C0) = some false)
    (ne_31 : (C3 == C1) = false)
    (ss_31 : PySem.W.subIn K (.ref C3) (.ref C1) = some false)
    (ne_32 : (C3 == C2) = false)
    (ss_32 : PySem.W.subIn K (.ref C3) (.ref C2) = some false)
    (ne_34 : (C3 == C4) = false)
    (ss_34 : PySem.W.subIn K (.ref C3) (.ref C4) = some false)
    (ne_3Y : (C3 == CY) = false)
    (ss_3Y : PySem.W.subIn K (.ref C3) (.ref CY) = some false)
    (ne_3O : (C3 == CO) = false)
    (ss_3O : PySem.W.subIn K (.ref C3) (.ref CO) = some false)
    (ne_3L : (C3 == CL) = false)
    (ss_3L : PySem.W.subIn K (.ref C3) (.ref CL) = some true)
    (ss_3S : PySem.W.subIn K (.ref C3) (.ref CS) = some true)
    (g_4 : PySem.W.nsIn K mainGlobals "TooDeep" = some (some (.ref C4)))
    (o_4 : K.lookup C4 = some (excClassObj nm4x q4x C4 N4x bs4x bm4x true sn4x sub4x ab4x col4x dd4x k04x k14x k24x k34x k54x "ValueError.__new__"))
    (r_4 : PySem.HandSPX.refsVE bm4x = true)
    (sa_4 : PySem.W.findIn K (.ref C4) "__setattr__" = some (some (.builtin "object.__setattr__")))
    (xb_4 : PySem.W.subIn K (.ref C4) (.type "BaseException") = some true)
    (ty_4 : PySem.W.typeIn K (.ref C4) = some (.type "type"))
    (kc_4 : PySem.W.keepIn K (.ref C4) = true)
    (nl_4 : PySem.W.findIn K (.ref C4) "line" = some none)
    (nc_4 : PySem.W.findIn K (.ref C4) "column" = some none)
    (cl_4 : PySem.W.isClsIn K C4 = true)
    (hg_4 : PySem.W.findIn K (.ref C4) "__getattribute__" = some (some (.builtin "BaseException.__getattribute__")))
    (hk_4 : PySem.W.findIn K (.ref C4) "__getattr__" = some none)
    (hd_4 : PySem.W.hasDictIn K C4 = true)
    (ha_4 : PySem.W.findIn K (.ref C4) "__class__" = some (some (.builtin "object.__class__")))
    (hm_4 : PySem.W.mroIn K C4 (.type "object") = some true)
    (sv_4 : PySem.W.subIn K (.ref C4) (.type "ValueError") = some true)
    (ne_40 : (C4 == C0) = false)
    (ss_40 : PySem.W.subIn K (.ref C4) (.ref C0) = some false)
    (ne_41 : (C4 == C1) = false)
    (ss_41 : PySem.W.subIn K (.ref C4) (.ref C1) = some false)
    (ne_42 : (C4 == C2) = false)
    (ss_42 : PySem.W.subIn K (.ref C4) (.ref C2) = some false)
    (ne_43 : (C4 == C3) = false)
    (ss_43 : PySem.W.subIn K (.ref C4) (.ref C3) = some false)
    (ne_4Y : (C4 == CY) = false)
    (ss_4Y : PySem.W.subIn K (.ref C4) (.ref CY) = some false)
    (ne_4O : (C4 == CO) = false)
    (ss_4O : PySem.W.subIn K (.ref C4) (.ref CO) = some false)
    (ne_4L : (C4 == CL) = false)
    (ss_4L : PySem.W.subIn K (.ref C4) (.ref CL) = some true)
    (ss_4S : PySem.W.subIn K (.ref C4) (.ref CS) = some true)
    (hn : PySem.W.specialIn K (.builtin "object.__class__") "__get__" = some (some (.builtin "getset_descriptor.__get__")))
    (ht : PySem.W.takesIn K (.builtin "object.__class__") = some true)
    (g_Y : PySem.W.nsIn K mainGlobals "BadSyntax" = some (some (.ref CY)))
    (ty_Y : PySem.W.typeIn K (.ref CY) = some (.type "type"))
    (cl_Y : PySem.W.isClsIn K CY = true)
    (g_O : PySem.W.nsIn K mainGlobals "BadScope" = some (some (.ref CO)))
    (ty_O : PySem.W.typeIn K (.ref CO) = some (.type "type"))
    (cl_O : PySem.W.isClsIn K CO = true)
    (g_L : PySem.W.nsIn K mainGlobals "LikerunError" = some (some (.ref CL)))
    (ty_L : PySem.W.typeIn K (.ref CL) = some (.type "type"))
    (cl_L : PySem.W.isClsIn K CL = true)
    (g_S : PySem.W.nsIn K mainGlobals "SourceError" = some (some (.ref CS)))
    (ty_S : PySem.W.typeIn K (.ref CS) = some (.type "type"))
    (xb_S : PySem.W.subIn K (.ref CS) (.type "BaseException") = some true)
    (hd_S : PySem.W.hasDictIn K CS = true) :
    ∃ fd : FuncData, (∀ (s : Shared) (v : Value), BindsTo s fd ⟨[v], []⟩ [("script", v)]) ∧ ∀ base : Heap, K.In base → base.Ns mainGlobals mg → FnOk l.prog w K mg base CX0 9 fa fd ["script"] (spLaw K) := by
  have e := hfa.symm.trans (PySem.W.mg_of X G a53)
  cases e
  have g1 : ∃ fI fd, (∀ k : Er, PySem.W.findIn K (.ref (ecf C0 C1 C2 C3 C4 k)) "__init__" = some (some (.ref fI))) ∧ PySem.W.typeIn K (.ref fI) = some (.type "function") ∧ Binds K fd p_SourceError___init__ [] ∧ Fun K "__init__" "SourceError.__init__" s_SourceError___init__ fI fd := ⟨_, _, (fun k => by cases k <;> assumption), i1, ((fun_mk (st := s_SourceError___init__) l1 c1 k1).binds (ps := p_SourceError___init__) fun _ _ _ _ _ _ us hl => match us, hl with | [_, _, _], _ => rfl), (fun_mk (st := s_SourceError___init__) l1 c1 k1)⟩
  have g2 : Gv K mg "is_row" s_is_row p_is_row := ⟨_, _, (fun_mk (st := s_is_row) l2 c2 k2), PySem.W.mg_of X G a2, ((fun_mk (st := s_is_row) l2 c2 k2).binds (ps := p_is_row) fun _ _ _ _ _ _ us hl => match us, hl with | [_], _ => rfl)⟩
  have g3 : Gv K mg "is_letter" s_is_letter p_is_letter := ⟨_, _, (fun_mk (st := s_is_letter) l3 c3 k3), PySem.W.mg_of X G a3, ((fun_mk (st := s_is_letter) l3 c3 k3).binds (ps := p_is_letter) fun _ _ _ _ _ _ us hl => match us, hl with | [_], _ => rfl)⟩
  have g4 : Gv K mg "is_digit" s_is_digit p_is_digit := ⟨_, _, (fun_mk (st := s_is_digit) l4 c4 k4), PySem.W.mg_of X G a4, ((fun_mk (st := s_is_digit) l4 c4 k4).binds (ps := p_is_digit) fun _ _ _ _ _ _ us hl => match us, hl with | [_], _ => rfl)⟩
  have g5 : Gv K mg "digits_end" s_digits_end p_digits_end := ⟨_, _, (fun_mk (st := s_digits_end) l5 c5 k5), PySem.W.mg_of X G a5, ((fun_mk (st := s_digits_end) l5 c5 k5).binds (ps := p_digits_end) fun _ _ _ _ _ _ us hl => match us, hl with | [_, _], _ => rfl)⟩
  have g6 : Gv K mg "name_end" s_name_end p_name_end := ⟨_, _, (fun_mk (st := s_name_end) l6 c6 k6), PySem.W.mg_of X G a6, ((fun_mk (st := s_name_end) l6 c6 k6).binds (ps := p_name_end) fun _ _ _ _ _ _ us hl => match us, hl with | [_, _], _ => rfl)⟩
  have g7 : Gv K mg "scan_token" s_scan_token p_scan_token := ⟨_, _, (fun_mk (st := s_scan_token) l7 c7 k7), PySem.W.mg_of X G a7, ((fun_mk (st := s_scan_token) l7 c7 k7).binds (ps := p_scan_token) fun _ _ _ _ _ _ us hl => match us, hl with | [_, _, _], _ => rfl)⟩
  have g8 : Gv K mg "scan_name" s_scan_name p_scan_name := ⟨_, _, (fun_mk (st := s_scan_name) l8 c8 k8), PySem.W.mg_of X G a8, ((fun_mk (st := s_scan_name) l8 c8 k8).binds (ps := p_scan_name) fun _ _ _ _ _ _ us hl => match us, hl with | [_, _, _], _ => rfl)⟩
  have g9 : Gv K mg "scan_number" s_scan_number p_scan_number := ⟨_, _, (fun_mk (st := s_scan_number) l9 c9 k9), PySem.W.mg_of X G a9, ((fun_mk (st := s_scan_number) l9 c9 k9).binds (ps := p_scan_number) fun _ _ _ _ _ _ us hl => match us, hl with | [_, _, _], _ => rfl)⟩
  have g10 : Gv K mg "scan_text" s_scan_text p_scan_text := ⟨_, _, (fun_mk (st := s_scan_text) l10 c10 k10), PySem.W.mg_of X G a10, ((fun_mk (st := s_scan_text) l10 c10 k10).binds (ps := p_scan_text) fun _ _ _ _ _ _ us hl => match us, hl with | [_, _, _], _ => rfl)⟩
  have g11 : Gv K mg "scan_sign" s_scan_sign p_scan_sign := ⟨_, _, (fun_mk (st := s_scan_sign) l11 c11 k11), PySem.W.mg_of X G a11, ((fun_mk (st := s_scan_sign) l11 c11 k11).binds (ps := p_scan_sign) fun _ _ _ _ _ _ us hl => match us, hl with | [_, _, _], _ => rfl)⟩
  have g12 : ∃ fI fd, L2.Mk K CC fI ∧ Binds K fd p_Scanner___init__ [] ∧ Fun K "__init__" "Scanner.__init__" s_Scanner___init__ fI fd := ⟨_, _, ⟨mkS, a12, i12, kcS⟩, ((fun_mk (st := s_Scanner___init__) l12 c12 k12).binds (ps := p_Scanner___init__) fun _ _ _ _ _ _ us hl => match us, hl with | [_], _ => rfl), (fun_mk (st := s_Scanner___init__) l12 c12 k12)⟩
  have g13 : Gvm K CC "scan_row" "Scanner.scan_row" s_Scanner_scan_row p_Scanner_scan_row := ⟨_, _, (fun_mk (st := s_Scanner_scan_row) l13 c13 k13), ⟨a13, i13, k13⟩, ((fun_mk (st := s_Scanner_scan_row) l13 c13 k13).binds (ps := p_Scanner_scan_row) fun _ _ _ _ _ _ us hl => match us, hl with | [_, _, _], _ => rfl)⟩
  have g14 : Gvm K CC "begin_line" "Scanner.begin_line" s_Scanner_begin_line p_Scanner_begin_line := ⟨_, _, (fun_mk (st := s_Scanner_begin_line) l14 c14 k14), ⟨a14, i14, k14⟩, ((fun_mk (st := s_Scanner_begin_line) l14 c14 k14).binds (ps := p_Scanner_begin_line) fun _ _ _ _ _ _ us hl => match us, hl with | [_, _, _], _ => rfl)⟩
  have g15 : Gvm K CC "gather" "Scanner.gather" s_Scanner_gather p_Scanner_gather := ⟨_, _, (fun_mk (st := s_Scanner_gather) l15 c15 k15), ⟨a15, i15, k15⟩, ((fun_mk (st := s_Scanner_gather) l15 c15 k15).binds (ps := p_Scanner_gather) fun _ _ _ _ _ _ us hl => match us, hl with | [_, _], _ => rfl)⟩
  have g16 : Gvm K CC "match_bracket" "Scanner.match_bracket" s_Scanner_match_bracket p_Scanner_match_bracket := ⟨_, _, (fun_mk (st := s_Scanner_match_bracket) l16 c16 k16), ⟨a16, i16, k16⟩, ((fun_mk (st := s_Scanner_match_bracket) l16 c16 k16).binds (ps := p_Scanner_match_bracket) fun _ _ _ _ _ _ us hl => match us, hl with | [_, _], _ => rfl)⟩
  have g17 : Gvm K CC "end_line" "Scanner.end_line" s_Scanner_end_line p_Scanner_end_line := ⟨_, _, (fun_mk (st := s_Scanner_end_line) l17 c17 k17), ⟨a17, i17, k17⟩, ((fun_mk (st := s_Scanner_end_line) l17 c17 k17).binds (ps := p_Scanner_end_line) fun _ _ _ _ _ _ us hl => match us, hl with | [_, _], _ => rfl)⟩
  have g18 : Gvm K CC "end_text" "Scanner.end_text" s_Scanner_end_text p_Scanner_end_text := ⟨_, _, (fun_mk (st := s_Scanner_end_text) l18 c18 k18), ⟨a18, i18, k18⟩, ((fun_mk (st := s_Scanner_end_text) l18 c18 k18).binds (ps := p_Scanner_end_text) fun _ _ _ _ _ _ us hl => match us, hl with | [_], _ => rfl)⟩
  have g19 : Gv K mg "tokens" s_tokens p_tokens := ⟨_, _, (fun_mk (st := s_tokens) l19 c19 k19), PySem.W.mg_of X G a19, ((fun_mk (st := s_tokens) l19 c19 k19).binds (ps := p_tokens) fun _ _ _ _ _ _ us hl => match us, hl with | [_], _ => rfl)⟩
  have g20 : Gv K mg "checked_rows" s_checked_rows p_checked_rows := ⟨_, _, (fun_mk (st := s_checked_rows) l20 c20 k20), PySem.W.mg_of X G a20, ((fun_mk (st := s_checked_rows) l20 c20 k20).binds (ps := p_checked_rows) fun _ _ _ _ _ _ us hl => match us, hl with | [_], _ => rfl)⟩
  have g21 : Gv K mg "check_letters" s_check_letters p_check_letters := ⟨_, _, (fun_mk (st := s_check_letters) l21 c21 k21), PySem.W.mg_of X G a21, ((fun_mk (st := s_check_letters) l21 c21 k21).binds (ps := p_check_letters) fun _ _ _ _ _ _ us hl => match us, hl with | [_, _], _ => rfl)⟩
  have g22 : Gv K mg "spaces_end" s_spaces_end p_spaces_end := ⟨_, _, (fun_mk (st := s_spaces_end) l22 c22 k22), PySem.W.mg_of X G a22, ((fun_mk (st := s_spaces_end) l22 c22 k22).binds (ps := p_spaces_end) fun _ _ _ _ _ _ us hl => match us, hl with | [_, _], _ => rfl)⟩
  have g23 : Gv K mg "_law_bag" s__law_bag p__law_bag := ⟨_, _, (fun_mk (st := s__law_bag) l23 c23 k23), PySem.W.mg_of X G a23, ((fun_mk (st := s__law_bag) l23 c23 k23).binds (ps := p__law_bag) fun _ _ _ _ _ _ us hl => match us, hl with | [_, _], _ => rfl)⟩
  have g24 : Gv K mg "_law_take" s__law_take p__law_take := ⟨_, _, (fun_mk (st := s__law_take) l24 c24 k24), PySem.W.mg_of X G a24, ((fun_mk (st := s__law_take) l24 c24 k24).binds (ps := p__law_take) fun _ _ _ _ _ _ us hl => match us, hl with | [_, _], _ => rfl)⟩
  have g25 : Gv K mg "_law_whole" s__law_whole p__law_whole := ⟨_, _, (fun_mk (st := s__law_whole) l25 c25 k25), PySem.W.mg_of X G a25, ((fun_mk (st := s__law_whole) l25 c25 k25).binds (ps := p__law_whole) fun _ _ _ _ _ _ us hl => match us, hl with | [_], _ => rfl)⟩
  have g26 : Gv K mg "_law_signs" s__law_signs p__law_signs := ⟨_, _, (fun_mk (st := s__law_signs) l26 c26 k26), PySem.W.mg_of X G a26, ((fun_mk (st := s__law_signs) l26 c26 k26).binds (ps := p__law_signs) fun _ _ _ _ _ _ us hl => match us, hl with | [], _ => rfl)⟩
  have g27 : Gv K mg "_law_keywords" s__law_keywords p__law_keywords := ⟨_, _, (fun_mk (st := s__law_keywords) l27 c27 k27), PySem.W.mg_of X G a27, ((fun_mk (st := s__law_keywords) l27 c27 k27).binds (ps := p__law_keywords) fun _ _ _ _ _ _ us hl => match us, hl with | [], _ => rfl)⟩
  have g28 : Gv K mg "_law_letters" s__law_letters p__law_letters := ⟨_, _, (fun_mk (st := s__law_letters) l28 c28 k28), PySem.W.mg_of X G a28, ((fun_mk (st := s__law_letters) l28 c28 k28).binds (ps := p__law_letters) fun _ _ _ _ _ _ us hl => match us, hl with | [], _ => rfl)⟩
  have g29 : Gv K mg "_law_allowed" s__law_allowed p__law_allowed := ⟨_, _, (fun_mk (st := s__law_allowed) l29 c29 k29), PySem.W.mg_of X G a29, ((fun_mk (st := s__law_allowed) l29 c29 k29).binds (ps := p__law_allowed) fun _ _ _ _ _ _ us hl => match us, hl with | [], _ => rfl)⟩
  have g30 : Gv K mg "_law_name" s__law_name p__law_name := ⟨_, _, (fun_mk (st := s__law_name) l30 c30 k30), PySem.W.mg_of X G a30, ((fun_mk (st := s__law_name) l30 c30 k30).binds (ps := p__law_name) fun _ _ _ _ _ _ us hl => match us, hl with | [_], _ => rfl)⟩
  have g31 : Gv K mg "_law_figures" s__law_figures p__law_figures := ⟨_, _, (fun_mk (st := s__law_figures) l31 c31 k31), PySem.W.mg_of X G a31, ((fun_mk (st := s__law_figures) l31 c31 k31).binds (ps := p__law_figures) fun _ _ _ _ _ _ us hl => match us, hl with | [_], _ => rfl)⟩
  have g32 : Gv K mg "_law_quoted" s__law_quoted p__law_quoted := ⟨_, _, (fun_mk (st := s__law_quoted) l32 c32 k32), PySem.W.mg_of X G a32, ((fun_mk (st := s__law_quoted) l32 c32 k32).binds (ps := p__law_quoted) fun _ _ _ _ _ _ us hl => match us, hl with | [_], _ => rfl)⟩
  have g33 : Gv K mg "_law_word" s__law_word p__law_word := ⟨_, _, (fun_mk (st := s__law_word) l33 c33 k33), PySem.W.mg_of X G a33, ((fun_mk (st := s__law_word) l33 c33 k33).binds (ps := p__law_word) fun _ _ _ _ _ _ us hl => match us, hl with | [_], _ => rfl)⟩
  have g34 : Gv K mg "_law_odd" s__law_odd p__law_odd := ⟨_, _, (fun_mk (st := s__law_odd) l34 c34 k34), PySem.W.mg_of X G a34, ((fun_mk (st := s__law_odd) l34 c34 k34).binds (ps := p__law_odd) fun _ _ _ _ _ _ us hl => match us, hl with | [_], _ => rfl)⟩
  have g35 : Gv K mg "_law_comment" s__law_comment p__law_comment := ⟨_, _, (fun_mk (st := s__law_comment) l35 c35 k35), PySem.W.mg_of X G a35, ((fun_mk (st := s__law_comment) l35 c35 k35).binds (ps := p__law_comment) fun _ _ _ _ _ _ us hl => match us, hl with | [_], _ => rfl)⟩
  have g36 : Gv K mg "_law_row_end" s__law_row_end p__law_row_end := ⟨_, _, (fun_mk (st := s__law_row_end) l36 c36 k36), PySem.W.mg_of X G a36, ((fun_mk (st := s__law_row_end) l36 c36 k36).binds (ps := p__law_row_end) fun _ _ _ _ _ _ us hl => match us, hl with | [_, _, _, _], _ => rfl)⟩
  have g37 : Gv K mg "_law_pieces" s__law_pieces p__law_pieces := ⟨_, _, (fun_mk (st := s__law_pieces) l37 c37 k37), PySem.W.mg_of X G a37, ((fun_mk (st := s__law_pieces) l37 c37 k37).binds (ps := p__law_pieces) fun _ _ _ _ _ _ us hl => match us, hl with | [_, _], _ => rfl)⟩
  have g38 : Gv K mg "_law_source" s__law_source p__law_source := ⟨_, _, (fun_mk (st := s__law_source) l38 c38 k38), PySem.W.mg_of X G a38, ((fun_mk (st := s__law_source) l38 c38 k38).binds (ps := p__law_source) fun _ _ _ _ _ _ us hl => match us, hl with | [_], _ => rfl)⟩
  have g39 : Gv K mg "_law_edited" s__law_edited p__law_edited := ⟨_, _, (fun_mk (st := s__law_edited) l39 c39 k39), PySem.W.mg_of X G a39, ((fun_mk (st := s__law_edited) l39 c39 k39).binds (ps := p__law_edited) fun _ _ _ _ _ _ us hl => match us, hl with | [_, _], _ => rfl)⟩
  have g40 : Gv K mg "_law_extent" s__law_extent p__law_extent := ⟨_, _, (fun_mk (st := s__law_extent) l40 c40 k40), PySem.W.mg_of X G a40, ((fun_mk (st := s__law_extent) l40 c40 k40).binds (ps := p__law_extent) fun _ _ _ _ _ _ us hl => match us, hl with | [_, _], _ => rfl)⟩
  have g41 : Gv K mg "_law_block_fault" s__law_block_fault p__law_block_fault := ⟨_, _, (fun_mk (st := s__law_block_fault) l41 c41 k41), PySem.W.mg_of X G a41, ((fun_mk (st := s__law_block_fault) l41 c41 k41).binds (ps := p__law_block_fault) fun _ _ _ _ _ _ us hl => match us, hl with | [_, _], _ => rfl)⟩
  have g42 : Gv K mg "_law_first_fault" s__law_first_fault p__law_first_fault := ⟨_, _, (fun_mk (st := s__law_first_fault) l42 c42 k42), PySem.W.mg_of X G a42, ((fun_mk (st := s__law_first_fault) l42 c42 k42).binds (ps := p__law_first_fault) fun _ _ _ _ _ _ us hl => match us, hl with | [_], _ => rfl)⟩
  have g43 : Gv K mg "_law_fault" s__law_fault p__law_fault := ⟨_, _, (fun_mk (st := s__law_fault) l43 c43 k43), PySem.W.mg_of X G a43, ((fun_mk (st := s__law_fault) l43 c43 k43).binds (ps := p__law_fault) fun _ _ _ _ _ _ us hl => match us, hl with | [_], _ => rfl)⟩
  have g44 : Gv K mg "_law_quoted_size" s__law_quoted_size p__law_quoted_size := ⟨_, _, (fun_mk (st := s__law_quoted_size) l44 c44 k44), PySem.W.mg_of X G a44, ((fun_mk (st := s__law_quoted_size) l44 c44 k44).binds (ps := p__law_quoted_size) fun _ _ _ _ _ _ us hl => match us, hl with | [_, _, _], _ => rfl)⟩
  have g45 : Gv K mg "_law_size" s__law_size p__law_size := ⟨_, _, (fun_mk (st := s__law_size) l45 c45 k45), PySem.W.mg_of X G a45, ((fun_mk (st := s__law_size) l45 c45 k45).binds (ps := p__law_size) fun _ _ _ _ _ _ us hl => match us, hl with | [_, _, _, _], _ => rfl)⟩
  have g46 : Gv K mg "_law_next_spot" s__law_next_spot p__law_next_spot := ⟨_, _, (fun_mk (st := s__law_next_spot) l46 c46 k46), PySem.W.mg_of X G a46, ((fun_mk (st := s__law_next_spot) l46 c46 k46).binds (ps := p__law_next_spot) fun _ _ _ _ _ _ us hl => match us, hl with | [_, _], _ => rfl)⟩
  have g47 : Gv K mg "_law_margin" s__law_margin p__law_margin := ⟨_, _, (fun_mk (st := s__law_margin) l47 c47 k47), PySem.W.mg_of X G a47, ((fun_mk (st := s__law_margin) l47 c47 k47).binds (ps := p__law_margin) fun _ _ _ _ _ _ us hl => match us, hl with | [_, _, _, _], _ => rfl)⟩
  have g48 : Gv K mg "_law_follows" s__law_follows p__law_follows := ⟨_, _, (fun_mk (st := s__law_follows) l48 c48 k48), PySem.W.mg_of X G a48, ((fun_mk (st := s__law_follows) l48 c48 k48).binds (ps := p__law_follows) fun _ _ _ _ _ _ us hl => match us, hl with | [_, _], _ => rfl)⟩
  have g49 : Gv K mg "_law_is_tokens" s__law_is_tokens p__law_is_tokens := ⟨_, _, (fun_mk (st := s__law_is_tokens) l49 c49 k49), PySem.W.mg_of X G a49, ((fun_mk (st := s__law_is_tokens) l49 c49 k49).binds (ps := p__law_is_tokens) fun _ _ _ _ _ _ us hl => match us, hl with | [_], _ => rfl)⟩
  have g50 : Gv K mg "_law_classes" s__law_classes p__law_classes := ⟨_, _, (fun_mk (st := s__law_classes) l50 c50 k50), PySem.W.mg_of X G a50, ((fun_mk (st := s__law_classes) l50 c50 k50).binds (ps := p__law_classes) fun _ _ _ _ _ _ us hl => match us, hl with | [_], _ => rfl)⟩
  have g51 : Gv K mg "_law_is_raised" s__law_is_raised p__law_is_raised := ⟨_, _, (fun_mk (st := s__law_is_raised) l51 c51 k51), PySem.W.mg_of X G a51, ((fun_mk (st := s__law_is_raised) l51 c51 k51).binds (ps := p__law_is_raised) fun _ _ _ _ _ _ us hl => match us, hl with | [_, _], _ => rfl)⟩
  have g52 : Gv K mg "_law_is_right" s__law_is_right p__law_is_right := ⟨_, _, (fun_mk (st := s__law_is_right) l52 c52 k52), PySem.W.mg_of X G a52, ((fun_mk (st := s__law_is_right) l52 c52 k52).binds (ps := p__law_is_right) fun _ _ _ _ _ _ us hl => match us, hl with | [_], _ => rfl)⟩
  have g53 : Gv K mg "law" s_law p_law := ⟨_, _, (fun_mk (st := s_law) l53 c53 k53), PySem.W.mg_of X G a53, ((fun_mk (st := s_law) l53 c53 k53).binds (ps := p_law) fun _ _ _ _ _ _ us hl => match us, hl with | [_], _ => rfl)⟩
  have D_ESCAPES : DictT K w mg "ESCAPES" escV := by
    have sN : (Str.ofString "n") = S [110] ∧ (Str.ofString "\n") = S [10] ∧ (Str.ofString "\\") = S [92] ∧ (Str.ofString "'") = S [39] ∧ (Str.ofString "\"") = S [34] := by decide +kernel
    obtain ⟨s0, s1, s2, s3, s4⟩ := sN
    rw [s0, s1, s2, s3, s4] at l_ESCAPES
    rw [s0] at eESCAPES0
    rw [s2] at eESCAPES1
    rw [s3] at eESCAPES2
    rw [s4] at eESCAPES3
    exact dictT_of escP escV_get (PySem.W.mg_of X G q_ESCAPES) w_ESCAPES l_ESCAPES ⟨⟨_, _, _, rfl, eESCAPES0⟩, ⟨_, _, _, rfl, eESCAPES1⟩, ⟨_, _, _, rfl, eESCAPES2⟩, ⟨_, _, _, rfl, eESCAPES3⟩, trivial⟩
  have D_CLOSING : DictT K w mg "CLOSING" cloV := by
    have sN : (Str.ofString ")") = S [41] ∧ (Str.ofString "(") = S [40] ∧ (Str.ofString "]") = S [93] ∧ (Str.ofString "[") = S [91] ∧ (Str.ofString "}") = S [125] ∧ (Str.ofString "{") = S [123] := by decide +kernel
    obtain ⟨s0, s1, s2, s3, s4, s5⟩ := sN
    rw [s0, s1, s2, s3, s4, s5] at l_CLOSING
    rw [s0] at eCLOSING0
    rw [s2] at eCLOSING1
    rw [s4] at eCLOSING2
    exact dictT_of cloP cloV_get (PySem.W.mg_of X G q_CLOSING) w_CLOSING l_CLOSING ⟨⟨_, _, _, rfl, eCLOSING0⟩, ⟨_, _, _, rfl, eCLOSING1⟩, ⟨_, _, _, rfl, eCLOSING2⟩, trivial⟩
  have T : Txt K w mg := { z_ValueError := PySem.W.mg_none_of X G z_ValueError, z_all := PySem.W.mg_none_of X G z_all, z_bool := PySem.W.mg_none_of X G z_bool, z_enumerate := PySem.W.mg_none_of X G z_enumerate, z_int := PySem.W.mg_none_of X G z_int, z_isinstance := PySem.W.mg_none_of X G z_isinstance, z_len := PySem.W.mg_none_of X G z_len, z_list := PySem.W.mg_none_of X G z_list, z_ord := PySem.W.mg_none_of X G z_ord, z_range := PySem.W.mg_none_of X G z_range, z_reversed := PySem.W.mg_none_of X G z_reversed, z_str := PySem.W.mg_none_of X G z_str, z_tuple := PySem.W.mg_none_of X G z_tuple, g_is_row := g2, g_is_letter := g3, g_is_digit := g4, g_digits_end := g5, g_name_end := g6, g_scan_token := g7, g_scan_name := g8, g_scan_number := g9, g_scan_text := g10, g_scan_sign := g11, g_tokens := g19, g_checked_rows := g20, g_check_letters := g21, g_spaces_end := g22, g__law_bag := g23, g__law_take := g24, g__law_whole := g25, g__law_signs := g26, g__law_keywords := g27, g__law_letters := g28, g__law_allowed := g29, g__law_name := g30, g__law_figures := g31, g__law_quoted := g32, g__law_word := g33, g__law_odd := g34, g__law_comment := g35, g__law_row_end := g36, g__law_pieces := g37, g__law_source := g38, g__law_edited := g39, g__law_extent := g40, g__law_block_fault := g41, g__law_first_fault := g42, g__law_fault := g43, g__law_quoted_size := g44, g__law_size := g45, g__law_next_spot := g46, g__law_margin := g47, g__law_follows := g48, g__law_is_tokens := g49, g__law_classes := g50, g__law_is_raised := g51, g__law_is_right := g52, g_law := g53, c_PERCENT := ⟨_, PySem.W.mg_of X G q_PERCENT⟩, c_NAME_LIMIT := ⟨_, PySem.W.mg_of X G q_NAME_LIMIT⟩, c_NUMBER_LIMIT := ⟨_, PySem.W.mg_of X G q_NUMBER_LIMIT⟩, c_TEXT_LIMIT := ⟨_, PySem.W.mg_of X G q_TEXT_LIMIT⟩, c_ROW_LIMIT := ⟨_, PySem.W.mg_of X G q_ROW_LIMIT⟩, c_TOKEN_LIMIT := ⟨_, PySem.W.mg_of X G q_TOKEN_LIMIT⟩, c_INDENT_LIMIT := ⟨_, PySem.W.mg_of X G q_INDENT_LIMIT⟩, c_KEYWORDS := tupT_of (PySem.W.mg_of X G q_KEYWORDS) l_KEYWORDS v_KEYWORDS w_KEYWORDS, c_SIGNS := tupT_of (PySem.W.mg_of X G q_SIGNS) l_SIGNS v_SIGNS w_SIGNS, c_OPENING := tupT_of (PySem.W.mg_of X G q_OPENING) l_OPENING v_OPENING w_OPENING, c_ESCAPES := D_ESCAPES, c_CLOSING := D_CLOSING }
  have SC0 : ScT K mg CC := { cl := ⟨pgS, hdS, poS, saS⟩, gl := PySem.W.mg_of X G gS, n_marks := n_marks, n_brackets := n_brackets, n_indents := n_indents, n_many := n_many, n_behind := n_behind, ini := g12, g_scan_row := g13, g_begin_line := g14, g_gather := g15, g_match_bracket := g16, g_end_line := g17, g_end_text := g18 }
  have oex : ∀ k : Er, OexC K (ecf C0 C1 C2 C3 C4 k) := (fun k => match k with | .sign => ⟨⟨_, _, _, _, _, _, _, _, _, _, _, _, _, _, _, o_0, r_0⟩, sa_0, xb_0, ty_0, kc_0⟩ | .token => ⟨⟨_, _, _, _, _, _, _, _, _, _, _, _, _, _, _, o_1, r_1⟩, sa_1, xb_1, ty_1, kc_1⟩ | .indent => ⟨⟨_, _, _, _, _, _, _, _, _, _, _, _, _, _, _, o_2, r_2⟩, sa_2, xb_2, ty_2, kc_2⟩ | .long => ⟨⟨_, _, _, _, _, _, _, _, _, _, _, _, _, _, _, o_3, r_3⟩, sa_3, xb_3, ty_3, kc_3⟩ | .deep => ⟨⟨_, _, _, _, _, _, _, _, _, _, _, _, _, _, _, o_4, r_4⟩, sa_4, xb_4, ty_4, kc_4⟩)
  have exd : ∀ k : Er, ExcD K (ecf C0 C1 C2 C3 C4 k) := (fun k => match k with | .sign => ⟨cl_0, hg_0, hk_0, xb_0, hd_0, ha_0, hn, ht, hm_0⟩ | .token => ⟨cl_1, hg_1, hk_1, xb_1, hd_1, ha_1, hn, ht, hm_1⟩ | .indent => ⟨cl_2, hg_2, hk_2, xb_2, hd_2, ha_2, hn, ht, hm_2⟩ | .long => ⟨cl_3, hg_3, hk_3, xb_3, hd_3, ha_3, hn, ht, hm_3⟩ | .deep => ⟨cl_4, hg_4, hk_4, xb_4, hd_4, ha_4, hn, ht, hm_4⟩)
  have kk : ∀ k j : Er, PySem.W.kitOne K (.ref (ecf C0 C1 C2 C3 C4 k)) (.ref (ecf C0 C1 C2 C3 C4 j)) = some (k.eqb j) := (fun k j => match k, j with | .sign, .sign => kit_self | .sign, .token => kit_own ne_01 cl_1 ty_1 ss_01 | .sign, .indent => kit_own ne_02 cl_2 ty_2 ss_02 | .sign, .long => kit_own ne_03 cl_3 ty_3 ss_03 | .sign, .deep => kit_own ne_04 cl_4 ty_4 ss_04 | .token, .sign => kit_own ne_10 cl_0 ty_0 ss_10 | .token, .token => kit_self | .token, .indent => kit_own ne_12 cl_2 ty_2 ss_12 | .token, .long => kit_own ne_13 cl_3 ty_3 ss_13 | .token, .deep => kit_own ne_14 cl_4 ty_4 ss_14 | .indent, .sign => kit_own ne_20 cl_0 ty_0 ss_20 | .indent, .token => kit_own ne_21 cl_1 ty_1 ss_21 | .indent, .indent => kit_self | .indent, .long => kit_own ne_23 cl_3 ty_3 ss_23 | .indent, .deep => kit_own ne_24 cl_4 ty_4 ss_24 | .long, .sign => kit_own ne_30 cl_0 ty_0 ss_30 | .long, .token => kit_own ne_31 cl_1 ty_1 ss_31 | .long, .indent => kit_own ne_32 cl_2 ty_2 ss_32 | .long, .long => kit_self | .long, .deep => kit_own ne_34 cl_4 ty_4 ss_34 | .deep, .sign => kit_own ne_40 cl_0 ty_0 ss_40 | .deep, .token => kit_own ne_41 cl_1 ty_1 ss_41 | .deep, .indent => kit_own ne_42 cl_2 ty_2 ss_42 | .deep, .long => kit_own ne_43 cl_3 ty_3 ss_43 | .deep, .deep => kit_self )
  have U : KitE K mg (ecf C0 C1 C2 C3 C4) CY CO CL CS := { ex := exd, kk := kk, gY := PySem.W.mg_of X G g_Y, gO := PySem.W.mg_of X G g_O, gL := PySem.W.mg_of X G g_L, gS := PySem.W.mg_of X G g_S, kY := (fun k => match k with | .sign => kit_own ne_0Y cl_Y ty_Y ss_0Y | .token => kit_own ne_1Y cl_Y ty_Y ss_1Y | .indent => kit_own ne_2Y cl_Y ty_Y ss_2Y | .long => kit_own ne_3Y cl_Y ty_Y ss_3Y | .deep => kit_own ne_4Y cl_Y ty_Y ss_4Y), kO := (fun k => match k with | .sign => kit_own ne_0O cl_O ty_O ss_0O | .token => kit_own ne_1O cl_O ty_O ss_1O | .indent => kit_own ne_2O cl_O ty_O ss_2O | .long => kit_own ne_3O cl_O ty_O ss_3O | .deep => kit_own ne_4O cl_O ty_O ss_4O), kL := (fun k => match k with | .sign => kit_own ne_0L cl_L ty_L ss_0L | .token => kit_own ne_1L cl_L ty_L ss_1L | .indent => kit_own ne_2L cl_L ty_L ss_2L | .long => kit_own ne_3L cl_L ty_L ss_3L | .deep => kit_own ne_4L cl_L ty_L ss_4L), kV := (fun k => match k with | .sign => kit_bt (by decide +kernel) sv_0 | .token => kit_bt (by decide +kernel) sv_1 | .indent => kit_bt (by decide +kernel) sv_2 | .long => kit_bt (by decide +kernel) sv_3 | .deep => kit_bt (by decide +kernel) sv_4), eS := (fun k => match k with | .sign => PySem.W.exm_ref xb_S hd_S ty_S ss_0S | .token => PySem.W.exm_ref xb_S hd_S ty_S ss_1S | .indent => PySem.W.exm_ref xb_S hd_S ty_S ss_2S | .long => PySem.W.exm_ref xb_S hd_S ty_S ss_3S | .deep => PySem.W.exm_ref xb_S hd_S ty_S ss_4S) }
  have XF : ∀ k : Er, XfC K (ecf C0 C1 C2 C3 C4 k) := (fun k => match k with | .sign => ⟨hg_0, hk_0, xb_0, hd_0⟩ | .token => ⟨hg_1, hk_1, xb_1, hd_1⟩ | .indent => ⟨hg_2, hk_2, xb_2, hd_2⟩ | .long => ⟨hg_3, hk_3, xb_3, hd_3⟩ | .deep => ⟨hg_4, hk_4, xb_4, hd_4⟩)
  refine ⟨PySem.W.fnOf "law" "law" (defArgs s_law) (defBody s_law) (defScope s_law) .none kV53 dc53 pm53 an53 cd53 ct53, fun s v => .of_eq rfl, fun base _ _ => ?_⟩
  have ER : ErrT l.prog w K mg base (ecf C0 C1 C2 C3 C4) := { gl := (fun k => match k with | .sign => PySem.W.mg_of X G g_0 | .token => PySem.W.mg_of X G g_1 | .indent => PySem.W.mg_of X G g_2 | .long => PySem.W.mg_of X G g_3 | .deep => PySem.W.mg_of X G g_4), oex := oex, nl := (fun k => match k with | .sign => nl_0 | .token => nl_1 | .indent => nl_2 | .long => nl_3 | .deep => nl_4), nc := (fun k => match k with | .sign => nc_0 | .token => nc_1 | .indent => nc_2 | .long => nc_3 | .deep => nc_4), ini := g1 }
  obtain ⟨f, fd, hm', hk', hb', ⟨oc, od, osl, lk⟩, F⟩ := all_ok (P := l.prog) (base := base) T ER SC0 U XF
  have e2 : fa = f := Value.ref.inj (Option.some.inj (hfa.symm.trans hm'))
  subst e2
  have e3 := lk.symm.trans l53
  cases e3
  exact F
end D0
open PySem PySem.W PyProof.Rows
set_option maxRecDepth 100000 in
set_option maxHeartbeats 0 in
theorem PySem.Challenge.cw_likerun_k00_words_at_their_places_holds : PySem.Challenge.rw_likerun_k00_words_at_their_places.Holds := by
  w_on; o_law; k_head; (case hw => w_witness2)
  k_fill
  refine L2.walk_of (l := PySem.Challenge.rw_likerun_k00_words_at_their_places) (n := 63) (k := 9) (x := "script") (CX := fun _ => L2.CX0) (sp := fun w => D0.spLaw _) rfl (by decide) rfl ⟨rfl, by decide, by decide⟩ (fun w h Y => PySem.W.kIn_of Y) ?F (fun _ _ a ns hl _ hS => ⟨a, ns, rfl, hS, hl, fun _ => rfl⟩) (fun _ _ _ _ _ h => h)
  case F =>
    intro w mg fa h KX G hmg
    refine' D0.all_mk KX G hmg ?a1_0 ?a1_1 ?a1_2 ?a1_3 ?a1_4 ?i1 ?l1 ?c1 ?k1 ?a2 ?l2 ?c2 ?k2 ?a3 ?l3 ?c3 ?k3 ?a4 ?l4 ?c4 ?k4 ?a5 ?l5 ?c5 ?k5 ?a6 ?l6 ?c6 ?k6 ?a7 ?l7 ?c7 ?k7 ?a8 ?l8 ?c8 ?k8 ?a9 ?l9 ?c9 ?k9 ?a10 ?l10 ?c10 ?k10 ?a11 ?l11 ?c11 ?k11 ?a12 ?i12 ?l12 ?c12 ?k12 ?a13 ?i13 ?l13 ?c13 ?k13 ?a14 ?i14 ?l14 ?c14 ?k14 ?a15 ?i15 ?l15 ?c15 ?k15 ?a16 ?i16 ?l16 ?c16 ?k16 ?a17 ?i17 ?l17 ?c17 ?k17 ?a18 ?i18 ?l18 ?c18 ?k18 ?a19 ?l19 ?c19 ?k19 ?a20 ?l20 ?c20 ?k20 ?a21 ?l21 ?c21 ?k21 ?a22 ?l22 ?c22 ?k22 ?a23 ?l23 ?c23 ?k23 ?a24 ?l24 ?c24 ?k24 ?a25 ?l25 ?c25 ?k25 ?a26 ?l26 ?c26 ?k26 ?a27 ?l27 ?c27 ?k27 ?a28 ?l28 ?c28 ?k28 ?a29 ?l29 ?c29 ?k29 ?a30 ?l30 ?c30 ?k30 ?a31 ?l31 ?c31 ?k31 ?a32 ?l32 ?c32 ?k32 ?a33 ?l33 ?c33 ?k33 ?a34 ?l34 ?c34 ?k34 ?a35 ?l35 ?c35 ?k35 ?a36 ?l36 ?c36 ?k36 ?a37 ?l37 ?c37 ?k37 ?a38 ?l38 ?c38 ?k38 ?a39 ?l39 ?c39 ?k39 ?a40 ?l40 ?c40 ?k40 ?a41 ?l41 ?c41 ?k41 ?a42 ?l42 ?c42 ?k42 ?a43 ?l43 ?c43 ?k43 ?a44 ?l44 ?c44 ?k44 ?a45 ?l45 ?c45 ?k45 ?a46 ?l46 ?c46 ?k46 ?a47 ?l47 ?c47 ?k47 ?a48 ?l48 ?c48 ?k48 ?a49 ?l49 ?c49 ?k49 ?a50 ?l50 ?c50 ?k50 ?a51 ?l51 ?c51 ?k51 ?a52 ?l52 ?c52 ?k52 ?a53 ?l53 ?c53 ?k53 ?z_ValueError ?z_all ?z_bool ?z_enumerate ?z_int ?z_isinstance ?z_len ?z_list ?z_ord ?z_range ?z_reversed ?z_str ?z_tuple ?q_PERCENT ?q_NAME_LIMIT ?q_NUMBER_LIMIT ?q_TEXT_LIMIT ?q_ROW_LIMIT ?q_TOKEN_LIMIT ?q_INDENT_LIMIT ?q_KEYWORDS ?l_KEYWORDS ?v_KEYWORDS ?w_KEYWORDS ?q_SIGNS ?l_SIGNS ?v_SIGNS ?w_SIGNS ?q_OPENING ?l_OPENING ?v_OPENING ?w_OPENING ?q_ESCAPES ?l_ESCAPES ?w_ESCAPES ?eESCAPES0 ?eESCAPES1 ?eESCAPES2 ?eESCAPES3 ?q_CLOSING ?l_CLOSING ?w_CLOSING ?eCLOSING0 ?eCLOSING1 ?eCLOSING2 ?gS ?pgS ?hdS ?poS ?saS ?mkS ?kcS ?n_marks ?n_brackets ?n_indents ?n_many ?n_behind ?g_0 ?o_0 ?r_0 ?sa_0 ?xb_0 ?ty_0 ?kc_0 ?nl_0 ?nc_0 ?cl_0 ?hg_0 ?hk_0 ?hd_0 ?ha_0 ?hm_0 ?sv_0 ?ne_01 ?ss_01 ?ne_02 ?ss_02 ?ne_03 ?ss_03 ?ne_04 ?ss_04 ?ne_0Y ?ss_0Y ?ne_0O ?ss_0O ?ne_0L ?ss_0L ?ss_0S ?g_1 ?o_1 ?r_1 ?sa_1 ?xb_1 ?ty_1 ?kc_1 ?nl_1 ?nc_1 ?cl_1 ?hg_1 ?hk_1 ?hd_1 ?ha_1 ?hm_1 ?sv_1 ?ne_10 ?ss_10 ?ne_12 ?ss_12 ?ne_13 ?ss_13 ?ne_14 ?ss_14 ?ne_1Y ?ss_1Y ?ne_1O ?ss_1O ?ne_1L ?ss_1L ?ss_1S ?g_2 ?o_2 ?r_2 ?sa_2 ?xb_2 ?ty_2 ?kc_2 ?nl_2 ?nc_2 ?cl_2 ?hg_2 ?hk_2 ?hd_2 ?ha_2 ?hm_2 ?sv_2 ?ne_20 ?ss_20 ?ne_21 ?ss_21 ?ne_23 ?ss_23 ?ne_24 ?ss_24 ?ne_2Y ?ss_2Y ?ne_2O ?ss_2O ?ne_2L ?ss_2L ?ss_2S ?g_3 ?o_3 ?r_3 ?sa_3 ?xb_3 ?ty_3 ?kc_3 ?nl_3 ?nc_3 ?cl_3 ?hg_3 ?hk_3 ?hd_3 ?ha_3 ?hm_3 ?sv_3 ?ne_30 ?ss_30 ?ne_31 ?ss_31 ?ne_32 ?ss_32 ?ne_34 ?ss_34 ?ne_3Y ?ss_3Y ?ne_3O ?ss_3O ?ne_3L ?ss_3L ?ss_3S ?g_4 ?o_4 ?r_4 ?sa_4 ?xb_4 ?ty_4 ?kc_4 ?nl_4 ?nc_4 ?cl_4 ?hg_4 ?hk_4 ?hd_4 ?ha_4 ?hm_4 ?sv_4 ?ne_40 ?ss_40 ?ne_41 ?ss_41 ?ne_42 ?ss_42 ?ne_43 ?ss_43 ?ne_4Y ?ss_4Y ?ne_4O ?ss_4O ?ne_4L ?ss_4L ?ss_4S ?hn ?ht ?g_Y ?ty_Y ?cl_Y ?g_O ?ty_O ?cl_O ?g_L ?ty_L ?cl_L ?g_S ?ty_S ?xb_S ?hd_S
    (case gS => k_is)
    (case g_0 => k_is)
    (case g_1 => k_is)
    (case g_2 => k_is)
    (case g_3 => k_is)
    (case g_4 => k_is)
    (case g_Y => k_is)
    (case g_O => k_is)
    (case g_L => k_is)
    (case g_S => k_is)
    (case a1_0 => k_is)
    (case a1_1 => k_is)
    (case a1_2 => k_is)
    (case a1_3 => k_is)
    (case a1_4 => k_is)
    (case i1 => k_is)
    (case l1 => k_is)
    (case c1 => k_is)
    (case k1 => k_is)
    (case a2 => k_is)
    (case l2 => k_is)
    (case c2 => k_is)
    (case k2 => k_is)
    (case a3 => k_is)
    (case l3 => k_is)
    (case c3 => k_is)
    (case k3 => k_is)
    (case a4 => k_is)
    (case l4 => k_is)
    (case c4 => k_is)
    (case k4 => k_is)
    (case a5 => k_is)
    (case l5 => k_is)
    (case c5 => k_is)
    (case k5 => k_is)
    (case a6 => k_is)
    (case l6 => k_is)
    (case c6 => k_is)
    (case k6 => k_is)
    (case a7 => k_is)
    (case l7 => k_is)
    (case c7 => k_is)
    (case k7 => k_is)
    (case a8 => k_is)
    (case l8 => k_is)
    (case c8 => k_is)
    (case k8 => k_is)
    (case a9 => k_is)
    (case l9 => k_is)
    (case c9 => k_is)
    (case k9 => k_is)
    (case a10 => k_is)
    (case l10 => k_is)
    (case c10 => k_is)
    (case k10 => k_is)
    (case a11 => k_is)
    (case l11 => k_is)
    (case c11 => k_is)
    (case k11 => k_is)
    (case a12 => k_is)
    (case i12 => k_is)
    (case l12 => k_is)
    (case c12 => k_is)
    (case k12 => k_is)
    (case a13 => k_is)
    (case i13 => k_is)
    (case l13 => k_is)
    (case c13 => k_is)
    (case k13 => k_is)
    (case a14 => k_is)
    (case i14 => k_is)
    (case l14 => k_is)
    (case c14 => k_is)
    (case k14 => k_is)
    (case a15 => k_is)
    (case i15 => k_is)
    (case l15 => k_is)
    (case c15 => k_is)
    (case k15 => k_is)
    (case a16 => k_is)
    (case i16 => k_is)
    (case l16 => k_is)
    (case c16 => k_is)
    (case k16 => k_is)
    (case a17 => k_is)
    (case i17 => k_is)
    (case l17 => k_is)
    (case c17 => k_is)
    (case k17 => k_is)
    (case a18 => k_is)
    (case i18 => k_is)
    (case l18 => k_is)
    (case c18 => k_is)
    (case k18 => k_is)
    (case a19 => k_is)
    (case l19 => k_is)
    (case c19 => k_is)
    (case k19 => k_is)
    (case a20 => k_is)
    (case l20 => k_is)
    (case c20 => k_is)
    (case k20 => k_is)
    (case a21 => k_is)
    (case l21 => k_is)
    (case c21 => k_is)
    (case k21 => k_is)
    (case a22 => k_is)
    (case l22 => k_is)
    (case c22 => k_is)
    (case k22 => k_is)
    (case a23 => k_is)
    (case l23 => k_is)
    (case c23 => k_is)
    (case k23 => k_is)
    (case a24 => k_is)
    (case l24 => k_is)
    (case c24 => k_is)
    (case k24 => k_is)
    (case a25 => k_is)
    (case l25 => k_is)
    (case c25 => k_is)
    (case k25 => k_is)
    (case a26 => k_is)
    (case l26 => k_is)
    (case c26 => k_is)
    (case k26 => k_is)
    (case a27 => k_is)
    (case l27 => k_is)
    (case c27 => k_is)
    (case k27 => k_is)
    (case a28 => k_is)
    (case l28 => k_is)
    (case c28 => k_is)
    (case k28 => k_is)
    (case a29 => k_is)
    (case l29 => k_is)
    (case c29 => k_is)
    (case k29 => k_is)
    (case a30 => k_is)
    (case l30 => k_is)
    (case c30 => k_is)
    (case k30 => k_is)
    (case a31 => k_is)
    (case l31 => k_is)
    (case c31 => k_is)
    (case k31 => k_is)
    (case a32 => k_is)
    (case l32 => k_is)
    (case c32 => k_is)
    (case k32 => k_is)
    (case a33 => k_is)
    (case l33 => k_is)
    (case c33 => k_is)
    (case k33 => k_is)
    (case a34 => k_is)
    (case l34 => k_is)
    (case c34 => k_is)
    (case k34 => k_is)
    (case a35 => k_is)
    (case l35 => k_is)
    (case c35 => k_is)
    (case k35 => k_is)
    (case a36 => k_is)
    (case l36 => k_is)
    (case c36 => k_is)
    (case k36 => k_is)
    (case a37 => k_is)
    (case l37 => k_is)
    (case c37 => k_is)
    (case k37 => k_is)
    (case a38 => k_is)
    (case l38 => k_is)
    (case c38 => k_is)
    (case k38 => k_is)
    (case a39 => k_is)
    (case l39 => k_is)
    (case c39 => k_is)
    (case k39 => k_is)
    (case a40 => k_is)
    (case l40 => k_is)
    (case c40 => k_is)
    (case k40 => k_is)
    (case a41 => k_is)
    (case l41 => k_is)
    (case c41 => k_is)
    (case k41 => k_is)
    (case a42 => k_is)
    (case l42 => k_is)
    (case c42 => k_is)
    (case k42 => k_is)
    (case a43 => k_is)
    (case l43 => k_is)
    (case c43 => k_is)
    (case k43 => k_is)
    (case a44 => k_is)
    (case l44 => k_is)
    (case c44 => k_is)
    (case k44 => k_is)
    (case a45 => k_is)
    (case l45 => k_is)
    (case c45 => k_is)
    (case k45 => k_is)
    (case a46 => k_is)
    (case l46 => k_is)
    (case c46 => k_is)
    (case k46 => k_is)
    (case a47 => k_is)
    (case l47 => k_is)
    (case c47 => k_is)
    (case k47 => k_is)
    (case a48 => k_is)
    (case l48 => k_is)
    (case c48 => k_is)
    (case k48 => k_is)
    (case a49 => k_is)
    (case l49 => k_is)
    (case c49 => k_is)
    (case k49 => k_is)
    (case a50 => k_is)
    (case l50 => k_is)
    (case c50 => k_is)
    (case k50 => k_is)
    (case a51 => k_is)
    (case l51 => k_is)
    (case c51 => k_is)
    (case k51 => k_is)
    (case a52 => k_is)
    (case l52 => k_is)
    (case c52 => k_is)
    (case k52 => k_is)
    (case a53 => k_is)
    (case l53 => k_is)
    (case c53 => k_is)
    (case k53 => k_is)
    (case z_ValueError => k_is)
    (case z_all => k_is)
    (case z_bool => k_is)
    (case z_enumerate => k_is)
    (case z_int => k_is)
    (case z_isinstance => k_is)
    (case z_len => k_is)
    (case z_list => k_is)
    (case z_ord => k_is)
    (case z_range => k_is)
    (case z_reversed => k_is)
    (case z_str => k_is)
    (case z_tuple => k_is)
    (case q_PERCENT => k_is)
    (case q_NAME_LIMIT => k_is)
    (case q_NUMBER_LIMIT => k_is)
    (case q_TEXT_LIMIT => k_is)
    (case q_ROW_LIMIT => k_is)
    (case q_TOKEN_LIMIT => k_is)
    (case q_INDENT_LIMIT => k_is)
    (case q_KEYWORDS => k_is)
    (case l_KEYWORDS => k_is)
    (case v_KEYWORDS => rfl)
    (case w_KEYWORDS => decide)
    (case q_SIGNS => k_is)
    (case l_SIGNS => k_is)
    (case v_SIGNS => rfl)
    (case w_SIGNS => decide)
    (case q_OPENING => k_is)
    (case l_OPENING => k_is)
    (case v_OPENING => rfl)
    (case w_OPENING => decide)
    (case q_ESCAPES => k_is)
    (case l_ESCAPES => k_is)
    (case w_ESCAPES => rfl)
    (case eESCAPES0 => rfl)
    (case eESCAPES1 => rfl)
    (case eESCAPES2 => rfl)
    (case eESCAPES3 => rfl)
    (case q_CLOSING => k_is)
    (case l_CLOSING => k_is)
    (case w_CLOSING => rfl)
    (case eCLOSING0 => rfl)
    (case eCLOSING1 => rfl)
    (case eCLOSING2 => rfl)
    (case pgS => k_is)
    (case hdS => k_is)
    (case poS => k_is)
    (case saS => k_is)
    (case mkS => k_is)
    (case kcS => k_is)
    (case n_marks => k_is)
    (case n_brackets => k_is)
    (case n_indents => k_is)
    (case n_many => k_is)
    (case n_behind => k_is)
    (case o_0 => k_is)
    (case r_0 => rfl)
    (case sa_0 => k_is)
    (case xb_0 => k_is)
    (case ty_0 => k_is)
    (case kc_0 => k_is)
    (case nl_0 => k_is)
    (case nc_0 => k_is)
    (case cl_0 => k_is)
    (case hg_0 => k_is)
    (case hk_0 => k_is)
    (case hd_0 => k_is)
    (case ha_0 => k_is)
    (case hm_0 => k_is)
    (case sv_0 => k_is)
    (case ne_01 => rfl)
    (case ss_01 => k_is)
    (case ne_02 => rfl)
    (case ss_02 => k_is)
    (case ne_03 => rfl)
    (case ss_03 => k_is)
    (case ne_04 => rfl)
    (case ss_04 => k_is)
    (case ne_0Y => rfl)
    (case ss_0Y => k_is)
    (case ne_0O => rfl)
    (case ss_0O => k_is)
    (case ne_0L => rfl)
    (case ss_0L => k_is)
    (case ss_0S => k_is)
    (case o_1 => k_is)
    (case r_1 => rfl)
    (case sa_1 => k_is)
    (case xb_1 => k_is)
    (case ty_1 => k_is)
    (case kc_1 => k_is)
    (case nl_1 => k_is)
    (case nc_1 => k_is)
    (case cl_1 => k_is)
    (case hg_1 => k_is)
    (case hk_1 => k_is)
    (case hd_1 => k_is)
    (case ha_1 => k_is)
    (case hm_1 => k_is)
    (case sv_1 => k_is)
    (case ne_10 => rfl)
    (case ss_10 => k_is)
    (case ne_12 => rfl)
    (case ss_12 => k_is)
    (case ne_13 => rfl)
    (case ss_13 => k_is)
    (case ne_14 => rfl)
    (case ss_14 => k_is)
    (case ne_1Y => rfl)
    (case ss_1Y => k_is)
    (case ne_1O => rfl)
    (case ss_1O => k_is)
    (case ne_1L => rfl)
    (case ss_1L => k_is)
    (case ss_1S => k_is)
    (case o_2 => k_is)
    (case r_2 => rfl)
    (case sa_2 => k_is)
    (case xb_2 => k_is)
    (case ty_2 => k_is)
    (case kc_2 => k_is)
    (case nl_2 => k_is)
    (case nc_2 => k_is)
    (case cl_2 => k_is)
    (case hg_2 => k_is)
    (case hk_2 => k_is)
    (case hd_2 => k_is)
    (case ha_2 => k_is)
    (case hm_2 => k_is)
    (case sv_2 => k_is)
    (case ne_20 => rfl)
    (case ss_20 => k_is)
    (case ne_21 => rfl)
    (case ss_21 => k_is)
    (case ne_23 => rfl)
    (case ss_23 => k_is)
    (case ne_24 => rfl)
    (case ss_24 => k_is)
    (case ne_2Y => rfl)
    (case ss_2Y => k_is)
    (case ne_2O => rfl)
    (case ss_2O => k_is)
    (case ne_2L => rfl)
    (case ss_2L => k_is)
    (case ss_2S => k_is)
    (case o_3 => k_is)
    (case r_3 => rfl)
    (case sa_3 => k_is)
    (case xb_3 => k_is)
    (case ty_3 => k_is)
    (case kc_3 => k_is)
    (case nl_3 => k_is)
    (case nc_3 => k_is)
    (case cl_3 => k_is)
    (case hg_3 => k_is)
    (case hk_3 => k_is)
    (case hd_3 => k_is)
    (case ha_3 => k_is)
    (case hm_3 => k_is)
    (case sv_3 => k_is)
    (case ne_30 => rfl)
    (case ss_30 => k_is)
    (case ne_31 => rfl)
    (case ss_31 => k_is)
    (case ne_32 => rfl)
    (case ss_32 => k_is)
    (case ne_34 => rfl)
    (case ss_34 => k_is)
    (case ne_3Y => rfl)
    (case ss_3Y => k_is)
    (case ne_3O => rfl)
    (case ss_3O => k_is)
    (case ne_3L => rfl)
    (case ss_3L => k_is)
    (case ss_3S => k_is)
    (case o_4 => k_is)
    (case r_4 => rfl)
    (case sa_4 => k_is)
    (case xb_4 => k_is)
    (case ty_4 => k_is)
    (case kc_4 => k_is)
    (case nl_4 => k_is)
    (case nc_4 => k_is)
    (case cl_4 => k_is)
    (case hg_4 => k_is)
    (case hk_4 => k_is)
    (case hd_4 => k_is)
    (case ha_4 => k_is)
    (case hm_4 => k_is)
    (case sv_4 => k_is)
    (case ne_40 => rfl)
    (case ss_40 => k_is)
    (case ne_41 => rfl)
    (case ss_41 => k_is)
    (case ne_42 => rfl)
    (case ss_42 => k_is)
    (case ne_43 => rfl)
    (case ss_43 => k_is)
    (case ne_4Y => rfl)
    (case ss_4Y => k_is)
    (case ne_4O => rfl)
    (case ss_4O => k_is)
    (case ne_4L => rfl)
    (case ss_4L => k_is)
    (case ss_4S => k_is)
    (case hn => k_is)
    (case ht => k_is)
    (case ty_Y => k_is)
    (case cl_Y => k_is)
    (case ty_O => k_is)
    (case cl_O => k_is)
    (case ty_L => k_is)
    (case cl_L => k_is)
    (case ty_S => k_is)
    (case xb_S => k_is)
    (case hd_S => k_is)
