import PyProof.Rows.All
import Wide.All
import OpenK.AllK
import Wide.FinOn
import PyProof.EqAt
import PyProof.EqKinds
import PyProof.TupleCall
import HandS.ForExc
import HandS.ForMost
import KE.GoesEnumKw
import HandS.StrMore
import HandS.IsInst
import HandS.ExcIs
import HandS.ExcInit
import HandS.ExcField
import HandS.Style
import HandS.Wide
import HandS.ReplaceLit
import HandS.ReplaceList
import HandS.ReplaceDef
import HandS.Codes
import HandS.Walk
import HandS.More
import PySem.Challenge.RW_likerun_k02_first_fault_of_all
import HandS.Dict
import HandS.Text
import PyProof.StrLawsFirst
import PyProof.Rows.CountFlat
import HandS.SetFor
import HandS.HotCalls
import HandS.TryMany
import KE.KExcIs
import KE.KExcInit
import Open.SpecLaws
import KE.OsGo
set_option Elab.async false
set_option linter.all false
set_option maxRecDepth 100000
namespace D0
open PySem PySem.Spec PyProof.Rows L2
/-- a built-in class is called with positional values and keywords -/
theorem cw_typeK {M : Model} {A : Around} {Ex : Value → Shared → Prop} {s : Shared} {env : Env} {pos : Pos} {T : String} {e : Expr} {rest : List Expr} {kws : List Keyword} {Q : Value → Shared → Prop}
    {as : List (Bool × Sem Value)} {ks : List (Option Str × Sem Value)} (ea : as = backTo pos (starEach (e :: rest) env)) (ek : ks = backToKw pos (keywordEach kws env))
    (run : wpAny M A (spliced as) (fun vs s₁ => wpAny M A (evalAll (ks.map (·.2))) (fun zs s₂ => wpAny M A (call (.type T) vs ((ks.filterMap (·.1)).zip zs)) Q Ex s₂) Ex s₁) Ex s)
    (hd : as = (false, eval e env) :: backTo pos (starEach rest env)) (p1 : as.any (·.1) = false) (p2 : ks.all (·.1.isSome) = true) (p3 : ks.any (·.1.isNone) = false) :
    wpAny M A (callWith pos (.type T) [] as ks) Q Ex s := by
  clear ea ek
  subst hd
  have got : wpAny M A (evalArgs (.type T) true _ ks) (fun a s₁ => wpAny M A (call (.type T) ([] ++ a.pos) a.kw) Q Ex s₁) Ex s := evalArgs_kwB p2 run
  unfold callWith
  refine wpAny_bind (wpAny_holding (wpAny_mono got ?_ fun _ _ x => x))
  intro a s1 k
  refine wpAny_bind (wpAny_standAt ?_)
  rw [p1, p3]
  refine wpAny_bind (wpAny_pure (wpAny_bind (wpAny_mono k ?_ fun _ _ x => x)))
  exact fun r s2 g => wpAny_bind (wpAny_holding (wpAny_point (wpAny_pure g)))
/-- an inner iterator `it`, in state St; J tells what its items are, each in a new pair with c + its place -/
structure Inner (P : Program) (w : World) (K : PySem.W.Frag) (J : It) (c : Int) (e it : Addr) (St : Nat → Heap → Prop) : Prop where
  live : ∀ i h, St i h → ∃ o, h.get? it = some o ∧ ∀ v, o.data ≠ .cell v
  move : ∀ i h h', St i h → (∀ o, h.get? it = some o → h'.get? it = some o) → St i h'
  item : ∀ (X : Cx) i pins (s : Shared) σ H, X.prog = P → X.w = w → X.K = K → X.A.handled = none → Inv X pins σ H s → St i s.heap → J.go i H → ∃ fp n Pv St', Draws P w X.A.in1 it fp n Pv St' ∧ i < n ∧ St' i s.heap ∧ e ∉ fp ∧ (∀ j h, St' j h → St j h) ∧
    ∀ u, Pv i u → ∃ v, RelV v u ∧ ∀ T, H T = none → J.yld i H (.ref T) (upd H T (.tup [.int (c + (i : Nat)), v]))
  fine : ∀ (X : Cx) i pins (s : Shared) σ H, X.prog = P → X.w = w → X.K = K → X.A.handled = none → Inv X pins σ H s → St i s.heap → J.stop i H → ∃ fp Pv St', Draws P w X.A.in1 it fp i Pv St' ∧ St' i s.heap
theorem Inner.turn {P : Program} {w : World} {K : PySem.W.Frag} {J : It} {c : Int} {e it : Addr} {St : Nat → Heap → Prop} {elts : List Expr} {kk : Nat} {tpos : Pos} (N : Inner P w K J c e it St) (ne : e ≠ it) :
    Turn P w K (.Tuple elts kk tpos) J [e, it] e (fun i h => (∃ old, IsEnum h e it (c + ((i : Nat) : Int)) old) ∧ St i h) := by
  have two : ∀ {p : Addr → Prop}, p e → p it → ∀ b ∈ [e, it], p b := fun x y b m => by
    rcases List.mem_cons.mp m with rfl | m
    · exact x
    · rw [List.mem_singleton.mp m]; exact y
  refine ⟨List.mem_cons_self, ?obj, ?keep, ?item, ?done, fun A i s Q E ⟨⟨_, g⟩, _⟩ k => wpAny_pyIter_enum g k⟩
  case obj =>
    rintro i h ⟨⟨old, g⟩, t⟩
    exact two ⟨_, g, fun _ z => nomatch z⟩ (N.live i h t)
  case keep =>
    rintro i h h' ⟨⟨old, g⟩, t⟩ k
    exact ⟨⟨old, k e List.mem_cons_self _ g⟩, N.move i h h' t (k it (List.mem_cons_of_mem _ List.mem_cons_self))⟩
  case done =>
    rintro X rfl rfl rfl calm i pins s σ H E I free ⟨⟨old, g⟩, t⟩ stop
    obtain ⟨fp, Pv, St', D, t'⟩ := N.fine X i pins s σ H rfl rfl rfl (I.ok.hd calm) I t stop
    obtain ⟨a, b, c', d, e', f⟩ := free it (List.mem_cons_of_mem _ List.mem_cons_self)
    exact wpAny_pyNext_enum_endD D g t' fun h' x => ⟨rfl, I.turned (t' := s.toks) (fun q o m z => x q o m z) a b d e' f⟩
  case item =>
    rintro X rfl rfl rfl calm i pins s σ H E I free ⟨⟨old, g⟩, t⟩ go
    obtain ⟨fp, n, Pv, St', D, lt, t', far, back, says⟩ := N.item X i pins s σ H rfl rfl rfl (I.ok.hd calm) I t go
    have le := Heap.lt_size g
    have li : it < s.heap.objs.size := by obtain ⟨o, z, _⟩ := N.live i _ t; exact Heap.lt_size z
    refine wpAny_pyNext_enum_itemC D g t' lt ne far fun u h1 tk pu out st1 pair _ old1 => ?_
    obtain ⟨v, rv, yld⟩ := says u pu
    refine ⟨_, rfl, wpAny_letOwnedTupleGo_enum (s := { s with heap := h1, toks := tk + 1 }) out fun h2 g2 same => ?_⟩
    have fresh := I.hok.fresh (Nat.le_refl s.heap.objs.size)
    have pair2 := (same.2 s.heap.objs.size (Ne.symm (Nat.ne_of_lt le))).trans pair
    have new : ObjOk X.prog X.w (upd H s.heap.objs.size (.tup [.int (c + (i : Nat)), v])) h2 s.heap.objs.size (.tup [.int (c + (i : Nat)), v]) :=
      ⟨by show 2 ≤ sizeLine; decide, _, .cons ⟨_, rfl⟩ (.cons rv .nil), ⟨_, pair2, rfl, _, rfl⟩⟩
    have I2 : Inv X pins σ _ { s with heap := h2, toks := tk + 1 } := I.turnedNew (ch := [e, it]) (fun b o m z => by
      have m1 : b ≠ e := fun q => m (by rw [q]; exact List.mem_cons_self)
      have m2 : b ≠ it := fun q => m (by rw [q]; exact List.mem_cons_of_mem _ List.mem_cons_self)
      rw [same.2 b m1]; exact old1 b o m1 m2 z) free (Nat.le_refl _) new
    refine ⟨.ref s.heap.objs.size, _, I2, rfl, yld _ fresh, ⟨⟨u, ?_⟩, N.move _ _ _ (back _ _ st1) fun o z => by rw [same.2 it (Ne.symm ne)]; exact z⟩, fun b m => ?_⟩
    · have q : c + ((i + 1 : Nat) : Int) = c + (i : Int) + 1 := by omega
      rw [q]; exact g2
    · have lb : b < s.heap.objs.size := two (p := (· < s.heap.objs.size)) le li b m
      rw [upd_ne (Nat.ne_of_lt lb)]; exact (free b m).1
/-- the list at a, each item in a new pair with c + its place -/
def IteC (K : PySem.W.Frag) (c : Int) (a : Addr) : It :=
  ⟨fun i H => ∃ (xs : List V) (x : V), SqL K H a xs ∧ xs[i]? = some x, fun i H v H' => ∃ T x, v = .ref T ∧ H T = none ∧ H' = upd H T (.tup [.int (c + (i : Nat)), x]) ∧ ∀ xs, SqL K H a xs → xs[i]? = some x, fun i H => ∃ xs : List V, SqL K H a xs ∧ xs.length = i⟩
theorem inner_list {P : Program} {w : World} {K : PySem.W.Frag} (c : Int) {a e it : Addr} (n1 : a ≠ it) (n2 : e ≠ a) (n3 : e ≠ it) : Inner P w K (IteC K c a) c e it (fun i h => h.IsListIter it a i) where
  live := fun i h ⟨o, x, _, d⟩ => ⟨o, x, fun v z => by rw [d] at z; cases z⟩
  move := fun i h h' t k => t.at fun o x => k o x
  item := by
    rintro X i pins s σ H rfl rfl rfl hh I t ⟨xs, x, hq, hx⟩
    obtain ⟨us, r, pl, _⟩ := I.list hq
    obtain ⟨u, hu, ru⟩ := r.get hx
    refine ⟨_, _, _, _, Draws.list (A := X.A.in1) hh it a n1 us.toArray, by simpa using (List.getElem?_eq_some_iff.mp hu).1, ⟨t, pl.isList⟩, by simp [n2, n3], fun _ _ z => z.1, fun u' pu => ?_⟩
    have z : us[i]? = some u' := by simpa using pu
    rw [hu] at z
    cases z
    exact ⟨x, ru, fun T nT => ⟨T, x, rfl, nT, rfl, fun ys hy => by rw [I.list_inj hy hq]; exact hx⟩⟩
  fine := by
    rintro X i pins s σ H rfl rfl rfl hh I t ⟨xs, hq, hx⟩
    obtain ⟨us, r, pl, _⟩ := I.list hq
    have len : us.toArray.size = i := by rw [← hx, r.length]; simp
    have D := Draws.list (prog := X.prog) (w := X.w) (A := X.A.in1) hh it a n1 us.toArray
    rw [len] at D
    exact ⟨_, _, _, D, t, pl.isList⟩
/-- the signs of a text, each in a new pair with c + its place -/
def ItsC (c : Int) (x : Str) : It :=
  ⟨fun i H => i < x.cps.size, fun i H v H' => ∃ T d, v = .ref T ∧ H T = none ∧ H' = upd H T (.tup [.int (c + (i : Nat)), .str ⟨#[d]⟩]) ∧ x.cps[i]? = some d, fun i H => x.cps.size = i⟩
theorem inner_str {P : Program} {w : World} {K : PySem.W.Frag} (c : Int) {x : Str} {t : Tok} {e it : Addr} (n3 : e ≠ it) : Inner P w K (ItsC c x) c e it (fun i h => h.IsStrIter it (strIterType x) x t i) := by
  have D : ∀ A : Around, A.handled = none → Draws P w A.in1 it [it] x.cps.size (fun i v => ∃ c u, x.cps[i]? = some c ∧ v = .str ⟨#[c]⟩ u) (fun i h => h.IsStrIter it (strIterType x) x t i) := fun A hh => by
    unfold strIterType
    split
    · exact Draws.strAscii (A := A.in1) hh it x t
    · exact Draws.strWide (A := A.in1) hh it x t
  refine ⟨fun i h ⟨o, z, _, d⟩ => ⟨o, z, fun v q => by rw [d] at q; cases q⟩, fun i h h' ⟨o, z, q⟩ k => ⟨o, k o z, q⟩, ?_, ?_⟩
  · rintro X i pins s σ H rfl rfl rfl hh I st lt
    exact ⟨_, _, _, _, D X.A hh, lt, st, by simp [n3], fun _ _ z => z, fun u ⟨d, tk, hd, eu⟩ => ⟨.str ⟨#[d]⟩, ⟨tk, eu⟩, fun T nT => ⟨T, d, rfl, nT, rfl, hd⟩⟩⟩
  · rintro X i pins s σ H rfl rfl rfl hh I st (len : x.cps.size = i)
    have D := D X.A hh
    rw [len] at D
    exact ⟨_, _, _, D, st⟩
def iEnumC (K : PySem.W.Frag) (ta : TA) : TI := fun σ H R => ta σ H fun vs H1 => ∃ a xs, vs = [.ref a] ∧ SqL K H1 a xs ∧ R (IteC K 1 a) H1
theorem pi_enumC {X : Cx} {e : Expr} {ta : TA} {p pos tpos kp : Pos} {e1 : Expr} {elts : List Expr} {kk : Nat} (hg : Gl X "enumerate") (hm : X.mg "enumerate" = none) (ha : PA X [e] ta) (h1 : PE X e1 (tC (.int 1)))
    (q1 : starEach [e] X.env = [(false, eval e X.env)] := by rfl) (q2 : (backToKw pos (keywordEach [⟨some "start", e1, kp⟩] X.env)).all (·.1.isSome) = true := by rfl)
    (q3 : (backToKw pos (keywordEach [⟨some "start", e1, kp⟩] X.env)).any (·.1.isNone) = false := by rfl) (q4 : (backToKw pos (keywordEach [⟨some "start", e1, kp⟩] X.env)).filterMap (·.1) = [Str.ofString "start"] := by rfl) :
    PI X (.Tuple elts kk tpos) (.Call (.Name "enumerate" p) [e] [⟨some "start", e1, kp⟩] pos) (iEnumC X.K ta) := by
  refine ⟨fun pins s σ H R I h => wpAny_Call_Name_kw (ld_blt I hg hm boot_enumerate (cw_typeK (e := e) (rest := []) (env := X.env) (pos := pos) (kws := [⟨some "start", e1, kp⟩]) (as := backTo pos (starEach [e] X.env)) (ks := backToKw pos (keywordEach [⟨some "start", e1, kp⟩] X.env)) rfl rfl (thn (ha.run pos pins s σ H _ I h) fun us s1 ⟨vs, H1, I1, r1, got⟩ => ?_) (by rw [q1]; rfl) (by rw [q1]; rfl) q2 q3))⟩
  refine thn ((pk_cons (X := X) (e := e1) (nm := some "start") (kpos := kp) h1 pk_nil).run pos pins s1 σ H1 (fun zs H2 => zs = [.int 1] ∧ H2 = H1) I1 ⟨rfl, rfl⟩) fun ws s2 ⟨zs, H2, I2, rz, ez, eH⟩ => ?_
  subst ez eH
  rw [q4]
  cases rz with | cons k1 k2 =>
  cases k2
  obtain ⟨tk, ew⟩ := k1
  subst ew
  obtain ⟨a, xs, rfl, hq, q⟩ := got
  cases r1 with | cons k1 k2 =>
  cases k2
  cases k1
  obtain ⟨its, rv, pl, _⟩ := I2.list hq
  have la : a < s2.heap.objs.size := by obtain ⟨_, z, _⟩ := pl.isList; exact Heap.lt_size z
  refine enum_begins_start (begins_list a its.toArray) pl.isList (by decide) (by decide) fun h' g hit _ hk => wpAny_pyIter_enum g ?_
  refine ⟨s2.heap.objs.size + 1, [s2.heap.objs.size + 1, s2.heap.objs.size], _, _, H2, rfl, I2.kept (t' := s2.toks) hk, (inner_list 1 (Nat.ne_of_lt la) (Ne.symm (Nat.ne_of_lt (Nat.lt_succ_of_lt la))) (Nat.succ_ne_self _)).turn (Nat.succ_ne_self _), ⟨⟨.none, by simpa using g⟩, ⟨_, hit, rfl, rfl⟩⟩, fun b m => ?_, q⟩
  have lb : s2.heap.objs.size ≤ b := by
    rcases List.mem_cons.mp m with rfl | m
    · exact Nat.le_succ _
    · rw [List.mem_singleton.mp m]; exact Nat.le_refl _
  exact I2.fpOk lb (I2.hok.fresh lb)
def iEnumS (ta : TA) : TI := fun σ H R => ta σ H fun vs H1 => ∃ x, vs = [.str x] ∧ R (ItsC 1 x) H1
theorem pi_enumS {X : Cx} {e : Expr} {ta : TA} {p pos tpos kp : Pos} {e1 : Expr} {elts : List Expr} {kk : Nat} (hg : Gl X "enumerate") (hm : X.mg "enumerate" = none) (ha : PA X [e] ta) (h1 : PE X e1 (tC (.int 1)))
    (q1 : starEach [e] X.env = [(false, eval e X.env)] := by rfl) (q2 : (backToKw pos (keywordEach [⟨some "start", e1, kp⟩] X.env)).all (·.1.isSome) = true := by rfl)
    (q3 : (backToKw pos (keywordEach [⟨some "start", e1, kp⟩] X.env)).any (·.1.isNone) = false := by rfl) (q4 : (backToKw pos (keywordEach [⟨some "start", e1, kp⟩] X.env)).filterMap (·.1) = [Str.ofString "start"] := by rfl) :
    PI X (.Tuple elts kk tpos) (.Call (.Name "enumerate" p) [e] [⟨some "start", e1, kp⟩] pos) (iEnumS ta) := by
  refine ⟨fun pins s σ H R I h => wpAny_Call_Name_kw (ld_blt I hg hm boot_enumerate (cw_typeK (e := e) (rest := []) (env := X.env) (pos := pos) (kws := [⟨some "start", e1, kp⟩]) (as := backTo pos (starEach [e] X.env)) (ks := backToKw pos (keywordEach [⟨some "start", e1, kp⟩] X.env)) rfl rfl (thn (ha.run pos pins s σ H _ I h) fun us s1 ⟨vs, H1, I1, r1, got⟩ => ?_) (by rw [q1]; rfl) (by rw [q1]; rfl) q2 q3))⟩
  refine thn ((pk_cons (X := X) (e := e1) (nm := some "start") (kpos := kp) h1 pk_nil).run pos pins s1 σ H1 (fun zs H2 => zs = [.int 1] ∧ H2 = H1) I1 ⟨rfl, rfl⟩) fun ws s2 ⟨zs, H2, I2, rz, ez, eH⟩ => ?_
  subst ez eH
  rw [q4]
  cases rz with | cons k1 k2 =>
  cases k2
  obtain ⟨tk, ew⟩ := k1
  subst ew
  obtain ⟨x, rfl, q⟩ := got
  cases r1 with | cons k1 k2 =>
  cases k2
  obtain ⟨t, eu⟩ := k1
  subst eu
  refine enum_begins_start (begins_text x t) trivial (by decide) (by decide) fun h' g hit _ hk => wpAny_pyIter_enum g ?_
  refine ⟨s2.heap.objs.size + 1, [s2.heap.objs.size + 1, s2.heap.objs.size], _, _, H2, rfl, I2.kept (t' := s2.toks) hk, (inner_str 1 (Nat.succ_ne_self _)).turn (Nat.succ_ne_self _), ⟨⟨.none, by simpa using g⟩, ⟨_, hit, rfl, rfl⟩⟩, fun b m => ?_, q⟩
  have lb : s2.heap.objs.size ≤ b := by
    rcases List.mem_cons.mp m with rfl | m
    · exact Nat.le_succ _
    · rw [List.mem_singleton.mp m]; exact Nat.le_refl _
  exact I2.fpOk lb (I2.hok.fresh lb)
end D0
namespace D0
open PySem PySem.Spec PyProof.Rows L2
def top (i : Nat) : Stmt := PySem.Challenge.pw_likerun_k02_first_fault_of_all.main.body.getD i (.Pass ⟨0, 0, 0, 0⟩)
abbrev s_SourceError___init__ : Stmt := inClass (top 2) 0
abbrev n_SourceError___init__ : List Str := ["self", "line", "column"]
abbrev p_SourceError___init__ : List Str := ["self", "line", "column"]
theorem sc_SourceError___init__ : FnScope n_SourceError___init__ p_SourceError___init__ (defScope s_SourceError___init__) := ⟨rfl, rfl, rfl, by decide +kernel, rfl, by decide +kernel, by decide +kernel⟩
abbrev s_BadOption___init__ : Stmt := inClass (top 10) 0
abbrev n_BadOption___init__ : List Str := ["self", "option"]
abbrev p_BadOption___init__ : List Str := ["self", "option"]
theorem sc_BadOption___init__ : FnScope n_BadOption___init__ p_BadOption___init__ (defScope s_BadOption___init__) := ⟨rfl, rfl, rfl, by decide +kernel, rfl, by decide +kernel, by decide +kernel⟩
abbrev s_BadCode___init__ : Stmt := inClass (top 11) 0
abbrev n_BadCode___init__ : List Str := ["self", "unit"]
abbrev p_BadCode___init__ : List Str := ["self", "unit"]
theorem sc_BadCode___init__ : FnScope n_BadCode___init__ p_BadCode___init__ (defScope s_BadCode___init__) := ⟨rfl, rfl, rfl, by decide +kernel, rfl, by decide +kernel, by decide +kernel⟩
abbrev s_BadPaper___init__ : Stmt := inClass (top 12) 0
abbrev n_BadPaper___init__ : List Str := ["self", "paper"]
abbrev p_BadPaper___init__ : List Str := ["self", "paper"]
theorem sc_BadPaper___init__ : FnScope n_BadPaper___init__ p_BadPaper___init__ (defScope s_BadPaper___init__) := ⟨rfl, rfl, rfl, by decide +kernel, rfl, by decide +kernel, by decide +kernel⟩
abbrev s_UnknownPass___init__ : Stmt := inClass (top 13) 0
abbrev n_UnknownPass___init__ : List Str := ["self", "word"]
abbrev p_UnknownPass___init__ : List Str := ["self", "word"]
theorem sc_UnknownPass___init__ : FnScope n_UnknownPass___init__ p_UnknownPass___init__ (defScope s_UnknownPass___init__) := ⟨rfl, rfl, rfl, by decide +kernel, rfl, by decide +kernel, by decide +kernel⟩
abbrev s_BadLevel___init__ : Stmt := inClass (top 14) 0
abbrev n_BadLevel___init__ : List Str := ["self", "level"]
abbrev p_BadLevel___init__ : List Str := ["self", "level"]
theorem sc_BadLevel___init__ : FnScope n_BadLevel___init__ p_BadLevel___init__ (defScope s_BadLevel___init__) := ⟨rfl, rfl, rfl, by decide +kernel, rfl, by decide +kernel, by decide +kernel⟩
abbrev s_Fault___init__ : Stmt := inClass (top 15) 0
abbrev n_Fault___init__ : List Str := ["self", "name", "value"]
abbrev p_Fault___init__ : List Str := ["self", "name", "value"]
theorem sc_Fault___init__ : FnScope n_Fault___init__ p_Fault___init__ (defScope s_Fault___init__) := ⟨rfl, rfl, rfl, by decide +kernel, rfl, by decide +kernel, by decide +kernel⟩
abbrev s_is_row : Stmt := top 18
abbrev n_is_row : List Str := ["text", "sign"]
abbrev p_is_row : List Str := ["text"]
theorem sc_is_row : FnScope n_is_row p_is_row (defScope s_is_row) := ⟨rfl, rfl, rfl, by decide +kernel, rfl, by decide +kernel, by decide +kernel⟩
abbrev s_is_letter : Stmt := top 19
abbrev n_is_letter : List Str := ["sign"]
abbrev p_is_letter : List Str := ["sign"]
theorem sc_is_letter : FnScope n_is_letter p_is_letter (defScope s_is_letter) := ⟨rfl, rfl, rfl, by decide +kernel, rfl, by decide +kernel, by decide +kernel⟩
abbrev s_is_digit : Stmt := top 20
abbrev n_is_digit : List Str := ["sign"]
abbrev p_is_digit : List Str := ["sign"]
theorem sc_is_digit : FnScope n_is_digit p_is_digit (defScope s_is_digit) := ⟨rfl, rfl, rfl, by decide +kernel, rfl, by decide +kernel, by decide +kernel⟩
abbrev s_digits_end : Stmt := top 21
abbrev n_digits_end : List Str := ["text", "start", "stop"]
abbrev p_digits_end : List Str := ["text", "start"]
theorem sc_digits_end : FnScope n_digits_end p_digits_end (defScope s_digits_end) := ⟨rfl, rfl, rfl, by decide +kernel, rfl, by decide +kernel, by decide +kernel⟩
abbrev s_name_end : Stmt := top 22
abbrev n_name_end : List Str := ["text", "start", "stop"]
abbrev p_name_end : List Str := ["text", "start"]
theorem sc_name_end : FnScope n_name_end p_name_end (defScope s_name_end) := ⟨rfl, rfl, rfl, by decide +kernel, rfl, by decide +kernel, by decide +kernel⟩
abbrev s_scan_token : Stmt := top 29
abbrev n_scan_token : List Str := ["row", "start", "line", "sign"]
abbrev p_scan_token : List Str := ["row", "start", "line"]
theorem sc_scan_token : FnScope n_scan_token p_scan_token (defScope s_scan_token) := ⟨rfl, rfl, rfl, by decide +kernel, rfl, by decide +kernel, by decide +kernel⟩
abbrev s_scan_name : Stmt := top 30
abbrev n_scan_name : List Str := ["row", "start", "line", "stop", "name"]
abbrev p_scan_name : List Str := ["row", "start", "line"]
theorem sc_scan_name : FnScope n_scan_name p_scan_name (defScope s_scan_name) := ⟨rfl, rfl, rfl, by decide +kernel, rfl, by decide +kernel, by decide +kernel⟩
abbrev s_scan_number : Stmt := top 31
abbrev n_scan_number : List Str := ["row", "start", "line", "stop", "digits", "padded", "glued"]
abbrev p_scan_number : List Str := ["row", "start", "line"]
theorem sc_scan_number : FnScope n_scan_number p_scan_number (defScope s_scan_number) := ⟨rfl, rfl, rfl, by decide +kernel, rfl, by decide +kernel, by decide +kernel⟩
abbrev s_scan_text : Stmt := top 32
abbrev n_scan_text : List Str := ["row", "start", "line", "parts", "at"]
abbrev p_scan_text : List Str := ["row", "start", "line"]
theorem sc_scan_text : FnScope n_scan_text p_scan_text (defScope s_scan_text) := ⟨rfl, rfl, rfl, by decide +kernel, rfl, by decide +kernel, by decide +kernel⟩
abbrev s_scan_sign : Stmt := top 33
abbrev n_scan_sign : List Str := ["row", "start", "line", "sign"]
abbrev p_scan_sign : List Str := ["row", "start", "line"]
theorem sc_scan_sign : FnScope n_scan_sign p_scan_sign (defScope s_scan_sign) := ⟨rfl, rfl, rfl, by decide +kernel, rfl, by decide +kernel, by decide +kernel⟩
abbrev s_Scanner___init__ : Stmt := inClass (top 41) 0
abbrev n_Scanner___init__ : List Str := ["self"]
abbrev p_Scanner___init__ : List Str := ["self"]
theorem sc_Scanner___init__ : FnScope n_Scanner___init__ p_Scanner___init__ (defScope s_Scanner___init__) := ⟨rfl, rfl, rfl, by decide +kernel, rfl, by decide +kernel, by decide +kernel⟩
abbrev s_Scanner_scan_row : Stmt := inClass (top 41) 1
abbrev n_Scanner_scan_row : List Str := ["self", "row", "line", "at", "kind", "word", "stop"]
abbrev p_Scanner_scan_row : List Str := ["self", "row", "line"]
theorem sc_Scanner_scan_row : FnScope n_Scanner_scan_row p_Scanner_scan_row (defScope s_Scanner_scan_row) := ⟨rfl, rfl, rfl, by decide +kernel, rfl, by decide +kernel, by decide +kernel⟩
abbrev s_Scanner_begin_line : Stmt := inClass (top 41) 2
abbrev n_Scanner_begin_line : List Str := ["self", "line", "column", "indent"]
abbrev p_Scanner_begin_line : List Str := ["self", "line", "column"]
theorem sc_Scanner_begin_line : FnScope n_Scanner_begin_line p_Scanner_begin_line (defScope s_Scanner_begin_line) := ⟨rfl, rfl, rfl, by decide +kernel, rfl, by decide +kernel, by decide +kernel⟩
abbrev s_Scanner_gather : Stmt := inClass (top 41) 3
abbrev n_Scanner_gather : List Str := ["self", "mark"]
abbrev p_Scanner_gather : List Str := ["self", "mark"]
theorem sc_Scanner_gather : FnScope n_Scanner_gather p_Scanner_gather (defScope s_Scanner_gather) := ⟨rfl, rfl, rfl, by decide +kernel, rfl, by decide +kernel, by decide +kernel⟩
abbrev s_Scanner_match_bracket : Stmt := inClass (top 41) 4
abbrev n_Scanner_match_bracket : List Str := ["self", "mark", "word"]
abbrev p_Scanner_match_bracket : List Str := ["self", "mark"]
theorem sc_Scanner_match_bracket : FnScope n_Scanner_match_bracket p_Scanner_match_bracket (defScope s_Scanner_match_bracket) := ⟨rfl, rfl, rfl, by decide +kernel, rfl, by decide +kernel, by decide +kernel⟩
abbrev s_Scanner_end_line : Stmt := inClass (top 41) 5
abbrev n_Scanner_end_line : List Str := ["self", "line"]
abbrev p_Scanner_end_line : List Str := ["self", "line"]
theorem sc_Scanner_end_line : FnScope n_Scanner_end_line p_Scanner_end_line (defScope s_Scanner_end_line) := ⟨rfl, rfl, rfl, by decide +kernel, rfl, by decide +kernel, by decide +kernel⟩
abbrev s_Scanner_end_text : Stmt := inClass (top 41) 6
abbrev n_Scanner_end_text : List Str := ["self", "line", "_"]
abbrev p_Scanner_end_text : List Str := ["self"]
theorem sc_Scanner_end_text : FnScope n_Scanner_end_text p_Scanner_end_text (defScope s_Scanner_end_text) := ⟨rfl, rfl, rfl, by decide +kernel, rfl, by decide +kernel, by decide +kernel⟩
abbrev s_tokens : Stmt := top 42
abbrev n_tokens : List Str := ["text", "rows", "scanner", "line", "row"]
abbrev p_tokens : List Str := ["text"]
theorem sc_tokens : FnScope n_tokens p_tokens (defScope s_tokens) := ⟨rfl, rfl, rfl, by decide +kernel, rfl, by decide +kernel, by decide +kernel⟩
abbrev s_checked_rows : Stmt := top 43
abbrev n_checked_rows : List Str := ["text", "rows", "line", "row"]
abbrev p_checked_rows : List Str := ["text"]
theorem sc_checked_rows : FnScope n_checked_rows p_checked_rows (defScope s_checked_rows) := ⟨rfl, rfl, rfl, by decide +kernel, rfl, by decide +kernel, by decide +kernel⟩
abbrev s_check_letters : Stmt := top 44
abbrev n_check_letters : List Str := ["row", "line", "column", "letter"]
abbrev p_check_letters : List Str := ["row", "line"]
theorem sc_check_letters : FnScope n_check_letters p_check_letters (defScope s_check_letters) := ⟨rfl, rfl, rfl, by decide +kernel, rfl, by decide +kernel, by decide +kernel⟩
abbrev s_spaces_end : Stmt := top 45
abbrev n_spaces_end : List Str := ["row", "start", "stop"]
abbrev p_spaces_end : List Str := ["row", "start"]
theorem sc_spaces_end : FnScope n_spaces_end p_spaces_end (defScope s_spaces_end) := ⟨rfl, rfl, rfl, by decide +kernel, rfl, by decide +kernel, by decide +kernel⟩
abbrev s__law_bag : Stmt := top 47
abbrev n__law_bag : List Str := ["script", "at", "cell", "seed", "one"]
abbrev p__law_bag : List Str := ["script", "at"]
theorem sc__law_bag : FnScope n__law_bag p__law_bag (defScope s__law_bag) := ⟨rfl, rfl, rfl, by decide +kernel, rfl, by decide +kernel, by decide +kernel⟩
abbrev s__law_take : Stmt := top 48
abbrev n__law_take : List Str := ["bag", "size", "got", "first", "second"]
abbrev p__law_take : List Str := ["bag", "size"]
theorem sc__law_take : FnScope n__law_take p__law_take (defScope s__law_take) := ⟨rfl, rfl, rfl, by decide +kernel, rfl, by decide +kernel, by decide +kernel⟩
abbrev s__law_whole : Stmt := top 49
abbrev n__law_whole : List Str := ["value"]
abbrev p__law_whole : List Str := ["value"]
theorem sc__law_whole : FnScope n__law_whole p__law_whole (defScope s__law_whole) := ⟨rfl, rfl, rfl, by decide +kernel, rfl, by decide +kernel, by decide +kernel⟩
abbrev s__law_signs : Stmt := top 50
abbrev n__law_signs : List Str := []
abbrev p__law_signs : List Str := []
theorem sc__law_signs : FnScope n__law_signs p__law_signs (defScope s__law_signs) := ⟨rfl, rfl, rfl, by decide +kernel, rfl, by decide +kernel, by decide +kernel⟩
abbrev s__law_keywords : Stmt := top 51
abbrev n__law_keywords : List Str := ["words"]
abbrev p__law_keywords : List Str := []
theorem sc__law_keywords : FnScope n__law_keywords p__law_keywords (defScope s__law_keywords) := ⟨rfl, rfl, rfl, by decide +kernel, rfl, by decide +kernel, by decide +kernel⟩
abbrev s__law_letters : Stmt := top 52
abbrev n__law_letters : List Str := []
abbrev p__law_letters : List Str := []
theorem sc__law_letters : FnScope n__law_letters p__law_letters (defScope s__law_letters) := ⟨rfl, rfl, rfl, by decide +kernel, rfl, by decide +kernel, by decide +kernel⟩
abbrev s__law_allowed : Stmt := top 53
abbrev n__law_allowed : List Str := ["first"]
abbrev p__law_allowed : List Str := []
theorem sc__law_allowed : FnScope n__law_allowed p__law_allowed (defScope s__law_allowed) := ⟨rfl, rfl, rfl, by decide +kernel, rfl, by decide +kernel, by decide +kernel⟩
abbrev s__law_spelled : Stmt := top 54
abbrev n__law_spelled : List Str := ["bag", "many", "first", "letters", "more", "built", "turn"]
abbrev p__law_spelled : List Str := ["bag", "many", "first"]
theorem sc__law_spelled : FnScope n__law_spelled p__law_spelled (defScope s__law_spelled) := ⟨rfl, rfl, rfl, by decide +kernel, rfl, by decide +kernel, by decide +kernel⟩
abbrev s__law_figures : Stmt := top 55
abbrev n__law_figures : List Str := ["bag", "many", "built", "turn"]
abbrev p__law_figures : List Str := ["bag", "many"]
theorem sc__law_figures : FnScope n__law_figures p__law_figures (defScope s__law_figures) := ⟨rfl, rfl, rfl, by decide +kernel, rfl, by decide +kernel, by decide +kernel⟩
abbrev s__law_inner : Stmt := top 56
abbrev n__law_inner : List Str := ["bag", "quote", "many", "signs", "word", "spelled", "turn", "sign"]
abbrev p__law_inner : List Str := ["bag", "quote", "many"]
theorem sc__law_inner : FnScope n__law_inner p__law_inner (defScope s__law_inner) := ⟨rfl, rfl, rfl, by decide +kernel, rfl, by decide +kernel, by decide +kernel⟩
abbrev s__law_named : Stmt := top 57
abbrev n__law_named : List Str := ["spelled"]
abbrev p__law_named : List Str := ["spelled"]
theorem sc__law_named : FnScope n__law_named p__law_named (defScope s__law_named) := ⟨rfl, rfl, rfl, by decide +kernel, rfl, by decide +kernel, by decide +kernel⟩
abbrev s__law_good : Stmt := top 58
abbrev n__law_good : List Str := ["bag", "way", "words", "figures", "quote", "inner", "sign", "signs"]
abbrev p__law_good : List Str := ["bag"]
theorem sc__law_good : FnScope n__law_good p__law_good (defScope s__law_good) := ⟨rfl, rfl, rfl, by decide +kernel, rfl, by decide +kernel, by decide +kernel⟩
abbrev s__law_odd_figures : Stmt := top 59
abbrev n__law_odd_figures : List Str := ["bag", "way", "mend", "spelled", "good", "turn"]
abbrev p__law_odd_figures : List Str := ["bag", "way", "mend"]
theorem sc__law_odd_figures : FnScope n__law_odd_figures p__law_odd_figures (defScope s__law_odd_figures) := ⟨rfl, rfl, rfl, by decide +kernel, rfl, by decide +kernel, by decide +kernel⟩
abbrev s__law_odd_text : Stmt := top 60
abbrev n__law_odd_text : List Str := ["bag", "way", "mend", "quote", "inner", "odd", "sign", "behind", "spelled"]
abbrev p__law_odd_text : List Str := ["bag", "way", "mend"]
theorem sc__law_odd_text : FnScope n__law_odd_text p__law_odd_text (defScope s__law_odd_text) := ⟨rfl, rfl, rfl, by decide +kernel, rfl, by decide +kernel, by decide +kernel⟩
abbrev s__law_odd : Stmt := top 61
abbrev n__law_odd : List Str := ["bag", "mend", "way", "spelled", "signs", "sign"]
abbrev p__law_odd : List Str := ["bag", "mend"]
theorem sc__law_odd : FnScope n__law_odd p__law_odd (defScope s__law_odd) := ⟨rfl, rfl, rfl, by decide +kernel, rfl, by decide +kernel, by decide +kernel⟩
abbrev s__law_item : Stmt := top 62
abbrev n__law_item : List Str := ["bag", "bends", "mend", "closers", "way", "sign"]
abbrev p__law_item : List Str := ["bag", "bends", "mend", "closers"]
theorem sc__law_item : FnScope n__law_item p__law_item (defScope s__law_item) := ⟨rfl, rfl, rfl, by decide +kernel, rfl, by decide +kernel, by decide +kernel⟩
abbrev s__law_add_item : Stmt := top 63
abbrev n__law_add_item : List Str := ["row", "item", "gap", "closers"]
abbrev p__law_add_item : List Str := ["row", "item", "gap", "closers"]
theorem sc__law_add_item : FnScope n__law_add_item p__law_add_item (defScope s__law_add_item) := ⟨rfl, rfl, rfl, by decide +kernel, rfl, by decide +kernel, by decide +kernel⟩
abbrev s__law_row : Stmt := top 64
abbrev n__law_row : List Str := ["bag", "width", "bends", "mend", "closers", "final", "row", "many", "leave", "turn", "item", "gap", "closer"]
abbrev p__law_row : List Str := ["bag", "width", "bends", "mend", "closers", "final"]
theorem sc__law_row : FnScope n__law_row p__law_row (defScope s__law_row) := ⟨rfl, rfl, rfl, by decide +kernel, rfl, by decide +kernel, by decide +kernel⟩
abbrev s__law_width : Stmt := top 65
abbrev n__law_width : List Str := ["bag", "widths", "bends", "mend", "rise", "way", "free", "more", "width", "kept", "one"]
abbrev p__law_width : List Str := ["bag", "widths", "bends", "mend", "rise"]
theorem sc__law_width : FnScope n__law_width p__law_width (defScope s__law_width) := ⟨rfl, rfl, rfl, by decide +kernel, rfl, by decide +kernel, by decide +kernel⟩
abbrev s__law_crowd : Stmt := top 66
abbrev n__law_crowd : List Str := ["bag", "rows", "mend", "many", "row", "closers", "turn", "item", "sign", "odd"]
abbrev p__law_crowd : List Str := ["bag", "rows", "mend"]
theorem sc__law_crowd : FnScope n__law_crowd p__law_crowd (defScope s__law_crowd) := ⟨rfl, rfl, rfl, by decide +kernel, rfl, by decide +kernel, by decide +kernel⟩
abbrev s__law_stretched : Stmt := top 67
abbrev n__law_stretched : List Str := ["bag", "rows", "mend", "row", "size", "more", "at"]
abbrev p__law_stretched : List Str := ["bag", "rows", "mend"]
theorem sc__law_stretched : FnScope n__law_stretched p__law_stretched (defScope s__law_stretched) := ⟨rfl, rfl, rfl, by decide +kernel, rfl, by decide +kernel, by decide +kernel⟩
abbrev s__law_filled : Stmt := top 68
abbrev n__law_filled : List Str := ["bag", "rows", "mend", "size", "ahead", "row", "more", "turn", "wide"]
abbrev p__law_filled : List Str := ["bag", "rows", "mend"]
theorem sc__law_filled : FnScope n__law_filled p__law_filled (defScope s__law_filled) := ⟨rfl, rfl, rfl, by decide +kernel, rfl, by decide +kernel, by decide +kernel⟩
abbrev s__law_page : Stmt := top 69
abbrev n__law_page : List Str := ["bag", "mend", "shape", "bends", "rows", "widths", "closers", "many", "turn", "width", "row", "at"]
abbrev p__law_page : List Str := ["bag", "mend"]
theorem sc__law_page : FnScope n__law_page p__law_page (defScope s__law_page) := ⟨rfl, rfl, rfl, by decide +kernel, rfl, by decide +kernel, by decide +kernel⟩
abbrev s__law_block_fault : Stmt := top 70
abbrev n__law_block_fault : List Str := ["blocks", "width", "turn"]
abbrev p__law_block_fault : List Str := ["blocks", "width"]
theorem sc__law_block_fault : FnScope n__law_block_fault p__law_block_fault (defScope s__law_block_fault) := ⟨rfl, rfl, rfl, by decide +kernel, rfl, by decide +kernel, by decide +kernel⟩
abbrev s__law_first_fault : Stmt := top 71
abbrev n__law_first_fault : List Str := ["rows", "row", "blocks", "pending", "many", "piece", "found"]
abbrev p__law_first_fault : List Str := ["rows"]
theorem sc__law_first_fault : FnScope n__law_first_fault p__law_first_fault (defScope s__law_first_fault) := ⟨rfl, rfl, rfl, by decide +kernel, rfl, by decide +kernel, by decide +kernel⟩
abbrev s__law_logical_lines : Stmt := top 72
abbrev n__law_logical_lines : List Str := ["rows", "found", "pending", "row", "piece"]
abbrev p__law_logical_lines : List Str := ["rows"]
theorem sc__law_logical_lines : FnScope n__law_logical_lines p__law_logical_lines (defScope s__law_logical_lines) := ⟨rfl, rfl, rfl, by decide +kernel, rfl, by decide +kernel, by decide +kernel⟩
abbrev s__law_is_tokens : Stmt := top 73
abbrev n__law_is_tokens : List Str := ["told", "token"]
abbrev p__law_is_tokens : List Str := ["told"]
theorem sc__law_is_tokens : FnScope n__law_is_tokens p__law_is_tokens (defScope s__law_is_tokens) := ⟨rfl, rfl, rfl, by decide +kernel, rfl, by decide +kernel, by decide +kernel⟩
abbrev s__law_is_good : Stmt := top 74
abbrev n__law_is_good : List Str := ["rows", "row", "told", "due", "kinds", "plain", "token", "piece"]
abbrev p__law_is_good : List Str := ["rows"]
theorem sc__law_is_good : FnScope n__law_is_good p__law_is_good (defScope s__law_is_good) := ⟨rfl, rfl, rfl, by decide +kernel, rfl, by decide +kernel, by decide +kernel⟩
abbrev s__law_classes : Stmt := top 75
abbrev n__law_classes : List Str := ["raised", "found"]
abbrev p__law_classes : List Str := ["raised"]
theorem sc__law_classes : FnScope n__law_classes p__law_classes (defScope s__law_classes) := ⟨rfl, rfl, rfl, by decide +kernel, rfl, by decide +kernel, by decide +kernel⟩
abbrev s__law_is_source_error : Stmt := top 76
abbrev n__law_is_source_error : List Str := ["raised", "fault"]
abbrev p__law_is_source_error : List Str := ["raised", "fault"]
theorem sc__law_is_source_error : FnScope n__law_is_source_error p__law_is_source_error (defScope s__law_is_source_error) := ⟨rfl, rfl, rfl, by decide +kernel, rfl, by decide +kernel, by decide +kernel⟩
abbrev s__law_is_raised : Stmt := top 77
abbrev n__law_is_raised : List Str := ["source", "fault", "raised"]
abbrev p__law_is_raised : List Str := ["source", "fault"]
theorem sc__law_is_raised : FnScope n__law_is_raised p__law_is_raised (defScope s__law_is_raised) := ⟨rfl, rfl, rfl, by decide +kernel, rfl, by decide +kernel, by decide +kernel⟩
abbrev s__law_are_made : Stmt := top 78
abbrev n__law_are_made : List Str := ["line", "column", "place"]
abbrev p__law_are_made : List Str := ["line", "column"]
theorem sc__law_are_made : FnScope n__law_are_made p__law_are_made (defScope s__law_are_made) := ⟨rfl, rfl, rfl, by decide +kernel, rfl, by decide +kernel, by decide +kernel⟩
abbrev s__law_is_below : Stmt := top 79
abbrev n__law_is_below : List Str := ["made"]
abbrev p__law_is_below : List Str := ["made"]
theorem sc__law_is_below : FnScope n__law_is_below p__law_is_below (defScope s__law_is_below) := ⟨rfl, rfl, rfl, by decide +kernel, rfl, by decide +kernel, by decide +kernel⟩
abbrev s__law_others_are_made : Stmt := top 80
abbrev n__law_others_are_made : List Str := ["bag", "count", "spelled", "option", "unit", "paper", "unknown", "level", "fault"]
abbrev p__law_others_are_made : List Str := ["bag"]
theorem sc__law_others_are_made : FnScope n__law_others_are_made p__law_others_are_made (defScope s__law_others_are_made) := ⟨rfl, rfl, rfl, by decide +kernel, rfl, by decide +kernel, by decide +kernel⟩
abbrev s__law_is_right : Stmt := top 81
abbrev n__law_is_right : List Str := ["rows", "fault", "row"]
abbrev p__law_is_right : List Str := ["rows"]
theorem sc__law_is_right : FnScope n__law_is_right p__law_is_right (defScope s__law_is_right) := ⟨rfl, rfl, rfl, by decide +kernel, rfl, by decide +kernel, by decide +kernel⟩
abbrev s_law : Stmt := top 82
abbrev n_law : List Str := ["script", "bag", "line"]
abbrev p_law : List Str := ["script"]
theorem sc_law : FnScope n_law p_law (defScope s_law) := ⟨rfl, rfl, rfl, by decide +kernel, rfl, by decide +kernel, by decide +kernel⟩
end D0
namespace D0
open PySem PySem.Spec PyProof.Rows L2 SX
theorem _root_.L2.Fun.lk {K : PySem.W.Frag} {x q : Str} {st : Stmt} {f : Addr} {fd : FuncData} (F : Fun K x q st f fd) : ∃ oc od osl, K.lookup f = some ⟨oc, od, .func fd, osl⟩ := by
  obtain ⟨oc, od, kV, doc, pm, an, cdv, ct, osl, e, lk, _⟩ := F.ex
  exact ⟨oc, od, osl, lk⟩
/-- the def named x keeps the promise sp -/
def OkD (P : Program) (w : World) (K : PySem.W.Frag) (mg : Str → Option Value) (base : Heap) (CX : CXT) (k : Nat) (x : Str) (ps : List Str) (sp : Sp) : Prop :=
  ∃ f fd, mg x = some (.ref f) ∧ PySem.W.keepIn K (.ref f) = true ∧ Binds K fd ps [] ∧ (∃ oc od osl, K.lookup f = some ⟨oc, od, .func fd, osl⟩) ∧ FnOk P w K mg base CX k f fd ps sp
theorem OkD.mono {P w K mg base CX j k x ps sp} (O : OkD P w K mg base CX j x ps sp) (h : j ≤ k) : OkD P w K mg base CX k x ps sp := by
  obtain ⟨f, fd, a, b, c, d, F⟩ := O
  exact ⟨f, fd, a, b, c, d, F.mono h⟩
/-- the def named x stands in the text as st -/
def Gv (K : PySem.W.Frag) (mg : Str → Option Value) (x : Str) (st : Stmt) (ps : List Str) : Prop :=
  ∃ f fd, Fun K x x st f fd ∧ mg x = some (.ref f) ∧ Binds K fd ps []
section
variable {X : Cx} {CX : CXT} {k j : Nat} {ps : List Str} {sp : Sp} {E : XK} {x : Str} {p pos : Pos} {e : Expr} {es : List Expr} {t : TA}
theorem pcallE (O : OkD X.prog X.w X.K X.mg X.base CX k x ps sp) (hr : Room j X.A) (hx : Passes CX X E) (ha : PA X (e :: es) t) (hj : k ≤ j := by first | decide | omega) (hg : Gl X x := by rfl)
    (hdb : (x == ("__debug__" : Str)) = false := by decide) (he : starEach (e :: es) X.env = (false, eval e X.env) :: starEach es X.env := by rfl) (hpl : (backTo pos (starEach es X.env)).any (·.1) = false := by rfl) :
    PE X (.Call (.Name x p) (e :: es) [] pos) (tCall sp [] E t) := by
  obtain ⟨f, fd, hm, hk, hb, _, F⟩ := O
  exact pe_call F (hr.mono hj) hg hm hk hb .nil hx ha hdb he hpl
theorem pcall (O : OkD X.prog X.w X.K X.mg X.base CX0 k x ps sp) (hr : Room j X.A) (ha : PA X (e :: es) t) (hj : k ≤ j := by first | decide | omega) (hg : Gl X x := by rfl)
    (hdb : (x == ("__debug__" : Str)) = false := by decide) (he : starEach (e :: es) X.env = (false, eval e X.env) :: starEach es X.env := by rfl) (hpl : (backTo pos (starEach es X.env)).any (·.1) = false := by rfl) :
    PE X (.Call (.Name x p) (e :: es) [] pos) (tCall sp [] E0 t) := pcallE O hr pass0 ha hj hg hdb he hpl
theorem pcall0 (O : OkD X.prog X.w X.K X.mg X.base CX0 k x ps sp) (hr : Room j X.A) (hj : k ≤ j := by first | decide | omega) (hg : Gl X x := by rfl)
    (hdb : (x == ("__debug__" : Str)) = false := by decide) :
    PE X (.Call (.Name x p) [] [] pos) (tCall sp [] E0 tNil) := by
  obtain ⟨f, fd, hm, hk, hb, _, F⟩ := O
  exact pe_call0 F (hr.mono hj) hg hm hk hb .nil pass0 hdb
end
section
variable {P : Program} {w : World} {K : PySem.W.Frag} {mg : Str → Option Value} {base : Heap}
theorem Gv.ok {x : Str} {st : Stmt} {N ps : List Str} {k : Nat} {sp : Sp} (G : Gv K mg x st ps) (S : FnScope N ps (defScope st)) (len : ∀ vs H Q E, sp vs H Q E → vs.length = ps.length)
    (hbody : ∀ (f : Addr) (cdv : Value) (A : Around) (outer : List Env) (s : Shared) (H : Hp) (vs : List V) (Q : VK) (E : XK), Room k (A.deeper (envOfC x (defScope st) s.heap.objs.size f cdv)) → sp vs H Q E →
      ∃ t, PSs (cxOf CX0 P w K mg base N x (defScope st) f cdv A outer s H E).nox (defBody st) t ∧ t { nx := fun _ H' => Q .non H', rt := Q } (start N vs) H) : OkD P w K mg base CX0 (k + 1) x ps sp := by
  obtain ⟨f, fd, F, hm, hb⟩ := G
  exact ⟨f, fd, hm, F.kp, hb, F.lk, F.ok S len (hbody f)⟩
theorem Gv.okX {x : Str} {st : Stmt} {N ps : List Str} {k : Nat} {sp : Sp} (G : Gv K mg x st ps) (S : FnScope N ps (defScope st)) (len : ∀ vs H Q E, sp vs H Q E → vs.length = ps.length)
    (hbody : ∀ (f : Addr) (cdv : Value) (A : Around) (outer : List Env) (s : Shared) (H : Hp) (vs : List V) (Q : VK) (E : XK), Room k (A.deeper (envOfC x (defScope st) s.heap.objs.size f cdv)) → sp vs H Q E →
      ∃ t, PSs (cxOf (L2.CX P w) P w K mg base N x (defScope st) f cdv A outer s H E) (defBody st) t ∧ t { nx := fun _ H' => Q .non H', rt := Q } (start N vs) H) : OkD P w K mg base (L2.CX P w) (k + 1) x ps sp := by
  obtain ⟨f, fd, F, hm, hb⟩ := G
  exact ⟨f, fd, hm, F.kp, hb, F.lk, F.okX S len (hbody f)⟩
theorem Gv.okT {x : Str} {st : Stmt} {N ps : List Str} {k : Nat} {sp : Sp} (G : Gv K mg x st ps) (S : FnScope N ps (defScope st)) (hnc : ∀ y ∈ (defScope st).names, y.2 ≠ .cell) (hps : 1 ≤ ps.length) (len : ∀ vs H Q E, sp vs H Q E → vs.length = ps.length)
    (hbody : ∀ (f : Addr) (cdv : Value) (A : Around) (outer : List Env) (s : Shared) (H : Hp) (vs : List V) (Q : VK) (E : XK), Room k (A.deeper (envOfC x (defScope st) s.heap.objs.size f cdv)) → sp vs H Q E →
      ∃ t, PSsT (cxOf CX0 P w K mg base N x (defScope st) f cdv A outer s H E) (defBody st) t ∧ t { nx := fun _ H' => Q .non H', rt := Q } (start N vs) H) : OkD P w K mg base CX0 (k + 1) x ps sp := by
  obtain ⟨f, fd, F, hm, hb⟩ := G
  obtain ⟨oc, od, kV, doc, pm, an, cdv, ct, osl, rfl, lk, hcd⟩ := F.ex
  exact ⟨f, _, hm, F.kp, hb, ⟨_, _, _, lk⟩, fn_ofT lk hcd S hnc hps len (hbody f cdv)⟩
end
theorem pe_gI {X : Cx} {x : Str} {n : Int} {pos : Pos} (h : ∃ t, X.mg x = some (.int n t)) (hg : Gl X x := by rfl) (hd : (x == ("__debug__" : Str)) = false := by decide) : PE X (.Name x pos) (tC (.int n)) := by
  obtain ⟨t, h⟩ := h
  exact pe_glob hg h (show RelV (.int n) _ from ⟨t, rfl⟩) hd
/-- is True, is False: of any value -/
theorem op_isTF {X : Cx} : OpR X (compareOp .Is) (fun x y H Q => ∃ b, y = .bl b ∧ Q (.bl (decide (x = .bl b))) H) := by
  intro pins s σ H x y v u Q I rx ry h
  obtain ⟨b, rfl, q⟩ := h
  cases (show u = Value.bool b from ry)
  by_cases e : x = .bl b
  · subst e
    cases (show v = Value.bool b from rx)
    exact wpAny_is_self rfl ⟨.bl true, H, I, rfl, by simpa using q⟩
  · have hp : plainIs v (Value.bool b) = true ∧ v ≠ Value.bool b := by
      cases x with
      | bl c => cases (show v = Value.bool c from rx); exact ⟨rfl, fun z => e (by cases z; rfl)⟩
      | non => cases (show v = Value.none from rx); exact ⟨rfl, fun z => nomatch z⟩
      | ref a => cases (show v = Value.ref a from rx); exact ⟨rfl, fun z => nomatch z⟩
      | ty n => cases (show v = Value.type n from rx); exact ⟨rfl, fun z => nomatch z⟩
      | int i => obtain ⟨t, rfl⟩ := rx; exact ⟨rfl, fun z => nomatch z⟩
      | str i => obtain ⟨t, rfl⟩ := rx; exact ⟨rfl, fun z => nomatch z⟩
      | byt i => obtain ⟨t, rfl⟩ := rx; exact ⟨rfl, fun z => nomatch z⟩
      | flt i => obtain ⟨t, rfl⟩ := rx; exact ⟨rfl, fun z => nomatch z⟩
    exact wpAny_is_other hp.1 hp.2 ⟨.bl false, H, I, rfl, by simpa [e] using q⟩
section
variable {P : Program} {w : World} {K : PySem.W.Frag} {mg : Str → Option Value} {base : Heap}
/-- the method m of the class C keeps the promise sp -/
def OkM (P : Program) (w : World) (K : PySem.W.Frag) (mg : Str → Option Value) (base : Heap) (C : Addr) (CX : CXT) (k : Nat) (m : Str) (ps : List Str) (sp : Sp) : Prop :=
  ∃ f fd, Meth K C m f ∧ Binds K fd ps [] ∧ FnOk P w K mg base CX k f fd ps sp
def Gvm (K : PySem.W.Frag) (C : Addr) (m q : Str) (st : Stmt) (ps : List Str) : Prop := ∃ f fd, Fun K m q st f fd ∧ Meth K C m f ∧ Binds K fd ps []
theorem OkM.mono {C : Addr} {CX j k x ps sp} (O : OkM P w K mg base C CX j x ps sp) (h : j ≤ k) : OkM P w K mg base C CX k x ps sp := by
  obtain ⟨f, fd, a, b, F⟩ := O
  exact ⟨f, fd, a, b, F.mono h⟩
theorem Gvm.ok {C : Addr} {x q : Str} {st : Stmt} {N ps : List Str} {k : Nat} {sp : Sp} (G : Gvm K C x q st ps) (S : FnScope N ps (defScope st)) (len : ∀ vs H Q E, sp vs H Q E → vs.length = ps.length)
    (hbody : ∀ (f : Addr) (cdv : Value) (A : Around) (outer : List Env) (s : Shared) (H : Hp) (vs : List V) (Q : VK) (E : XK), Room k (A.deeper (envOfC q (defScope st) s.heap.objs.size f cdv)) → sp vs H Q E →
      ∃ t, PSs (cxOf CX0 P w K mg base N q (defScope st) f cdv A outer s H E).nox (defBody st) t ∧ t { nx := fun _ H' => Q .non H', rt := Q } (start N vs) H) : OkM P w K mg base C CX0 (k + 1) x ps sp := by
  obtain ⟨f, fd, F, hm, hb⟩ := G
  exact ⟨f, fd, hm, hb, F.ok S len (hbody f)⟩
theorem Gvm.okX {C : Addr} {x q : Str} {st : Stmt} {N ps : List Str} {k : Nat} {sp : Sp} (G : Gvm K C x q st ps) (S : FnScope N ps (defScope st)) (len : ∀ vs H Q E, sp vs H Q E → vs.length = ps.length)
    (hbody : ∀ (f : Addr) (cdv : Value) (A : Around) (outer : List Env) (s : Shared) (H : Hp) (vs : List V) (Q : VK) (E : XK), Room k (A.deeper (envOfC q (defScope st) s.heap.objs.size f cdv)) → sp vs H Q E →
      ∃ t, PSs (cxOf (L2.CX P w) P w K mg base N q (defScope st) f cdv A outer s H E) (defBody st) t ∧ t { nx := fun _ H' => Q .non H', rt := Q } (start N vs) H) : OkM P w K mg base C (L2.CX P w) (k + 1) x ps sp := by
  obtain ⟨f, fd, F, hm, hb⟩ := G
  exact ⟨f, fd, hm, hb, F.okX S len (hbody f)⟩
end
section
variable {X : Cx} {CX : CXT} {k j : Nat} {ps : List Str} {sp : Sp} {E : XK} {x m : Str} {p pos apos : Pos} {o e : Expr} {es : List Expr} {ta : TE} {t : TA} {C : Addr} {pl : Sem Bool}
theorem pmethE (O : OkM X.prog X.w X.K X.mg X.base C CX k m ps sp) (cl : Cls X.K C) (hr : Room j X.A) (hx : Passes CX X E) (ho : PE X o ta) (ha : PA X (e :: es) t) (hj : k ≤ j := by first | decide | omega)
    (he : starEach (e :: es) X.env = (false, eval e X.env) :: starEach es X.env := by rfl) (hpl : (backTo pos (starEach es X.env)).any (·.1) = false := by rfl)
    (hm : eval (.Call (.Attribute o m apos) (e :: es) [] pos) X.env = (do
      let ov ← eval o X.env
      standAt apos.atName
      let (f, first) ← holding [ov] (getMethod ov m pl)
      callWith pos f first (backTo pos (starEach (e :: es) X.env)) (backToKw pos (keywordEach [] X.env))) := by rfl) :
    PE X (.Call (.Attribute o m apos) (e :: es) [] pos) (tMeth C m sp [] E ta t) := by
  obtain ⟨f, fd, hm', hb, F⟩ := O
  exact pe_meth ho cl hm' F (hr.mono hj) hb .nil hx ha he hpl hm
theorem pmeth0 (O : OkM X.prog X.w X.K X.mg X.base C CX k m ps sp) (cl : Cls X.K C) (hr : Room j X.A) (hx : Passes CX X E) (ho : PE X o ta) (hj : k ≤ j := by first | decide | omega)
    (hm : eval (.Call (.Attribute o m apos) [] [] pos) X.env = (do
      let ov ← eval o X.env
      standAt apos.atName
      let (f, first) ← holding [ov] (getMethod ov m pl)
      callWith pos f first (backTo pos (starEach [] X.env)) (backToKw pos (keywordEach [] X.env))) := by rfl) :
    PE X (.Call (.Attribute o m apos) [] [] pos) (tMeth C m sp [] E ta tNil) := by
  obtain ⟨f, fd, hm', hb, F⟩ := O
  exact pe_meth0 ho cl hm' F (hr.mono hj) hb .nil hx hm
end
/-! ### the errors -/
inductive Er | sign | token | indent | long | deep
def Er.nm : Er → Str
  | .sign => "BadSign" | .token => "BadToken" | .indent => "BadIndent" | .long => "TooLong" | .deep => "TooDeep"
def xs2 (l c : Int) : List (Str × V) := [("column", .int c), ("line", .int l)]
/-- the error classes at ec, their __init__ -/
structure ErrT (P : Program) (w : World) (K : PySem.W.Frag) (mg : Str → Option Value) (base : Heap) (ec : Er → Addr) : Prop where
  gl : ∀ k : Er, mg k.nm = some (.ref (ec k))
  oex : ∀ k : Er, OexC K (ec k)
  nl : ∀ k : Er, PySem.W.findIn K (.ref (ec k)) "line" = some none
  nc : ∀ k : Er, PySem.W.findIn K (.ref (ec k)) "column" = some none
  ini : ∃ fI fd, (∀ k : Er, PySem.W.findIn K (.ref (ec k)) "__init__" = some (some (.ref fI))) ∧ PySem.W.typeIn K (.ref fI) = some (.type "function") ∧ Binds K fd p_SourceError___init__ [] ∧ Fun K "__init__" "SourceError.__init__" s_SourceError___init__ fI fd
def spInitE (K : PySem.W.Frag) : Sp := fun vs H Q _ => ∃ (a C : Addr) (l c : Int), vs = [.ref a, .int l, .int c] ∧ H a = some (exo a C none) ∧ OexC K C ∧ PySem.W.findIn K (.ref C) "line" = some none ∧ PySem.W.findIn K (.ref C) "column" = some none ∧
  ∀ d H', H d = none → d ≠ a → H' d = some (exd d (xs2 l c)) → H' a = some (exo a C (some d)) → (∀ b, b ≠ a → b ≠ d → H' b = H b) → Q .non H'
section
variable {P : Program} {w : World} {K : PySem.W.Frag} {mg : Str → Option Value} {base : Heap}
theorem ok_SourceError___init__ {f : Addr} {fd : FuncData} (F : Fun K "__init__" "SourceError.__init__" s_SourceError___init__ f fd) : FnOk P w K mg base CX0 1 f fd p_SourceError___init__ (spInitE K) := by
  refine F.ok sc_SourceError___init__ (fun vs H Q E h => ?_) (fun cdv A outer s H vs Q E hr h => ?_)
  · obtain ⟨a, C, l, c, rfl, _⟩ := h; rfl
  obtain ⟨a, C, l, c, rfl, ha, oC, n1, n2, q⟩ := h
  refine ⟨_, pss_cons (ps_ost (pv 0) (pv 1) rfl) (pss_one (ps_ost (pv 0) (pv 2) rfl)), ?_⟩
  refine ⟨_, rfl, _, rfl, a, C, rfl, oC, n1, .inl ⟨ha, fun dx hd ne => ?_⟩⟩
  refine ⟨_, rfl, _, rfl, a, C, rfl, oC, n2, .inr ⟨dx, _, upd_same, by rw [upd_ne ne, upd_same], by show 1 ≤ 900; decide, ?_⟩⟩
  refine q dx _ hd ne upd_same (by rw [upd_ne (Ne.symm ne), upd_same]) fun b h1 h2 => ?_
  rw [upd_ne h2, upd_ne h1, upd_ne h2]
end
/-- the error k(l, c) leaves, what stood in H stands -/
def Rz (ec : Er → Addr) (k : Er) (l c : Int) (H : Hp) (E : XK) : Prop := ∀ d H', Same H H' → H d = none → H' d = some (.xd (xs2 l c)) → E (.ref (ec k)) (some d) H'
theorem pmk_err {X : Cx} {ec : Er → Addr} {x : Str} {p pos : Pos} {e : Expr} {es : List Expr} {ta : TA} {j : Nat} (T : ErrT X.prog X.w X.K X.mg X.base ec) (k : Er) (hr : Room j X.A) (ha : PA X (e :: es) ta) (hj : 2 ≤ j := by first | decide | omega) (hg : Gl X x := by rfl)
    (hx : k.nm = x := by rfl) (hd : (x == ("__debug__" : Str)) = false := by decide) (hs : starEach (e :: es) X.env = (false, eval e X.env) :: starEach es X.env := by rfl) (hpl : (backTo pos (starEach es X.env)).any (·.1) = false := by rfl) :
    PMk X (.Call (.Name x p) (e :: es) [] pos) (tMkO (ec k) (spInitE X.K) [] ta) := by
  obtain ⟨fI, fd, iC, tI, hb, F⟩ := T.ini
  have hm : X.mg x = some (.ref (ec k)) := by rw [← hx]; exact T.gl k
  exact pmk_oex (X := X) (p := p) (pos := pos) (T.oex k) (iC k) tI (ok_SourceError___init__ (P := X.prog) (w := X.w) (mg := X.mg) (base := X.base) F) (hr.mono (j := 2) hj) hb .nil pass0 hg hm ha hd hs hpl
theorem rz_mk {P : Program} {w : World} {K : PySem.W.Frag} {mg : Str → Option Value} {base : Heap} {ec : Er → Addr} {k : Er} {l c : Int} {H : Hp} {Q : XK} (T : ErrT P w K mg base ec) (h : Rz ec k l c H Q) :
    [V.int l, V.int c].length ≤ 1000 ∧ ∀ a, H a = none → spInitE K (.ref a :: ([V.int l, V.int c] ++ [])) (upd H a (exo a (ec k) none))
      (fun v H2 => v = .non ∧ ∃ (d : Addr) (fs : List (Str × V)), H2 a = some (exo a (ec k) (some d)) ∧ H2 d = some (exd d fs) ∧ H d = none ∧ Q (.ref (ec k)) (some d) (upd (del H2 a) d (.xd fs))) (fun _ _ _ => False) := by
  refine ⟨by show 2 ≤ 1000; decide, fun a na => ⟨a, ec k, l, c, rfl, upd_same, T.oex k, T.nl k, T.nc k, fun d H' hd ne h1 h2 h3 => ⟨rfl, d, _, h2, h1, ?_, ?_⟩⟩⟩
  · rw [upd_ne ne] at hd; exact hd
  · rw [upd_ne ne] at hd
    refine h d _ (fun b u e => ?_) hd upd_same
    have nb : b ≠ a := ne_of_none e na
    have nd : b ≠ d := ne_of_none e hd
    rw [upd_ne nd, del_ne nb, h3 b nb nd, upd_ne nb]
    exact e
end D0
namespace D0
open PySem PySem.Spec PyProof.Rows L2 SX
def KW : List (List Nat) := [[97, 110, 100], [97, 115], [98, 114, 101, 97, 107], [99, 108, 97, 115, 115], [99, 111, 110, 116, 105, 110, 117, 101], [100, 101, 102], [100, 101, 108], [101, 108, 105, 102], [101, 108, 115, 101], [101, 120, 99, 101, 112, 116], [70, 97, 108, 115, 101], [102, 105, 110, 97, 108, 108, 121], [102, 111, 114], [102, 114, 111, 109], [103, 108, 111, 98, 97, 108], [105, 102], [105, 110], [105, 115], [108, 97, 109, 98, 100, 97], [109, 111, 100], [78, 111, 110, 101], [110, 111, 110, 108, 111, 99, 97, 108], [110, 111, 116], [111, 114], [112, 97, 115, 115], [114, 97, 105, 115, 101], [114, 101, 116, 117, 114, 110], [84, 114, 117, 101], [116, 114, 121], [119, 104, 105, 108, 101], [119, 105, 116, 104], [121, 105, 101, 108, 100]]
def SG : List (List Nat) := [[47, 47, 61], [43, 61], [45, 61], [42, 61], [47, 47], [61, 61], [33, 61], [60, 61], [62, 61], [60], [62], [61], [43], [45], [42], [40], [41], [91], [93], [123], [125], [44], [58], [46]]
def escV : List Nat → Option (List Nat)
  | [110] => some [10] | [92] => some [92] | [39] => some [39] | [34] => some [34] | _ => none
def cloV : List Nat → Option (List Nat)
  | [41] => some [40] | [93] => some [91] | [125] => some [123] | _ => none
def OPN : List (List Nat) := [[40], [91], [123]]
/-- the written dict named x answers as f -/
def DictT (K : PySem.W.Frag) (w : World) (mg : Str → Option Value) (x : Str) (f : List Nat → Option (List Nat)) : Prop :=
  ∃ (d : Addr) (es : Array DictEntry) (n : Nat), mg x = some (.ref d) ∧ KDict K w d es n ∧ ∀ l : List Nat, ∃ r, PySem.W.nsIn K d (S l) = some r ∧ r.isSome = (f l).isSome ∧ ∀ m, f l = some m → ∃ u0, r = some u0 ∧ RelV (.str (S m)) u0
def TupT (K : PySem.W.Frag) (mg : Str → Option Value) (x : Str) (ls : List (List Nat)) : Prop := ∃ a, mg x = some (.ref a) ∧ ∀ H, SqT K H a (ls.map fun l => .str (S l))
/-- THE TEXT -/
structure Txt (K : PySem.W.Frag) (w : World) (mg : Str → Option Value) : Prop where
  z_ValueError : mg "ValueError" = none
  z_bool : mg "bool" = none
  z_enumerate : mg "enumerate" = none
  z_int : mg "int" = none
  z_isinstance : mg "isinstance" = none
  z_len : mg "len" = none
  z_list : mg "list" = none
  z_max : mg "max" = none
  z_min : mg "min" = none
  z_ord : mg "ord" = none
  z_range : mg "range" = none
  z_reversed : mg "reversed" = none
  z_str : mg "str" = none
  z_sum : mg "sum" = none
  z_tuple : mg "tuple" = none
  g_is_row : Gv K mg "is_row" s_is_row p_is_row
  g_is_letter : Gv K mg "is_letter" s_is_letter p_is_letter
  g_is_digit : Gv K mg "is_digit" s_is_digit p_is_digit
  g_digits_end : Gv K mg "digits_end" s_digits_end p_digits_end
  g_name_end : Gv K mg "name_end" s_name_end p_name_end
  g_scan_token : Gv K mg "scan_token" s_scan_token p_scan_token
  g_scan_name : Gv K mg "scan_name" s_scan_name p_scan_name
  g_scan_number : Gv K mg "scan_number" s_scan_number p_scan_number
  g_scan_text : Gv K mg "scan_text" s_scan_text p_scan_text
  g_scan_sign : Gv K mg "scan_sign" s_scan_sign p_scan_sign
  g_tokens : Gv K mg "tokens" s_tokens p_tokens
  g_checked_rows : Gv K mg "checked_rows" s_checked_rows p_checked_rows
  g_check_letters : Gv K mg "check_letters" s_check_letters p_check_letters
  g_spaces_end : Gv K mg "spaces_end" s_spaces_end p_spaces_end
  g__law_bag : Gv K mg "_law_bag" s__law_bag p__law_bag
  g__law_take : Gv K mg "_law_take" s__law_take p__law_take
  g__law_whole : Gv K mg "_law_whole" s__law_whole p__law_whole
  g__law_signs : Gv K mg "_law_signs" s__law_signs p__law_signs
  g__law_keywords : Gv K mg "_law_keywords" s__law_keywords p__law_keywords
  g__law_letters : Gv K mg "_law_letters" s__law_letters p__law_letters
  g__law_allowed : Gv K mg "_law_allowed" s__law_allowed p__law_allowed
  g__law_spelled : Gv K mg "_law_spelled" s__law_spelled p__law_spelled
  g__law_figures : Gv K mg "_law_figures" s__law_figures p__law_figures
  g__law_inner : Gv K mg "_law_inner" s__law_inner p__law_inner
  g__law_named : Gv K mg "_law_named" s__law_named p__law_named
  g__law_good : Gv K mg "_law_good" s__law_good p__law_good
  g__law_odd_figures : Gv K mg "_law_odd_figures" s__law_odd_figures p__law_odd_figures
  g__law_odd_text : Gv K mg "_law_odd_text" s__law_odd_text p__law_odd_text
  g__law_odd : Gv K mg "_law_odd" s__law_odd p__law_odd
  g__law_item : Gv K mg "_law_item" s__law_item p__law_item
  g__law_add_item : Gv K mg "_law_add_item" s__law_add_item p__law_add_item
  g__law_row : Gv K mg "_law_row" s__law_row p__law_row
  g__law_width : Gv K mg "_law_width" s__law_width p__law_width
  g__law_crowd : Gv K mg "_law_crowd" s__law_crowd p__law_crowd
  g__law_stretched : Gv K mg "_law_stretched" s__law_stretched p__law_stretched
  g__law_filled : Gv K mg "_law_filled" s__law_filled p__law_filled
  g__law_page : Gv K mg "_law_page" s__law_page p__law_page
  g__law_block_fault : Gv K mg "_law_block_fault" s__law_block_fault p__law_block_fault
  g__law_first_fault : Gv K mg "_law_first_fault" s__law_first_fault p__law_first_fault
  g__law_logical_lines : Gv K mg "_law_logical_lines" s__law_logical_lines p__law_logical_lines
  g__law_is_tokens : Gv K mg "_law_is_tokens" s__law_is_tokens p__law_is_tokens
  g__law_is_good : Gv K mg "_law_is_good" s__law_is_good p__law_is_good
  g__law_classes : Gv K mg "_law_classes" s__law_classes p__law_classes
  g__law_is_source_error : Gv K mg "_law_is_source_error" s__law_is_source_error p__law_is_source_error
  g__law_is_raised : Gv K mg "_law_is_raised" s__law_is_raised p__law_is_raised
  g__law_are_made : Gv K mg "_law_are_made" s__law_are_made p__law_are_made
  g__law_is_below : Gv K mg "_law_is_below" s__law_is_below p__law_is_below
  g__law_others_are_made : Gv K mg "_law_others_are_made" s__law_others_are_made p__law_others_are_made
  g__law_is_right : Gv K mg "_law_is_right" s__law_is_right p__law_is_right
  g_law : Gv K mg "law" s_law p_law
  c_PERCENT : ∃ t, mg "PERCENT" = some (.int 37 t)
  c_NAME_LIMIT : ∃ t, mg "NAME_LIMIT" = some (.int 30 t)
  c_NUMBER_LIMIT : ∃ t, mg "NUMBER_LIMIT" = some (.int 40 t)
  c_TEXT_LIMIT : ∃ t, mg "TEXT_LIMIT" = some (.int 6000 t)
  c_ROW_LIMIT : ∃ t, mg "ROW_LIMIT" = some (.int 120 t)
  c_TOKEN_LIMIT : ∃ t, mg "TOKEN_LIMIT" = some (.int 120 t)
  c_INDENT_LIMIT : ∃ t, mg "INDENT_LIMIT" = some (.int 11 t)
  c_KEYWORDS : TupT K mg "KEYWORDS" KW
  c_SIGNS : TupT K mg "SIGNS" SG
  c_OPENING : TupT K mg "OPENING" OPN
  c_ESCAPES : DictT K w mg "ESCAPES" escV
  c_CLOSING : DictT K w mg "CLOSING" cloV
/-- the class Scanner at C -/
structure ScT (K : PySem.W.Frag) (mg : Str → Option Value) (C : Addr) : Prop where
  cl : Cls K C
  gl : mg "Scanner" = some (.ref C)
  n_marks : NoAttr K C "marks"
  n_brackets : NoAttr K C "brackets"
  n_indents : NoAttr K C "indents"
  n_many : NoAttr K C "many"
  n_behind : NoAttr K C "behind"
  ini : ∃ fI fd, Mk K C fI ∧ Binds K fd p_Scanner___init__ [] ∧ Fun K "__init__" "Scanner.__init__" s_Scanner___init__ fI fd
  g_scan_row : Gvm K C "scan_row" "Scanner.scan_row" s_Scanner_scan_row p_Scanner_scan_row
  g_begin_line : Gvm K C "begin_line" "Scanner.begin_line" s_Scanner_begin_line p_Scanner_begin_line
  g_gather : Gvm K C "gather" "Scanner.gather" s_Scanner_gather p_Scanner_gather
  g_match_bracket : Gvm K C "match_bracket" "Scanner.match_bracket" s_Scanner_match_bracket p_Scanner_match_bracket
  g_end_line : Gvm K C "end_line" "Scanner.end_line" s_Scanner_end_line p_Scanner_end_line
  g_end_text : Gvm K C "end_text" "Scanner.end_text" s_Scanner_end_text p_Scanner_end_text
end D0
namespace D0
open PySem PySem.Spec PyProof.Rows L2 SX
def isDig (c : Nat) : Bool := decide (48 ≤ c ∧ c ≤ 57)
def spIsDigit : Sp := fun vs H Q _ => ∃ l : List Nat, vs = [.str (S l)] ∧ l.length ≤ 1 ∧ Q (.bl (l.any isDig)) H
/-- texts of the program are below this -/
abbrev big : Nat := 1000000
theorem big_line {n : Nat} (h : n ≤ big) : n ≤ sizeLine := by
  have : big ≤ sizeLine := by decide
  omega
theorem S_line {l : List Nat} (h : l.length ≤ big) : (S l).length ≤ sizeLine := by rw [S_len]; exact big_line h
def spDigitsEnd : Sp := fun vs H Q _ => ∃ (l : List Nat) (i : Nat), vs = [.str (S l), .int i] ∧ l.length ≤ big ∧ i ≤ l.length ∧ Q (.int ((i + ((l.drop i).takeWhile isDig).length : Nat) : Int)) H
theorem at_S {l : List Nat} {i : Nat} {c : Nat} (h : l[i]? = some c) : atI (S l).cps.toList (i : Int) = some c := by
  exact atI_nat h
theorem lex1 (a b : Nat) : decide ([a] < [b]) = decide (a < b) := by
  by_cases h : a < b
  · rw [decide_eq_true h]; exact decide_eq_true (List.Lex.rel h)
  · rw [decide_eq_false h]
    refine decide_eq_false fun z => ?_
    cases z with
    | rel r => exact h r
    | cons r => cases r
theorem tw_step {l : List Nat} {k c : Nat} (h : l[k]? = some c) (d : isDig c = true) : k + ((l.drop k).takeWhile isDig).length = (k + 1) + ((l.drop (k + 1)).takeWhile isDig).length := by
  obtain ⟨hk, e⟩ := List.getElem?_eq_some_iff.mp h
  rw [List.drop_eq_getElem_cons hk, e, List.takeWhile_cons, if_pos d, List.length_cons]
  omega
theorem tw_stop {l : List Nat} {k c : Nat} (h : l[k]? = some c) (d : isDig c = false) : ((l.drop k).takeWhile isDig).length = 0 := by
  obtain ⟨hk, e⟩ := List.getElem?_eq_some_iff.mp h
  rw [List.drop_eq_getElem_cons hk, e, List.takeWhile_cons, if_neg (by rw [d]; exact Bool.false_ne_true)]
  rfl
section
variable {P : Program} {w : World} {K : PySem.W.Frag} {mg : Str → Option Value} {base : Heap}
theorem ok_is_digit (G : Gv K mg "is_digit" s_is_digit p_is_digit) : OkD P w K mg base CX0 1 "is_digit" p_is_digit spIsDigit := by
  refine G.ok sc_is_digit (fun vs H Q E h => ?_) (fun f cdv A outer s H vs Q E hr h => ?_)
  · obtain ⟨l, rfl, _⟩ := h; rfl
  obtain ⟨l, rfl, hl, q⟩ := h
  refine ⟨_, pss_one (ps_ret (pe_chain op_le_str op_le_str pe_str (pv 0) pe_str)), ?_⟩
  have e0 : (Str.ofString "0").cps.toList = [48] := by decide +kernel
  have e9 : (Str.ofString "9").cps.toList = [57] := by decide +kernel
  refine ⟨_, rfl, _, _, rfl, rfl, _, rfl, ite2 (fun c => ?_) (fun c => ?_)⟩
  · refine ⟨_, _, rfl, rfl, ?_⟩
    show Q (.bl (!decide ((Str.ofString "9").cps.toList < (S l).cps.toList))) H
    rw [e9]
    rw [e0] at c
    match l, hl, c, q with
    | [], _, c, q => exact absurd c (by decide)
    | [x], _, c, q =>
      have c' : (!decide ([x] < [48])) = true := c
      rw [lex1] at c'
      show Q (.bl (!decide ([57] < [x]))) H
      rw [lex1]
      have e : (!decide (57 < x)) = [x].any isDig := by
        show _ = (isDig x || false)
        unfold isDig
        have : ¬ x < 48 := by simpa using c'
        by_cases h : x ≤ 57
        · have h2 : ¬ 57 < x := by omega
          simp [h, h2]; omega
        · have h2 : 57 < x := by omega
          simp [h, h2]
      rw [e]; exact q
  · show Q (.bl false) H
    rw [e0] at c
    match l, hl, c, q with
    | [], _, c, q => exact q
    | [x], _, c, q =>
      have c' : ¬ (!decide ([x] < [48])) = true := c
      rw [lex1] at c'
      have h : x < 48 := by simpa using c'
      have e : [x].any isDig = false := by
        show (isDig x || false) = false
        unfold isDig
        have : ¬ 48 ≤ x := by omega
        simp [this]
      rw [← e]; exact q
theorem ok_digits_end (G : Gv K mg "digits_end" s_digits_end p_digits_end) (O1 : OkD P w K mg base CX0 1 "is_digit" p_is_digit spIsDigit) (zlen : mg "len" = none) : OkD P w K mg base CX0 2 "digits_end" p_digits_end spDigitsEnd := by
  refine G.ok sc_digits_end (fun vs H Q E h => ?_) (fun f cdv A outer s H vs Q E hr h => ?_)
  · obtain ⟨l, i, rfl, _⟩ := h; rfl
  obtain ⟨l, i, rfl, hl, hi, q⟩ := h
  refine ⟨_, pss_cons (ps_set (i := 2) sc_digits_end.nd rfl (.inl rfl) (pv 1))
    (pss_cons (ps_while PassesOwn.never (PW.pt (pw_and (pt_cmpR op_lt (pv 2) (pe_callB call_len_str (by rfl) zlen PySem.boot_len (pa_cons (pv 0) pa_nil)) (nomark _)) (pw_and1 (pt_val (pcall O1 hr (pa_cons (pe_ix ix_str (pv 0) (pv 2) (fun _ _ => rfl)) pa_nil))))))
      (pss_one (ps_aug (i := 2) sc_digits_end.nd rfl (.inl rfl) pe_int ip_add)))
    (pss_one (ps_ret (pv 2)))), ?_⟩
  refine ⟨_, rfl, fun m σ H' => ∃ k : Nat, σ = [some (.str (S l)), some (.int i), some (.int k)] ∧ H' = H ∧ m = l.length - k ∧ k ≤ l.length ∧ i + ((l.drop i).takeWhile isDig).length = k + ((l.drop k).takeWhile isDig).length,
    ⟨_, i, rfl, rfl, rfl, hi, rfl⟩, ?_⟩
  rintro m σ H' ⟨k, rfl, rfl, rfl, hk, e⟩
  refine ⟨_, rfl, _, rfl, _, rfl, S_line hl, _, _, rfl, rfl, _, rfl, ite2 (fun c => ?_) (fun c => ?_)⟩
  · have c' : (k : Int) < ((S l).length : Int) := of_decide_eq_true c
    rw [S_len] at c'
    have hk' : k < l.length := by omega
    have g : l[k]? = some l[k] := List.getElem?_eq_getElem hk'
    refine ⟨_, rfl, _, rfl, S l, k, _, rfl, rfl, S_line hl, at_S g, [l[k]], rfl, Nat.le_refl 1, _, rfl, ite2 (fun d => ?_) (fun d => ?_)⟩
    · have d' : isDig l[k] = true := by simpa using d
      refine ⟨_, fun _ _ h => h, ?_⟩
      refine ⟨_, rfl, _, _, rfl, rfl, ?_⟩
      exact ⟨_, by omega, k + 1, rfl, rfl, rfl, by omega, by rw [e]; exact tw_step g d'⟩
    · have d' : isDig l[k] = false := by simpa using d
      refine ⟨_, rfl, ?_⟩
      rw [e, tw_stop g d'] at q
      exact q
  · have c' : ¬ (k : Int) < ((S l).length : Int) := of_decide_eq_false (Bool.eq_false_iff.mpr c)
    rw [S_len] at c'
    have hk' : k = l.length := by omega
    refine ⟨_, rfl, ?_⟩
    rw [e, hk', List.drop_length] at q
    rw [hk']
    exact q
end
end D0
namespace D0
open PySem PySem.Spec PyProof.Rows L2 SX
/-- a character that a row may hold -/
def rowc (c : Nat) : Bool := decide (32 ≤ c ∧ c ≤ 126 ∧ c ≠ 37)
theorem same_new {H : Hp} {p : Addr} (h : H p = none) (o : HO) : Same H (upd H p o) := fun b u q => by rw [upd_ne (ne_of_none q h)]; exact q
theorem tl_S (l : List Nat) : (S l).cps.toList = l := rfl
def spIsRow : Sp := fun vs H Q _ => ∃ l : List Nat, vs = [.str (S l)] ∧ l.length ≤ big ∧ ∀ H', Same H H' → Q (.bl (l.all rowc)) H'
theorem asc_S (l : List Nat) : Txt.isascii (S l) = l.all (fun c => decide (c < 128)) := by
  show (S l).cps.all _ = _
  rw [← Array.all_toList]
theorem pri_S (l : List Nat) : Txt.isprintable (S l) = l.all Unicode.isPrintable := by
  show (S l).cps.all _ = _
  rw [← Array.all_toList]
theorem pri_lt {c : Nat} (h : c < 128) : Unicode.isPrintable c = decide (32 ≤ c ∧ c ≤ 126) := by
  have z : ∀ c, c < 128 → Unicode.isPrintable c = decide (32 ≤ c ∧ c ≤ 126) := by decide +kernel
  exact z c h
theorem row_no1 {l : List Nat} (h : l.all (fun c => decide (c < 128)) = false) : l.all rowc = false := by
  cases e : l.all rowc with
  | false => rfl
  | true =>
    rw [List.all_eq_true] at e
    have : l.all (fun c => decide (c < 128)) = true := List.all_eq_true.mpr fun c hc => by
      have := e c hc
      unfold rowc at this
      have := of_decide_eq_true this
      exact decide_eq_true (by omega)
    rw [this] at h; cases h
theorem row_no2 {l : List Nat} (h0 : l.all (fun c => decide (c < 128)) = true) (h : l.all Unicode.isPrintable = false) : l.all rowc = false := by
  cases e : l.all rowc with
  | false => rfl
  | true =>
    rw [List.all_eq_true] at e h0
    have : l.all Unicode.isPrintable = true := List.all_eq_true.mpr fun c hc => by
      have h1 := e c hc
      unfold rowc at h1
      have h1 := of_decide_eq_true h1
      rw [pri_lt (by omega)]
      exact decide_eq_true ⟨h1.1, h1.2.1⟩
    rw [this] at h; cases h
theorem row_in {l : List Nat} (h0 : l.all (fun c => decide (c < 128)) = true) (h : l.all Unicode.isPrintable = true) : l.all rowc = !inV (.int 37) (l.map fun c => V.int (c : Nat)) := by
  rw [List.all_eq_true] at h0 h
  have e : inV (.int 37) (l.map fun c => V.int (c : Nat)) = l.any (fun c => c == 37) := by
    unfold inV
    rw [List.any_map]
    congr 1
    funext c
    show decide ((c : Int) = 37) = _
    by_cases z : c = 37
    · subst z; rfl
    · have z2 : ¬ (c : Int) = 37 := by omega
      rw [decide_eq_false z2]; exact (beq_eq_false_iff_ne.mpr z).symm
  rw [e, List.not_any_eq_all_not]
  rw [Bool.eq_iff_iff, List.all_eq_true, List.all_eq_true]
  constructor
  · intro k c hc
    have k1 := of_decide_eq_true (show decide _ = true from k c hc)
    simp; omega
  · intro k c hc
    have k1 : ¬ c = 37 := by simpa using k c hc
    have h1 := h c hc
    rw [pri_lt (of_decide_eq_true (h0 c hc))] at h1
    have h2 := of_decide_eq_true h1
    exact decide_eq_true ⟨h2.1, h2.2, k1⟩
section
variable {P : Program} {w : World} {K : PySem.W.Frag} {mg : Str → Option Value} {base : Heap}
theorem ok_is_row (G : Gv K mg "is_row" s_is_row p_is_row) (zord : mg "ord" = none) (gP : ∃ t, mg "PERCENT" = some (.int 37 t)) : OkD P w K mg base CX0 1 "is_row" p_is_row spIsRow := by
  refine G.ok sc_is_row (fun vs H Q E h => ?_) (fun f cdv A outer s H vs Q E hr h => ?_)
  · obtain ⟨l, rfl, _⟩ := h; rfl
  obtain ⟨l, rfl, hl, q⟩ := h
  refine ⟨_, pss_cons (ps_if (PW.pt (pw_or (pt_not (pt_val (pe_bm0 PySem.F.plainAttrs_str PySem.F.slot_str_isascii PySem.F.type_str_isascii mt_isascii (pv 0))))
      (pw_or1 (pt_not (pt_val (pe_bm0 PySem.F.plainAttrs_str PySem.F.slot_str_isprintable PySem.F.type_str_isprintable mt_isprintable (pv 0)))))))
      (pss_one (ps_ret pe_bl)) pss_nil)
    (pss_one (ps_ret (pe_cmpR op_notIn_seq (pe_gI gP)
      (pe_lc (own := [("sign", 1)]) (g := gName 1) (tt := tYes) rfl sc_is_row.nd (pi_str (pv 0)) (blkOk_by (own := [("sign", 1)]) (N := n_is_row) (sc := defScope s_is_row) (by decide +kernel))
        (fun _ _ _ _ _ => pg_name (i := 1) sc_is_row.nd rfl (Or.inl rfl)) (fun _ _ _ _ _ => pts_nil) (fun _ _ _ _ _ => pe_callB call_ord (by rfl) zord (by decide +kernel) (pa_cons (pv 1) pa_nil))) (by rfl)))), ?_⟩
  refine ⟨_, rfl, rfl, _, rfl, rfl, trivial, _, rfl, ?_⟩
  rw [asc_S]
  cases ha : l.all (fun c => decide (c < 128)) with
  | false =>
    refine iteT (iteT ?_)
    have := q H (Same.refl H)
    rw [row_no1 ha] at this
    exact this
  | true =>
    refine iteF ⟨_, rfl, rfl, _, rfl, rfl, trivial, _, rfl, ?_⟩
    rw [pri_S]
    cases hp : l.all Unicode.isPrintable with
    | false =>
      refine iteT ?_
      have := q H (Same.refl H)
      rw [row_no2 ha hp] at this
      exact this
    | true =>
      refine iteF ?_
      refine ⟨_, rfl, S l, rfl, fun D hD => ?_⟩
      refine lc_it walk_str (fun i H' => Same H H' ∧ H' D = some (.lst ((l.take i).map fun c => V.int (c : Nat)))) ⟨same_new hD _, upd_same⟩ (fun _ _ _ _ => trivial) ?_ ?_
      · rintro i x H1 H2 hi ⟨sm, hl1⟩ ⟨rfl, c, hc, rfl⟩
        have hc' : l[i]? = some c := by simpa using hc
        refine ⟨rfl, iteT (B := True) (iteT ?_)⟩
        refine ⟨_, rfl, ⟨#[c]⟩, rfl, rfl, _, hl1, ?_, ?_, ?_⟩
        · rw [List.length_map, List.length_take]
          have : big < sizeLine := by decide
          omega
        · intro b o e
          rw [upd_ne (ne_of_none e hD)]
          exact sm _ _ e
        · rw [upd_same, List.take_add_one, hc', List.map_append]
          rfl
      · rintro H1 ⟨sm, hl1⟩
        have e : l.take (S l).cps.size = l := List.take_of_length_le (by simp)
        rw [e] at hl1
        refine ⟨D, _, rfl, .inl (SqL.of hl1), rfl, ?_, ?_⟩
        · rw [List.all_map]; exact List.all_eq_true.mpr fun _ _ => rfl
        · have := q H1 sm
          rw [row_in ha hp] at this
          exact this
end
end D0
namespace D0
open PySem PySem.Spec PyProof.Rows L2 SX
theorem PE.of {X : Cx} {e : Expr} {t t' : TE} (h : PE X e t) (f : ∀ σ H Q, t' σ H Q → t σ H Q) : PE X e t' := ⟨fun pins s σ H Q I q => h.run pins s σ H Q I (f σ H Q q)⟩
def letc (c : Nat) : Bool := decide (97 ≤ c ∧ c ≤ 122) || decide (65 ≤ c ∧ c ≤ 90) || c == 95
def spIsLetter : Sp := fun vs H Q _ => ∃ l : List Nat, vs = [.str (S l)] ∧ l.length ≤ 1 ∧ Q (.bl (l.any letc)) H
theorem le_of {a b : Str} {x y : Nat} {l : List Nat} (ea : a.cps.toList = [x]) (eb : b.cps.toList = [y]) (hl : l.length ≤ 1) :
    (if (!decide ((S l).cps.toList < a.cps.toList)) = true then (!decide (b.cps.toList < (S l).cps.toList)) else false) = l.any fun c => decide (x ≤ c ∧ c ≤ y) := by
  rw [ea, eb]
  show (if (!decide (l < [x])) = true then (!decide ([y] < l)) else false) = _
  match l, hl with
  | [], _ => rfl
  | [c], _ =>
    rw [lex1, lex1]
    show _ = (decide (x ≤ c ∧ c ≤ y) || false)
    by_cases h1 : c < x <;> by_cases h2 : y < c <;> simp [h1, h2] <;> omega
def tBtw (i x y : Nat) : TE := fun σ H Q => ∃ l : List Nat, σ[i]? = some (some (.str (S l))) ∧ l.length ≤ 1 ∧ Q (.bl (l.any fun c => decide (x ≤ c ∧ c ≤ y))) H
theorem ch_of {a b : Str} {x y : Nat} {l : List Nat} {H : Hp} {Q : VK} (ea : a.cps.toList = [x]) (eb : b.cps.toList = [y]) (hl : l.length ≤ 1) (q : Q (.bl (l.any fun c => decide (x ≤ c ∧ c ≤ y))) H) :
    if (!decide ((S l).cps.toList < a.cps.toList)) = true then Q (.bl (!decide (b.cps.toList < (S l).cps.toList))) H else Q (.bl false) H := by
  rw [← le_of ea eb hl] at q
  by_cases c : (!decide ((S l).cps.toList < a.cps.toList)) = true
  · rw [if_pos c] at q ⊢; exact q
  · rw [if_neg c] at q ⊢; exact q
section
variable {P : Program} {w : World} {K : PySem.W.Frag} {mg : Str → Option Value} {base : Heap}
theorem ok_is_letter (G : Gv K mg "is_letter" s_is_letter p_is_letter) : OkD P w K mg base CX0 1 "is_letter" p_is_letter spIsLetter := by
  refine G.ok sc_is_letter (fun vs H Q E h => ?_) (fun f cdv A outer s H vs Q E hr h => ?_)
  · obtain ⟨l, rfl, _⟩ := h; rfl
  obtain ⟨l, rfl, hl, q⟩ := h
  have ea : (Str.ofString "a").cps.toList = [97] ∧ (Str.ofString "z").cps.toList = [122] ∧ (Str.ofString "A").cps.toList = [65] ∧ (Str.ofString "Z").cps.toList = [90] ∧ Str.ofString "_" = S [95] := by decide +kernel
  refine ⟨_, pss_one (ps_ret (pe_or (PE.of (t' := tBtw 0 97 122) (pe_chain op_le_str op_le_str pe_str (pv 0) pe_str) ?a1) (pe_or (PE.of (t' := tBtw 0 65 90) (pe_chain op_le_str op_le_str pe_str (pv 0) pe_str) ?a2) (pe_one (pe_cmpR op_eq (pv 0) pe_str (nomark _)))))), ?_⟩
  case a1 =>
    intro σ H Q ⟨l, e, hl, q⟩
    refine ⟨_, e, _, _, rfl, rfl, _, rfl, ?_⟩
    have := ch_of ea.1 ea.2.1 hl q
    refine ite2 (fun c => ⟨_, _, rfl, rfl, ?_⟩) (fun c => ?_)
    · rw [if_pos c] at this; exact this
    · rw [if_neg c] at this; exact this
  case a2 =>
    intro σ H Q ⟨l, e, hl, q⟩
    refine ⟨_, e, _, _, rfl, rfl, _, rfl, ?_⟩
    have := ch_of ea.2.2.1 ea.2.2.2.1 hl q
    refine ite2 (fun c => ⟨_, _, rfl, rfl, ?_⟩) (fun c => ?_)
    · rw [if_pos c] at this; exact this
    · rw [if_neg c] at this; exact this
  have eq : l.any letc = (l.any (fun c => decide (97 ≤ c ∧ c ≤ 122)) || (l.any (fun c => decide (65 ≤ c ∧ c ≤ 90)) || decide (V.str (S l) = V.str (Str.ofString "_")))) := by
    rw [ea.2.2.2.2]
    match l, hl with
    | [], _ => rfl
    | [c], _ =>
      have e2 : decide (V.str (S [c]) = V.str (S [95])) = (c == 95) := by
        by_cases h : c = 95
        · subst h; rw [decide_eq_true rfl]; rfl
        · rw [decide_eq_false (fun z => h (by have := S_inj (V.str.inj z); simpa using this))]; exact (beq_eq_false_iff_ne.mpr h).symm
      rw [e2]
      simp [letc, Bool.or_assoc]
  refine ⟨l, rfl, hl, _, rfl, ite2 (fun c => ?_) (fun c => ?_)⟩
  · rw [eq, c, Bool.true_or] at q; exact q
  · rw [eq, Bool.eq_false_iff.mpr c, Bool.false_or] at q
    refine ⟨l, rfl, hl, _, rfl, ite2 (fun c2 => ?_) (fun c2 => ?_)⟩
    · rw [c2, Bool.true_or] at q; exact q
    · rw [Bool.eq_false_iff.mpr c2, Bool.false_or] at q
      exact ⟨_, rfl, rfl, q⟩
def namc (c : Nat) : Bool := letc c || isDig c
def twl (f : Nat → Bool) (l : List Nat) (i : Nat) : Nat := i + ((l.drop i).takeWhile f).length
theorem twl_step {f : Nat → Bool} {l : List Nat} {k c : Nat} (h : l[k]? = some c) (d : f c = true) : twl f l k = twl f l (k + 1) := by
  obtain ⟨hk, e⟩ := List.getElem?_eq_some_iff.mp h
  unfold twl
  rw [List.drop_eq_getElem_cons hk, e, List.takeWhile_cons, if_pos d, List.length_cons]
  omega
theorem twl_stop {f : Nat → Bool} {l : List Nat} {k c : Nat} (h : l[k]? = some c) (d : f c = false) : twl f l k = k := by
  obtain ⟨hk, e⟩ := List.getElem?_eq_some_iff.mp h
  unfold twl
  rw [List.drop_eq_getElem_cons hk, e, List.takeWhile_cons, if_neg (by rw [d]; exact Bool.false_ne_true)]
  rfl
theorem twl_end {f : Nat → Bool} {l : List Nat} : twl f l l.length = l.length := by unfold twl; rw [List.drop_length]; rfl
theorem twl_le {f : Nat → Bool} {l : List Nat} {i : Nat} (h : i ≤ l.length) : twl f l i ≤ l.length := by
  unfold twl
  have := (List.takeWhile_prefix (p := f) (l := l.drop i)).length_le
  rw [List.length_drop] at this; omega
def spEnd (f : Nat → Bool) : Sp := fun vs H Q _ => ∃ (l : List Nat) (i : Nat), vs = [.str (S l), .int i] ∧ l.length ≤ big ∧ i ≤ l.length ∧ Q (.int ((twl f l i : Nat) : Int)) H
theorem ok_name_end (G : Gv K mg "name_end" s_name_end p_name_end) (O1 : OkD P w K mg base CX0 1 "is_digit" p_is_digit spIsDigit) (O2 : OkD P w K mg base CX0 1 "is_letter" p_is_letter spIsLetter) (zlen : mg "len" = none) : OkD P w K mg base CX0 2 "name_end" p_name_end (spEnd namc) := by
  refine G.ok sc_name_end (fun vs H Q E h => ?_) (fun f cdv A outer s H vs Q E hr h => ?_)
  · obtain ⟨l, i, rfl, _⟩ := h; rfl
  obtain ⟨l, i, rfl, hl, hi, q⟩ := h
  refine ⟨_, pss_cons (ps_set (i := 2) sc_name_end.nd rfl (.inl rfl) (pv 1))
    (pss_cons (ps_while PassesOwn.never (PW.pt (pw_and (pt_cmpR op_lt (pv 2) (pe_callB call_len_str (by rfl) zlen PySem.boot_len (pa_cons (pv 0) pa_nil)) (nomark _)) (pw_and1 (PW.pt (pw_or (pt_val (pcall O2 hr (pa_cons (pe_ix ix_str (pv 0) (pv 2) (fun _ _ => rfl)) pa_nil))) (pw_or1 (pt_val (pcall O1 hr (pa_cons (pe_ix ix_str (pv 0) (pv 2) (fun _ _ => rfl)) pa_nil)))))))))
      (pss_one (ps_aug (i := 2) sc_name_end.nd rfl (.inl rfl) pe_int ip_add)))
    (pss_one (ps_ret (pv 2)))), ?_⟩
  refine ⟨_, rfl, fun m σ H' => ∃ k : Nat, σ = [some (.str (S l)), some (.int i), some (.int k)] ∧ H' = H ∧ m = l.length - k ∧ k ≤ l.length ∧ twl namc l i = twl namc l k,
    ⟨_, i, rfl, rfl, rfl, hi, rfl⟩, ?_⟩
  rintro m σ H' ⟨k, rfl, rfl, rfl, hk, e⟩
  refine ⟨_, rfl, _, rfl, _, rfl, S_line hl, _, _, rfl, rfl, _, rfl, ite2 (fun c => ?_) (fun c => ?_)⟩
  · have c' : (k : Int) < ((S l).length : Int) := of_decide_eq_true c
    rw [S_len] at c'
    have hk' : k < l.length := by omega
    have g : l[k]? = some l[k] := List.getElem?_eq_getElem hk'
    have stop : namc l[k] = false → Q (.int ((k : Nat) : Int)) H' := fun d => by rw [e, twl_stop g d] at q; exact q
    have go : namc l[k] = true → twl namc l i = twl namc l (k + 1) := fun d => by rw [e]; exact twl_step g d
    refine ⟨_, rfl, _, rfl, S l, k, _, rfl, rfl, S_line hl, at_S g, [l[k]], rfl, Nat.le_refl 1, _, rfl, ite2 (fun d => ?_) (fun d => ?_)⟩
    · have d' : letc l[k] = true := by simpa using d
      refine ⟨_, fun _ _ h => h, ?_⟩
      exact ⟨_, rfl, _, _, rfl, rfl, _, by omega, k + 1, rfl, rfl, rfl, by omega, go (by unfold namc; rw [d']; rfl)⟩
    · have d' : letc l[k] = false := by simpa using d
      refine ⟨_, rfl, _, rfl, S l, k, _, rfl, rfl, S_line hl, at_S g, [l[k]], rfl, Nat.le_refl 1, _, rfl, ite2 (fun d2 => ?_) (fun d2 => ?_)⟩
      · have d2' : isDig l[k] = true := by simpa using d2
        refine ⟨_, fun _ _ h => h, ?_⟩
        exact ⟨_, rfl, _, _, rfl, rfl, _, by omega, k + 1, rfl, rfl, rfl, by omega, go (by unfold namc; rw [d', d2']; rfl)⟩
      · have d2' : isDig l[k] = false := by simpa using d2
        exact ⟨_, rfl, stop (by unfold namc; rw [d', d2']; rfl)⟩
  · have c' : ¬ (k : Int) < ((S l).length : Int) := of_decide_eq_false (Bool.eq_false_iff.mpr c)
    rw [S_len] at c'
    have hk' : k = l.length := by omega
    refine ⟨_, rfl, ?_⟩
    rw [e, hk', twl_end] at q
    rw [hk']
    exact q
def spc (c : Nat) : Bool := c == 32
theorem ok_spaces_end (G : Gv K mg "spaces_end" s_spaces_end p_spaces_end) (zlen : mg "len" = none) : OkD P w K mg base CX0 1 "spaces_end" p_spaces_end (spEnd spc) := by
  refine G.ok sc_spaces_end (fun vs H Q E h => ?_) (fun f cdv A outer s H vs Q E hr h => ?_)
  · obtain ⟨l, i, rfl, _⟩ := h; rfl
  obtain ⟨l, i, rfl, hl, hi, q⟩ := h
  refine ⟨_, pss_cons (ps_set (i := 2) sc_spaces_end.nd rfl (.inl rfl) (pv 1))
    (pss_cons (ps_while PassesOwn.never (PW.pt (pw_and (pt_cmpR op_lt (pv 2) (pe_callB call_len_str (by rfl) zlen PySem.boot_len (pa_cons (pv 0) pa_nil)) (nomark _)) (pw_and1 (pt_cmpR op_eq (pe_ix ix_str (pv 0) (pv 2) (fun _ _ => rfl)) pe_str (nomark _)))))
      (pss_one (ps_aug (i := 2) sc_spaces_end.nd rfl (.inl rfl) pe_int ip_add)))
    (pss_one (ps_ret (pv 2)))), ?_⟩
  refine ⟨_, rfl, fun m σ H' => ∃ k : Nat, σ = [some (.str (S l)), some (.int i), some (.int k)] ∧ H' = H ∧ m = l.length - k ∧ k ≤ l.length ∧ twl spc l i = twl spc l k,
    ⟨_, i, rfl, rfl, rfl, hi, rfl⟩, ?_⟩
  rintro m σ H' ⟨k, rfl, rfl, rfl, hk, e⟩
  refine ⟨_, rfl, _, rfl, _, rfl, S_line hl, _, _, rfl, rfl, _, rfl, ite2 (fun c => ?_) (fun c => ?_)⟩
  · have c' : (k : Int) < ((S l).length : Int) := of_decide_eq_true c
    rw [S_len] at c'
    have hk' : k < l.length := by omega
    have g : l[k]? = some l[k] := List.getElem?_eq_getElem hk'
    have e1 : decide (V.str ⟨#[l[k]]⟩ = V.str (Str.ofString " ")) = spc l[k] := by
      have z : Str.ofString " " = S [32] := by decide +kernel
      rw [z]
      unfold spc
      by_cases h : l[k] = 32
      · rw [h]; exact decide_eq_true rfl
      · rw [decide_eq_false (fun z => h (by have := S_inj (a := [l[k]]) (b := [32]) (V.str.inj z); simpa using this))]; exact (beq_eq_false_iff_ne.mpr h).symm
    refine ⟨_, rfl, _, rfl, S l, k, _, rfl, rfl, S_line hl, at_S g, rfl, _, rfl, ite2 (fun d => ?_) (fun d => ?_)⟩
    · rw [e1] at d
      refine ⟨_, fun _ _ h => h, ?_⟩
      exact ⟨_, rfl, _, _, rfl, rfl, _, by omega, k + 1, rfl, rfl, rfl, by omega, by rw [e]; exact twl_step g d⟩
    · rw [e1] at d
      refine ⟨_, rfl, ?_⟩
      rw [e, twl_stop g (Bool.eq_false_iff.mpr d)] at q
      exact q
  · have c' : ¬ (k : Int) < ((S l).length : Int) := of_decide_eq_false (Bool.eq_false_iff.mpr c)
    rw [S_len] at c'
    have hk' : k = l.length := by omega
    refine ⟨_, rfl, ?_⟩
    rw [e, hk', twl_end] at q
    rw [hk']
    exact q
end
end D0
namespace D0
open PySem PySem.Spec PyProof.Rows L2 SX NumText
theorem str_dec (a b : List Nat) : decide (V.str (S a) = V.str (S b)) = decide (a = b) := by
  by_cases h : a = b
  · subst h; rw [decide_eq_true rfl, decide_eq_true rfl]
  · rw [decide_eq_false h, decide_eq_false]
    intro z; exact h (S_inj (V.str.inj z))
theorem one_dec (a b : Nat) : decide (V.str (S [a]) = V.str (S [b])) = decide (a = b) := by
  rw [str_dec]
  by_cases h : a = b
  · subst h; rw [decide_eq_true rfl, decide_eq_true rfl]
  · rw [decide_eq_false h, decide_eq_false]; intro z; exact h (List.cons.inj z).1
theorem drop_min {α : Type} (l : List α) (a : Nat) : l.drop (min a l.length) = l.drop a := by
  by_cases h : a ≤ l.length
  · rw [Nat.min_eq_left h]
  · rw [Nat.min_eq_right (by omega), List.drop_length, List.drop_eq_nil_of_le (by omega)]
theorem cut_nn (l : List Nat) (a b : Nat) (h : a ≤ b) : cutS (S l) (some (a : Int)) (some (b : Int)) = S ((l.drop a).take (b - a)) := by
  unfold cutS
  rw [HT.sIx_nat, HT.sIx_nat, S_len]
  show S _ = S _
  congr 1
  show (l.drop (min a l.length)).take (min b l.length - min a l.length) = _
  rw [drop_min]
  by_cases hb : b ≤ l.length
  · rw [Nat.min_eq_left hb, Nat.min_eq_left (by omega)]
  · rw [List.take_of_length_le (by rw [List.length_drop]; omega), List.take_of_length_le (by rw [List.length_drop]; omega)]
theorem cut_n (l : List Nat) (a : Nat) : cutS (S l) (some (a : Int)) none = S (l.drop a) := by
  unfold cutS
  rw [HT.sIx_nat, HT.sIx_none, S_len]
  show S _ = S _
  congr 1
  show (l.drop (min a l.length)).take (l.length - min a l.length) = _
  rw [drop_min, List.take_of_length_le (by rw [List.length_drop]; omega)]
theorem cut_0 (l : List Nat) (b : Nat) : cutS (S l) none (some (b : Int)) = S (l.take b) := by
  unfold cutS
  rw [HT.sIx_nat, HT.sIx_none, S_len]
  show S _ = S _
  congr 1
  show (l.drop 0).take (min b l.length - 0) = _
  rw [List.drop_zero, Nat.sub_zero]
  by_cases hb : b ≤ l.length
  · rw [Nat.min_eq_left hb]
  · rw [List.take_of_length_le (by omega), List.take_of_length_le (by omega)]
/-- the sign at i, or nothing -/
def at1 (l : List Nat) (i : Nat) : List Nat := (l.drop i).take 1
theorem at1_cut (l : List Nat) (i : Nat) : cutS (S l) (some (i : Int)) (some ((i : Int) + 1)) = S (at1 l i) := by
  have := cut_nn l i (i + 1) (by omega)
  rw [Nat.add_sub_cancel_left] at this
  exact this
theorem at1_eq (l : List Nat) (i c : Nat) : decide (V.str (S (at1 l i)) = V.str (S [c])) = decide ((l.drop i).head? = some c) := by
  rw [str_dec]
  unfold at1
  cases h : l.drop i with
  | nil => rfl
  | cons a t =>
    show decide ([a] = [c]) = decide (some a = some c)
    by_cases e : a = c
    · subst e; rw [decide_eq_true rfl, decide_eq_true rfl]
    · rw [decide_eq_false (fun z => e (List.cons.inj z).1), decide_eq_false (fun z => e (Option.some.inj z))]
theorem split_at {X : Cx} {body : List Stmt} (n : Nat) {F : TS → Prop} (G : TS → Prop) (h1 : ∃ t, PSs X (body.drop n) t ∧ G t) (h2 : ∀ t, PSs X (body.drop n) t → G t → ∃ u, PSs X body u ∧ F u) : ∃ u, PSs X body u ∧ F u := by
  obtain ⟨t, a, b⟩ := h1
  exact h2 t a b
theorem int_dec {a b : Nat} : decide (V.int (a : Int) = V.int (b : Int)) = decide (a = b) := by
  by_cases h : a = b
  · subst h; rw [decide_eq_true rfl, decide_eq_true rfl]
  · rw [decide_eq_false h, decide_eq_false (fun z => h (by have := V.int.inj z; omega))]
theorem lt_dec {a b : Nat} : decide ((a : Int) < (b : Int)) = decide (a < b) := by
  by_cases h : a < b
  · rw [decide_eq_true h, decide_eq_true (by omega)]
  · rw [decide_eq_false h, decide_eq_false (by omega)]
theorem at1_nil {l : List Nat} {i : Nat} (h : l.drop i = []) : at1 l i = [] := by unfold at1; rw [h]; rfl
theorem at1_cons {l : List Nat} {i c : Nat} {t : List Nat} (h : l.drop i = c :: t) : at1 l i = [c] := by unfold at1; rw [h]; rfl
theorem drop_next {l : List Nat} {i c : Nat} {t : List Nat} (h : l.drop i = c :: t) : l.drop (i + 1) = t ∧ i < l.length := by
  have h1 : l.drop (i + 1) = (l.drop i).tail := by rw [List.tail_drop]
  refine ⟨by rw [h1, h]; rfl, ?_⟩
  have := congrArg List.length h
  rw [List.length_drop] at this
  simp at this; omega
theorem join_one (l : List Nat) : Txt.join (S []) (l.map fun c => S [c]) = S l := by
  have e : (l.map fun c => S [c]) = (l.map fun c => [c]).map S := by rw [List.map_map]; rfl
  rw [e, join_S]
  congr 1
  induction l with
  | nil => rfl
  | cons a t ih =>
    cases t with
    | nil => rfl
    | cons b r =>
      have ih := ih (by rw [List.map_map]; rfl)
      show [a] ++ ([] ++ TL.joinL [] ([b] :: r.map fun c => [c])) = a :: b :: r
      show a :: (TL.joinL [] ([b] :: r.map fun c => [c])) = a :: b :: r
      have ih' : TL.joinL [] ([b] :: r.map fun c => [c]) = b :: r := ih
      rw [ih']
end D0
namespace D0
open PySem PySem.Spec PyProof.Rows L2 SX NumText
theorem flat_strs : ∀ ls : List (List Nat), (ls.map fun l => V.str (S l)).all flatV = true
  | [] => rfl
  | a :: r => by rw [List.map_cons, List.all_cons, flat_strs r]; rfl
theorem in_strs (l : List Nat) : ∀ ls : List (List Nat), inV (.str (S l)) (ls.map fun l => V.str (S l)) = decide (l ∈ ls)
  | [] => rfl
  | a :: r => by
    have ih := in_strs l r
    unfold inV at ih ⊢
    rw [List.map_cons, List.any_cons, ih]
    have e : eqV (.str (S a)) (.str (S l)) = decide (l = a) := by
      show (S a == S l) = _
      rw [S_beq_eq]
      by_cases h : l = a
      · subst h; rfl
      · rw [decide_eq_false h, decide_eq_false (fun z => h z.symm)]
    rw [e]
    by_cases h : l = a <;> by_cases h2 : l ∈ r <;> simp [h, h2]
inductive Kd | name | keyword | number | text | sign | newline | indent | dedent | fin
def Kd.cp : Kd → List Nat
  | .name => [110, 97, 109, 101] | .keyword => [107, 101, 121, 119, 111, 114, 100] | .number => [110, 117, 109, 98, 101, 114] | .text => [116, 101, 120, 116] | .sign => [115, 105, 103, 110]
  | .newline => [110, 101, 119, 108, 105, 110, 101] | .indent => [105, 110, 100, 101, 110, 116] | .dedent => [100, 101, 100, 101, 110, 116] | .fin => [101, 110, 100]
inductive Wd | s (l : List Nat) | n (k : Nat)
def Wd.v : Wd → V
  | .s l => .str (S l)
  | .n k => .int (k : Nat)
abbrev Tr := Kd × Wd × Nat
def Tr.v (t : Tr) : List V := [.str (S t.1.cp), t.2.1.v, .int (t.2.2 : Nat)]
/-- what a scanner leaves: a new tuple, or the error BadToken at (ln, c) -/
def Outs (ec : Er → Addr) (ln : Int) (H : Hp) (Q : VK) (E : XK) : Except Nat Tr → Prop
  | .ok t => ∀ H' p, Same H H' → H' p = some (.tup (Tr.v t)) → Q (.ref p) H'
  | .error c => Rz ec .token ln (c : Nat) H E
def spScan (ec : Er → Addr) (f : List Nat → Nat → Except Nat Tr) (pre : List Nat → Nat → Prop) : Sp := fun vs H Q E => ∃ (l : List Nat) (i : Nat) (ln : Int), vs = [.str (S l), .int i, .int ln] ∧ l.length ≤ big ∧ i < l.length ∧ pre l i ∧ Outs ec ln H Q E (f l i)
def word (l : List Nat) (i j : Nat) : List Nat := (l.drop i).take (j - i)
def scanName (l : List Nat) (i : Nat) : Except Nat Tr :=
  if 30 < (word l i (twl namc l i)).length then .error (i + 1) else .ok (if word l i (twl namc l i) ∈ KW then .keyword else .name, .s (word l i (twl namc l i)), twl namc l i)
def numBad (l : List Nat) (i : Nat) : Bool :=
  decide (40 < (word l i (twl isDig l i)).length) || (decide (1 < (word l i (twl isDig l i)).length) && decide ((word l i (twl isDig l i)).head? = some 48)) || (decide (twl isDig l i < l.length) && ((l.drop (twl isDig l i)).take 1).any letc)
def scanNumber (l : List Nat) (i : Nat) : Except Nat Tr :=
  if numBad l i = true then .error (i + 1) else .ok (.number, .n (digitsVal (word l i (twl isDig l i))), twl isDig l i)
theorem three : 3 ≤ sizeLine := by decide
theorem tw_digits (l : List Nat) : AllDigits (l.takeWhile isDig) := fun c hc => by
  have : ∀ l : List Nat, ∀ c ∈ l.takeWhile isDig, isDig c = true := by
    intro l
    induction l with
    | nil => intro c h; cases h
    | cons a t ih =>
      intro c h
      rw [List.takeWhile_cons] at h
      cases ha : isDig a with
      | true => rw [ha, if_pos rfl] at h; rcases List.mem_cons.mp h with rfl | h; exact ha; exact ih c h
      | false => rw [ha] at h; cases h
  have := this l c hc
  unfold isDig at this
  exact of_decide_eq_true this
theorem word_tw {f : Nat → Bool} (l : List Nat) (i : Nat) : word l i (twl f l i) = (l.drop i).takeWhile f := by
  unfold word twl
  rw [Nat.add_sub_cancel_left]
  have h := List.takeWhile_append_dropWhile (p := f) (l := l.drop i)
  generalize (l.drop i).takeWhile f = a at *
  rw [← h, List.take_left' rfl]
theorem twl_ge {f : Nat → Bool} (l : List Nat) (i : Nat) : i ≤ twl f l i := Nat.le_add_right _ _
theorem iteD {b : Bool} {A B : Prop} (h1 : b = true → A) (h2 : b = false → B) : if b = true then A else B := by
  cases b with
  | true => rw [if_pos rfl]; exact h1 rfl
  | false => rw [if_neg Bool.false_ne_true]; exact h2 rfl
theorem iteT' {b : Bool} {A B : Prop} (h : b = true) (a : A) : if b = true then A else B := by rw [if_pos h]; exact a
theorem iteF' {b : Bool} {A B : Prop} (h : b = false) (a : B) : if b = true then A else B := by rw [if_neg (by rw [h]; exact Bool.false_ne_true)]; exact a
section
variable {P : Program} {w : World} {K : PySem.W.Frag} {mg : Str → Option Value} {base : Heap} {ec : Er → Addr}
theorem ok_scan_name (T : Txt K w mg) (ER : ErrT P w K mg base ec) (On : OkD P w K mg base CX0 2 "name_end" p_name_end (spEnd namc)) :
    OkD P w K mg base (L2.CX P w) 3 "scan_name" p_scan_name (spScan ec scanName fun _ _ => True) := by
  obtain ⟨kA, kG, kT⟩ := T.c_KEYWORDS
  refine T.g_scan_name.okX sc_scan_name (fun vs H Q E h => ?_) (fun f cdv A outer s H vs Q E hr h => ?_)
  · obtain ⟨l, i, ln, rfl, _⟩ := h; rfl
  obtain ⟨l, i, ln, rfl, hl, hi, _, q⟩ := h
  refine ⟨_, (pss_cons (ps_set (i := 3) sc_scan_name.nd rfl (.inl rfl) (pcall On hr (pa_cons (pv 0) (pa_cons (pv 1) pa_nil))))
      (pss_cons (ps_set (i := 4) sc_scan_name.nd rfl (.inl rfl) (pe_slice sl_str (pv 0) (po_some (pv 1)) (po_some (pv 3))))
      (pss_cons (ps_if (pt_cmpR op_gt (pe_callB call_len_str (by rfl) T.z_len PySem.boot_len (pa_cons (pv 4) pa_nil)) (pe_gI T.c_NAME_LIMIT) (nomark _)) (pss_one (ps_raise rfl (takes_of rfl rfl rfl rfl) (pmk_err ER .token hr (pa_cons (pv 2) (pa_cons (pe_op op_add (pv 1) pe_int) pa_nil))))) pss_nil)
      (pss_cons (ps_if (pt_cmpR op_in_seq (pv 4) (pe_glob (v := .ref kA) rfl kG rfl) (by rfl)) (pss_one (ps_ret (pe_tup (pa_cons pe_str (pa_cons (pv 4) (pa_cons (pv 3) pa_nil)))))) pss_nil)
      (pss_one (ps_ret (pe_tup (pa_cons pe_str (pa_cons (pv 4) (pa_cons (pv 3) pa_nil)))))))))), ?_⟩
  have zk : Str.ofString "keyword" = S (Kd.cp .keyword) ∧ Str.ofString "name" = S (Kd.cp .name) := by decide +kernel
  have hw : (word l i (twl namc l i)).length ≤ l.length := by unfold word; rw [List.length_take, List.length_drop]; omega
  refine ⟨_, rfl, _, rfl, l, i, rfl, hl, Nat.le_of_lt hi, ?_⟩
  refine ⟨_, rfl, _, rfl, _, rfl, _, rfl, _, rfl, S l, rfl, S_line hl, ?_⟩
  rw [cut_nn l i _ (twl_ge l i)]
  have e1 : decide ((30 : Int) < ((S (word l i (twl namc l i))).length : Int)) = decide (30 < (word l i (twl namc l i)).length) := by rw [S_len]; exact lt_dec (a := 30)
  refine ⟨_, rfl, _, rfl, (by have := S_line (l := word l i (twl namc l i)) (by omega); exact this), _, _, rfl, rfl, _, rfl, ?_⟩
  unfold scanName at q
  by_cases c : 30 < (word l i (twl namc l i)).length
  · rw [if_pos c] at q
    refine iteT' (e1.trans (decide_eq_true c)) ?_
    refine ⟨_, rfl, _, rfl, _, _, rfl, rfl, rz_mk ER q⟩
  rw [if_neg c] at q
  refine iteF' (e1.trans (decide_eq_false c)) ?_
  refine ⟨_, rfl, kA, _, rfl, .inr (kT _), rfl, flat_strs KW, _, rfl, ?_⟩
  have e2 := in_strs (word l i (twl namc l i)) KW
  by_cases c2 : word l i (twl namc l i) ∈ KW
  · rw [if_pos c2] at q
    refine iteT' (e2.trans (decide_eq_true c2)) ?_
    refine ⟨_, rfl, _, rfl, three, fun p hp => q _ p (same_new hp _) ?_⟩
    rw [upd_same, zk.1]; rfl
  · rw [if_neg c2] at q
    refine iteF' (e2.trans (decide_eq_false c2)) ?_
    refine ⟨_, rfl, _, rfl, three, fun p hp => q _ p (same_new hp _) ?_⟩
    rw [upd_same, zk.2]; rfl
end
end D0
namespace D0
open PySem PySem.Spec PyProof.Rows L2 SX NumText
section
variable {P : Program} {w : World} {K : PySem.W.Frag} {mg : Str → Option Value} {base : Heap} {ec : Er → Addr}
theorem ok_scan_number (T : Txt K w mg) (ER : ErrT P w K mg base ec) (Od : OkD P w K mg base CX0 2 "digits_end" p_digits_end spDigitsEnd) (Ol : OkD P w K mg base CX0 1 "is_letter" p_is_letter spIsLetter) :
    OkD P w K mg base (L2.CX P w) 3 "scan_number" p_scan_number (spScan ec scanNumber fun l i => ∃ c, l[i]? = some c ∧ isDig c = true) := by
  refine T.g_scan_number.okX sc_scan_number (fun vs H Q E h => ?_) (fun f cdv A outer s H vs Q E hr h => ?_)
  · obtain ⟨l, i, ln, rfl, _⟩ := h; rfl
  obtain ⟨l, i, ln, rfl, hl, hi, ⟨c0, hc0, hd0⟩, q⟩ := h
  have zk : Str.ofString "number" = S (Kd.cp .number) ∧ Str.ofString "0" = S [48] := by decide +kernel
  have hw : (word l i (twl isDig l i)).length ≤ l.length := by unfold word; rw [List.length_take, List.length_drop]; omega
  have hne : word l i (twl isDig l i) ≠ [] := by
    rw [word_tw]
    obtain ⟨hk, e⟩ := List.getElem?_eq_some_iff.mp hc0
    rw [List.drop_eq_getElem_cons hk, e, List.takeWhile_cons, if_pos hd0]
    exact fun z => by cases z
  have hdg : AllDigits (word l i (twl isDig l i)) := by rw [word_tw]; exact tw_digits _
  have hge := twl_ge (f := isDig) l i
  have hle := twl_le (f := isDig) (Nat.le_of_lt hi)
  unfold scanNumber at q
  generalize hW : word l i (twl isDig l i) = W at *
  generalize hJ : twl isDig l i = J at *
  have nb : numBad l i = (decide (40 < W.length) || (decide (1 < W.length) && decide (W.head? = some 48)) || (decide (J < l.length) && ((l.drop J).take 1).any letc)) := by unfold numBad; rw [hJ, hW]
  have e1 : decide ((1 : Int) < ((S W).length : Int)) = decide (1 < W.length) := by rw [S_len]; exact lt_dec (a := 1)
  have e2 : decide ((J : Int) < ((S l).length : Int)) = decide (J < l.length) := by rw [S_len]; exact lt_dec
  have e3 : decide ((40 : Int) < ((S W).length : Int)) = decide (40 < W.length) := by rw [S_len]; exact lt_dec (a := 40)
  refine split_at 4 (fun t => ∀ p g : Bool, p = (decide (1 < W.length) && decide (W.head? = some 48)) → g = (decide (J < l.length) && ((l.drop J).take 1).any letc) →
    t { nx := fun _ H' => Q .non H', rt := Q } [some (.str (S l)), some (.int i), some (.int ln), some (.int J), some (.str (S W)), some (.bl p), some (.bl g)] H) ?_ (fun t ht hg => ?_)
  · refine ⟨_, (pss_cons (ps_if (PW.pt (pw_or (pt_cmpR op_gt (pe_callB call_len_str (by rfl) T.z_len PySem.boot_len (pa_cons (pv 4) pa_nil)) (pe_gI T.c_NUMBER_LIMIT) (nomark _)) (pw_or (pt_val (pv 5)) (pw_or1 (pt_val (pv 6)))))) (pss_one (ps_raise rfl (takes_of rfl rfl rfl rfl) (pmk_err ER .token hr (pa_cons (pv 2) (pa_cons (pe_op op_add (pv 1) pe_int) pa_nil))))) pss_nil)
      (pss_one (ps_ret (pe_tup (pa_cons pe_str (pa_cons (pe_callTy call_int_str (by rfl) T.z_int PyProof.Rows.boot_int (pa_cons (pv 4) pa_nil)) (pa_cons (pv 3) pa_nil))))))), ?_⟩
    intro p g hp hg
    rw [nb, ← hp, ← hg] at q
    have bad : (if true = true then Except.error (i + 1) else Except.ok (Kd.number, Wd.n (digitsVal W), J) : Except Nat Tr) = .error (i + 1) := rfl
    refine ⟨_, rfl, _, rfl, (by have := S_line (l := W) (by omega); exact this), _, _, rfl, rfl, _, rfl, ?_⟩
    by_cases c1 : 40 < W.length
    · refine iteT' (e3.trans (decide_eq_true c1)) ?_
      rw [decide_eq_true c1, Bool.true_or, Bool.true_or] at q
      exact ⟨_, rfl, _, rfl, _, _, rfl, rfl, rz_mk ER q⟩
    refine iteF' (e3.trans (decide_eq_false c1)) ?_
    rw [decide_eq_false c1, Bool.false_or] at q
    refine ⟨_, rfl, _, rfl, ?_⟩
    cases p with
    | true =>
      refine iteT ?_
      exact ⟨_, rfl, _, rfl, _, _, rfl, rfl, rz_mk ER q⟩
    | false =>
      refine iteF ⟨_, rfl, _, rfl, ?_⟩
      cases g with
      | true => exact ⟨_, rfl, _, rfl, _, _, rfl, rfl, rz_mk ER q⟩
      | false =>
        refine ⟨_, rfl, S W, _, rfl, intText_digits (x := S W) hdg hne (by rw [S_len]; omega), by rw [S_len]; omega, _, rfl, three, fun p hp => q _ p (same_new hp _) ?_⟩
        rw [upd_same, zk.1]; rfl
  · refine split_at 3 (fun t => ∀ p : Bool, p = (decide (1 < W.length) && decide (W.head? = some 48)) →
      t { nx := fun _ H' => Q .non H', rt := Q } [some (.str (S l)), some (.int i), some (.int ln), some (.int J), some (.str (S W)), some (.bl p), none] H)
      ⟨_, pss_cons (ps_set (i := 6) sc_scan_number.nd rfl (.inl rfl) (pe_and (pe_cmpR op_lt (pv 3) (pe_callB call_len_str (by rfl) T.z_len PySem.boot_len (pa_cons (pv 0) pa_nil)) (nomark _)) (pe_one (pcall Ol hr (pa_cons (pe_ix ix_str (pv 0) (pv 3) (fun _ _ => rfl)) pa_nil))))) ht, fun p hp => ?_⟩ (fun t ht hg3 => ?_)
    · refine ⟨_, rfl, _, rfl, _, rfl, S_line hl, _, _, rfl, rfl, _, rfl, iteD (b := decide ((J : Int) < ((S l).length : Int))) (fun c => ?_) (fun c => ?_)⟩
      · rw [e2] at c
        have hJl : J < l.length := of_decide_eq_true c
        have gJ : l[J]? = some l[J] := List.getElem?_eq_getElem hJl
        have eJ : (l.drop J).take 1 = [l[J]] := by rw [List.drop_eq_getElem_cons hJl]; rfl
        exact ⟨_, rfl, _, rfl, S l, J, _, rfl, rfl, S_line hl, at_S gJ, [l[J]], rfl, Nat.le_refl 1, hg p _ hp (by rw [c, eJ]; rfl)⟩
      · rw [e2] at c
        exact hg p false hp (by rw [c]; rfl)
    refine ⟨_, pss_cons (ps_set (i := 3) sc_scan_number.nd rfl (.inl rfl) (pcall Od hr (pa_cons (pv 0) (pa_cons (pv 1) pa_nil)))) (pss_cons (ps_set (i := 4) sc_scan_number.nd rfl (.inl rfl) (pe_slice sl_str (pv 0) (po_some (pv 1)) (po_some (pv 3)))) (pss_cons (ps_set (i := 5) sc_scan_number.nd rfl (.inl rfl) (pe_and (pe_cmpR op_gt (pe_callB call_len_str (by rfl) T.z_len PySem.boot_len (pa_cons (pv 4) pa_nil)) pe_int (nomark _)) (pe_one (pe_cmpR op_eq (pe_ix ix_str (pv 4) pe_int (fun _ _ => rfl)) pe_str (nomark _))))) ht)), ?_⟩
    refine ⟨_, rfl, _, rfl, l, i, rfl, hl, Nat.le_of_lt hi, ?_⟩
    show ∃ x, _
    have hJ' : i + (List.takeWhile isDig (List.drop i l)).length = J := hJ
    rw [hJ']
    refine ⟨_, rfl, _, rfl, _, rfl, _, rfl, _, rfl, S l, rfl, S_line hl, ?_⟩
    rw [cut_nn l i _ hge, show (l.drop i).take (J - i) = W from hW]
    refine ⟨_, rfl, _, rfl, (by have := S_line (l := W) (by omega); exact this), _, _, rfl, rfl, _, rfl, ?_⟩
    refine iteD (b := decide ((1 : Int) < ((S W).length : Int))) (fun c => ?_) (fun c => ?_)
    · obtain ⟨w0, t, rfl⟩ : ∃ w0 t, W = w0 :: t := by
        cases W with
        | nil => exact absurd rfl hne
        | cons a t => exact ⟨a, t, rfl⟩
      refine ⟨_, rfl, S (w0 :: t), 0, w0, rfl, rfl, (by have := S_line (l := w0 :: t) (by omega); exact this), at_S (l := w0 :: t) (i := 0) rfl, rfl, ?_⟩
      refine hg3 (decide (V.str (S [w0]) = V.str (Str.ofString "0"))) ?_
      rw [← e1, c, zk.2, one_dec, Bool.true_and]
      show _ = decide (some w0 = some 48)
      by_cases h : w0 = 48
      · subst h; rfl
      · rw [decide_eq_false h, decide_eq_false (fun z => h (Option.some.inj z))]
    · exact hg3 false (by rw [← e1, c]; rfl)
end
end D0
namespace D0
open PySem PySem.Spec PyProof.Rows L2 SX NumText
/-- behind an opening quote q at st; esc: a \ stands before -/
def scanT (q st : Nat) : Bool → List Nat → Nat → List Nat → Except Nat Tr
  | _, [], _, _ => .error (st + 1)
  | true, c :: r, at_, acc => match escV [c] with
    | none => .error at_
    | some m => scanT q st false r (at_ + 1) (acc ++ m)
  | false, c :: r, at_, acc =>
    if c = q then .ok (.text, .s acc, at_ + 1) else if c = 92 then scanT q st true r (at_ + 1) acc else scanT q st false r (at_ + 1) (acc ++ [c])
def scanText (l : List Nat) (i : Nat) : Except Nat Tr := scanT ((l.drop i).headD 0) i false (l.drop (i + 1)) (i + 1) []
theorem escV_one {c : Nat} {m : List Nat} (h : escV [c] = some m) : ∃ d, m = [d] := by
  unfold escV at h
  split at h <;> first | exact ⟨_, (Option.some.inj h).symm⟩ | cases h
theorem same_upd {H H' : Hp} {D : Addr} {o : HO} (s : Same H H') (h : H D = none) : Same H (upd H' D o) := fun b u e => by rw [upd_ne (ne_of_none e h)]; exact s b u e
section
variable {P : Program} {w : World} {K : PySem.W.Frag} {mg : Str → Option Value} {base : Heap} {ec : Er → Addr}
theorem ok_scan_text (T : Txt K w mg) (ER : ErrT P w K mg base ec) :
    OkD P w K mg base (L2.CX P w) 3 "scan_text" p_scan_text (spScan ec scanText fun _ _ => True) := by
  obtain ⟨dE, es, en, gE, KE, hE⟩ := T.c_ESCAPES
  refine T.g_scan_text.okX sc_scan_text (fun vs H Q E h => ?_) (fun f cdv A outer s H vs Q E hr h => ?_)
  · obtain ⟨l, i, ln, rfl, _⟩ := h; rfl
  obtain ⟨l, i, ln, rfl, hl, hi, _, q⟩ := h
  have hl' : l.length ≤ 1000000 := hl
  have lim : (1000000 : Nat) < sizeLine := by decide
  have zk : Str.ofString "text" = S (Kd.cp .text) ∧ Str.ofString "\\" = S [92] ∧ Str.ofString "" = S [] := by decide +kernel
  have gi : l[i]? = some l[i] := List.getElem?_eq_getElem hi
  have eR : scanText l i = scanT l[i] i false (l.drop (i + 1)) (i + 1) [] := by unfold scanText; rw [List.drop_eq_getElem_cons hi]; rfl
  generalize scanText l i = R at q eR
  generalize hqc : l[i] = qc at *
  have eL : ∀ k : Nat, decide (V.int (k : Int) = V.int ((S l).length : Int)) = decide (k = l.length) := fun k => by rw [S_len]; exact int_dec
  refine split_at 3 (fun t => ∀ (D : Addr) (k : Nat) (acc : List Nat) (H' : Hp), k ≤ l.length → acc.length ≤ k → Same H H' → H' D = some (.lst (acc.map fun c => V.str (S [c]))) →
    (k = l.length → R = .error (i + 1)) → (k < l.length → R = .ok (.text, .s acc, k + 1)) →
    t { nx := fun _ H' => Q .non H', rt := Q } [some (.str (S l)), some (.int i), some (.int ln), some (.ref D), some (.int k)] H') ?_ (fun t ht hg => ?_)
  · refine ⟨_, (pss_cons (ps_if (pt_cmpR op_eq (pv 4) (pe_callB call_len_str (by rfl) T.z_len PySem.boot_len (pa_cons (pv 0) pa_nil)) (nomark _)) (pss_one (ps_raise rfl (takes_of rfl rfl rfl rfl) (pmk_err ER .token hr (pa_cons (pv 2) (pa_cons (pe_op op_add (pv 1) pe_int) pa_nil))))) pss_nil)
      (pss_one (ps_ret (pe_tup (pa_cons pe_str (pa_cons (pe_join pe_str (pv 3)) (pa_cons (pe_op op_add (pv 4) pe_int) pa_nil))))))), ?_⟩
    intro D k acc H' hk ha sm hD h1 h2
    refine ⟨_, rfl, _, rfl, _, rfl, S_line hl, rfl, _, rfl, ?_⟩
    by_cases c : k = l.length
    · refine iteT' ((eL k).trans (decide_eq_true c)) ?_
      have e := h1 c
      rw [e] at q
      exact ⟨_, rfl, _, rfl, _, _, rfl, rfl, rz_mk ER fun d H2 s2 n2 => q d H2 (sm.trans s2) (sm.free n2)⟩
    · refine iteF' ((eL k).trans (decide_eq_false c)) ?_
      rw [h2 (by omega)] at q
      refine ⟨⟨S [], by rw [← zk.2.2]⟩, _, rfl, S [], D, acc.map fun c => S [c], by rw [← zk.2.2], rfl, .inl (SqL.of (by rw [hD, List.map_map]; rfl)), ?_, _, rfl, _, _, rfl, rfl, three, fun p hp => ?_⟩
      · have e : ((acc.map fun c => S [c]).map (·.length)).sum = acc.length := by
          clear hD h2 q h1 ha
          induction acc with
          | nil => rfl
          | cons a t ih => rw [List.map_cons, List.map_cons, List.sum_cons, ih, List.length_cons]; show 1 + _ = _; omega
        rw [e]
        show _ + _ * 0 ≤ _
        omega
      · refine q _ p (sm.trans (same_new hp _)) ?_
        rw [upd_same, join_one, zk.1]
        rfl
  refine ⟨_, pss_cons (ps_set (i := 3) sc_scan_text.nd rfl (.inl rfl) (pe_lst pa_nil)) (pss_cons (ps_set (i := 4) sc_scan_text.nd rfl (.inl rfl) (pe_op op_add (pv 1) pe_int)) (pss_cons
    (ps_while (passes_of rfl) (PW.pt (pw_and (pt_cmpR op_lt (pv 4) (pe_callB call_len_str (by rfl) T.z_len PySem.boot_len (pa_cons (pv 0) pa_nil)) (nomark _)) (pw_and1 (pt_cmpR op_ne (pe_ix ix_str (pv 0) (pv 4) (fun _ _ => rfl)) (pe_ix ix_str (pv 0) (pv 1) (fun _ _ => rfl)) (nomark _)))))
      (pss_cons (ps_if (pt_cmpR op_eq (pe_ix ix_str (pv 0) (pv 4) (fun _ _ => rfl)) pe_str (nomark _)) (pss_cons (ps_aug (i := 4) sc_scan_text.nd rfl (.inl rfl) pe_int ip_add)
      (pss_cons (ps_if (pt_cmpR op_eq (pv 4) (pe_callB call_len_str (by rfl) T.z_len PySem.boot_len (pa_cons (pv 0) pa_nil)) (nomark _)) (pss_one ps_break) pss_nil)
      (pss_cons (ps_if (pt_cmpR (op_notIn_kd KE) (pe_ix ix_str (pv 0) (pv 4) (fun _ _ => rfl)) (pe_glob (v := .ref dE) rfl gE rfl) (by rfl)) (pss_one (ps_raise rfl (takes_of rfl rfl rfl rfl) (pmk_err ER .token hr (pa_cons (pv 2) (pa_cons (pv 4) pa_nil))))) pss_nil)
      (pss_one (ps_expr (pe_bm PySem.F.plainAttrs_list PySem.F.slot_list_append PySem.F.type_list_append mt_append (pv 3) (pa_cons (pe_ix ix_kdict (pe_glob (v := .ref dE) rfl gE rfl) (pe_ix ix_str (pv 0) (pv 4) (fun _ _ => rfl)) (fun _ _ => rfl)) pa_nil))))))) (pss_one (ps_expr (pe_bm PySem.F.plainAttrs_list PySem.F.slot_list_append PySem.F.type_list_append mt_append (pv 3) (pa_cons (pe_ix ix_str (pv 0) (pv 4) (fun _ _ => rfl)) pa_nil)))))
      (pss_one (ps_aug (i := 4) sc_scan_text.nd rfl (.inl rfl) pe_int ip_add)))) ht)), ?_⟩
  refine ⟨Nat.zero_le _, fun D hD => ?_⟩
  refine ⟨_, rfl, _, _, rfl, rfl, ?_⟩
  refine ⟨fun m σ H' => ∃ (k : Nat) (acc : List Nat), σ = [some (.str (S l)), some (.int i), some (.int ln), some (.ref D), some (.int k)] ∧ m = l.length + 1 - k ∧ k ≤ l.length ∧ acc.length + (i + 1) ≤ k ∧ Same H H' ∧
      H' D = some (.lst (acc.map fun c => V.str (S [c]))) ∧ R = scanT qc i false (l.drop k) k acc,
    ⟨_, i + 1, [], rfl, rfl, by omega, by simp, same_new hD _, upd_same, eR⟩, ?_⟩
  rintro m σ H' ⟨k, acc, rfl, rfl, hk, hacc, sm, hD', he⟩
  have e2 : decide ((k : Int) < ((S l).length : Int)) = decide (k < l.length) := by rw [S_len]; exact lt_dec
  refine ⟨_, rfl, _, rfl, _, rfl, S_line hl, _, _, rfl, rfl, _, rfl, iteD (b := decide ((k : Int) < ((S l).length : Int))) (fun c => ?_) (fun c => ?_)⟩
  · rw [e2] at c
    have hkl : k < l.length := of_decide_eq_true c
    have gk : l[k]? = some l[k] := List.getElem?_eq_getElem hkl
    have hdr : l.drop k = l[k] :: l.drop (k + 1) := List.drop_eq_getElem_cons hkl
    generalize hck : l[k] = ck at *
    rw [hdr] at he
    refine ⟨_, rfl, _, rfl, S l, k, _, rfl, rfl, S_line hl, at_S gk, _, rfl, _, rfl, S l, i, _, rfl, rfl, S_line hl, at_S gi, rfl, _, rfl, ?_⟩
    have ed : (!decide (V.str (S [ck]) = V.str (S [qc]))) = !decide (ck = qc) := by rw [one_dec]
    by_cases cq : ck = qc
    · refine iteF' (ed.trans (by rw [decide_eq_true cq]; rfl)) ?_
      refine hg D k acc H' hk (by omega) sm hD' (fun z => by omega) (fun _ => ?_)
      rw [he]; unfold scanT; rw [if_pos cq]
    · refine iteT' (ed.trans (by rw [decide_eq_false cq]; rfl)) ?_
      refine ⟨_, fun _ _ h => h, ?_⟩
      unfold scanT at he
      rw [if_neg cq] at he
      refine ⟨_, rfl, _, rfl, S l, k, _, rfl, rfl, S_line hl, at_S gk, rfl, _, rfl, ?_⟩
      have e92 : decide (V.str (S [ck]) = V.str (Str.ofString "\\")) = decide (ck = 92) := by rw [zk.2.1, one_dec]
      by_cases c92 : ck = 92
      · refine iteT' (e92.trans (decide_eq_true c92)) ?_
        rw [if_pos c92] at he
        refine ⟨_, rfl, _, _, rfl, rfl, ?_⟩
        refine ⟨_, rfl, _, rfl, _, rfl, S_line hl, rfl, _, rfl, ?_⟩
        by_cases cl : k + 1 = l.length
        · refine iteT' ((eL (k + 1)).trans (decide_eq_true cl)) ?_
          refine hg D (k + 1) acc H' (by omega) (by omega) sm hD' (fun _ => ?_) (fun z => by omega)
          rw [he, cl, List.drop_length]; rfl
        · refine iteF' ((eL (k + 1)).trans (decide_eq_false cl)) ?_
          have hkl1 : k + 1 < l.length := by omega
          have gk1 : l[k + 1]? = some l[k + 1] := List.getElem?_eq_getElem hkl1
          have hdr1 : l.drop (k + 1) = l[k + 1] :: l.drop (k + 1 + 1) := List.drop_eq_getElem_cons hkl1
          generalize hc1 : l[k + 1] = c1 at *
          rw [hdr1] at he
          unfold scanT at he
          obtain ⟨r, hr1, hr2, hr3⟩ := hE [c1]
          refine ⟨_, rfl, _, rfl, S l, (k + 1 : Nat), _, rfl, rfl, S_line hl, at_S gk1, S [c1], r, rfl, rfl, hr1, _, rfl, ?_⟩
          cases hx : escV [c1] with
          | none =>
            refine iteT' (by rw [hr2, hx]; rfl) ?_
            rw [hx] at he
            rw [he] at q
            exact ⟨_, rfl, _, rfl, rz_mk ER fun d H2 s2 n2 => q d H2 (sm.trans s2) (sm.free n2)⟩
          | some m =>
            refine iteF' (by rw [hr2, hx]; rfl) ?_
            rw [hx] at he
            obtain ⟨u0, hu, ru⟩ := hr3 m hx
            obtain ⟨d, rfl⟩ := escV_one hx
            rw [hu] at hr1
            refine ⟨_, rfl, .inl ⟨rfl, _, SqL.of hD'⟩, _, rfl, _, rfl, S l, (k + 1 : Nat), _, rfl, rfl, S_line hl, at_S gk1, dE, S [c1], _, rfl, rfl, ⟨_, _, _, KE.at_, KE.lit, hr1, ru⟩, D, _, _, rfl, rfl, hD', by rw [List.length_map]; omega, ?_⟩
            refine ⟨_, rfl, _, _, rfl, rfl, ?_⟩
            refine ⟨_, by omega, k + 2, acc ++ [d], rfl, rfl, by omega, by rw [List.length_append]; simp; omega, ?_, ?_, ?_⟩
            · exact same_upd sm hD
            · rw [upd_same, List.map_append]; rfl
            · rw [he]
      · refine iteF' (e92.trans (decide_eq_false c92)) ?_
        rw [if_neg c92] at he
        refine ⟨_, rfl, .inl ⟨rfl, _, SqL.of hD'⟩, _, rfl, _, rfl, S l, (k : Nat), _, rfl, rfl, S_line hl, at_S gk, D, _, _, rfl, rfl, hD', by rw [List.length_map]; omega, ?_⟩
        refine ⟨_, rfl, _, _, rfl, rfl, ?_⟩
        refine ⟨_, by omega, k + 1, acc ++ [ck], rfl, rfl, by omega, by rw [List.length_append]; simp; omega, ?_, ?_, ?_⟩
        · exact same_upd sm hD
        · rw [upd_same, List.map_append]; rfl
        · rw [he]
  · rw [e2] at c
    have hkl : ¬ k < l.length := of_decide_eq_false c
    refine hg D k acc H' hk (by omega) sm hD' (fun z => ?_) (fun z => absurd z hkl)
    rw [he, z, List.drop_length]; rfl
end
end D0
namespace D0
open PySem PySem.Spec PyProof.Rows L2 SX NumText
theorem sw_S (l wd : List Nat) (i : Nat) (hw : wd ≠ []) : Txt.startswith3 (S l) (S wd) (i : Int) = decide ((l.drop i).take wd.length = wd) := by
  have e : fromIndex (S l).length (i : Int) = i := by
    unfold fromIndex
    rw [if_neg (by omega)]
    omega
  have hl : (S wd).length = wd.length := S_len wd
  have hp := List.length_pos_iff.mpr hw
  unfold Txt.startswith3
  rw [e]
  by_cases h : (l.drop i).take wd.length = wd
  · rw [decide_eq_true h]
    have a := PySem.StrLaws.take_at (x := S l) (y := S wd) (k := i) (by omega) h
    rw [Bool.and_eq_true]
    exact ⟨decide_eq_true a.1, a.2⟩
  · rw [decide_eq_false h]
    cases z : (decide (i + (S wd).length ≤ (S l).length) && PySem.Builtin.Str.subAt (S l) (S wd) i) with
    | false => rfl
    | true =>
      rw [Bool.and_eq_true] at z
      exact absurd (PySem.StrLaws.at_take (x := S l) (y := S wd) (k := i) ⟨of_decide_eq_true z.1, z.2⟩) h
def scanSign (l : List Nat) (i : Nat) : Except Nat Tr :=
  match SG.find? (fun s => decide ((l.drop i).take s.length = s)) with
  | some s => .ok (.sign, .s s, i + s.length)
  | none => .error (i + 1)
def scanTok (l : List Nat) (i : Nat) : Except Nat Tr :=
  if (l.drop i).headD 0 |> letc then scanName l i else if (l.drop i).headD 0 |> isDig then scanNumber l i else if (l.drop i).headD 0 = 34 ∨ (l.drop i).headD 0 = 39 then scanText l i else scanSign l i
theorem SG_len : ∀ s ∈ SG, s ≠ [] ∧ s.length ≤ 3 := by decide
theorem find_none {α : Type} {p : α → Bool} : ∀ {l : List α}, (∀ a ∈ l, p a = false) → l.find? p = none
  | [], _ => rfl
  | a :: r, h => by rw [List.find?_cons, h a (List.mem_cons_self)]; exact find_none fun b hb => h b (List.mem_cons_of_mem _ hb)
theorem find_at {α : Type} {p : α → Bool} : ∀ {l : List α} {j : Nat} {a : α}, l[j]? = some a → p a = true → (∀ b ∈ l.take j, p b = false) → l.find? p = some a
  | b :: r, 0, a, h, pa, _ => by
    have : b = a := by simpa using h
    subst this
    rw [List.find?_cons, pa]
  | b :: r, j + 1, a, h, pa, hn => by
    rw [List.take_succ_cons] at hn
    rw [List.find?_cons, hn b List.mem_cons_self]
    exact find_at (by simpa using h) pa fun c hc => hn c (List.mem_cons_of_mem _ hc)
section
variable {P : Program} {w : World} {K : PySem.W.Frag} {mg : Str → Option Value} {base : Heap} {ec : Er → Addr}
theorem ok_scan_sign (T : Txt K w mg) (ER : ErrT P w K mg base ec) :
    OkD P w K mg base (L2.CX P w) 3 "scan_sign" p_scan_sign (spScan ec scanSign fun _ _ => True) := by
  obtain ⟨sA, sG, sT⟩ := T.c_SIGNS
  refine T.g_scan_sign.okX sc_scan_sign (fun vs H Q E h => ?_) (fun f cdv A outer s H vs Q E hr h => ?_)
  · obtain ⟨l, i, ln, rfl, _⟩ := h; rfl
  obtain ⟨l, i, ln, rfl, hl, hi, _, q⟩ := h
  have zk : Str.ofString "sign" = S (Kd.cp .sign) := by decide +kernel
  refine ⟨_, (pss_cons (ps_for (passes_of rfl) rfl (pi_tup (pe_glob (v := .ref sA) rfl sG rfl)) (pg_name (i := 3) sc_scan_sign.nd rfl (Or.inl rfl))
      (pss_one (ps_if (pt_val (pe_bm PySem.F.plainAttrs_str PySem.F.slot_str_startswith PySem.F.type_str_startswith mt_startswith3 (pv 0) (pa_cons (pv 3) (pa_cons (pv 1) pa_nil)))) (pss_one (ps_ret (pe_tup (pa_cons pe_str (pa_cons (pv 3) (pa_cons (pe_op op_add (pv 1) (pe_callB call_len_str (by rfl) T.z_len PySem.boot_len (pa_cons (pv 3) pa_nil))) pa_nil)))))) pss_nil)))
      (pss_one (ps_raise rfl (takes_of rfl rfl rfl rfl) (pmk_err ER .token hr (pa_cons (pv 2) (pa_cons (pe_op op_add (pv 1) pe_int) pa_nil)))))), ?_⟩
  refine ⟨sA, rfl, ⟨_, sT _⟩, for_it (walk_tup (xs := SG.map fun l => V.str (S l))) (fun j σ H' => H' = H ∧ (∃ y, σ = [some (.str (S l)), some (.int i), some (.int ln), y]) ∧ ∀ s ∈ SG.take j, decide ((l.drop i).take s.length = s) = false)
    ⟨rfl, ⟨none, rfl⟩, fun s h => by cases h⟩ (fun j σ H' _ h => sT _) ?_ ?_⟩
  · rintro j x σ H1 H2 hj ⟨rfl, ⟨y, rfl⟩, hn⟩ ⟨rfl, hx⟩
    rw [List.getElem?_map] at hx
    obtain ⟨sg, hs, rfl⟩ := Option.map_eq_some_iff.mp hx
    have hsm : sg ∈ SG := List.mem_of_getElem? hs
    obtain ⟨s1, s2⟩ := SG_len sg hsm
    refine ⟨_, rfl, rfl, _, rfl, _, rfl, S l, S sg, i, rfl, rfl, _, rfl, ?_⟩
    rw [sw_S l sg i s1]
    refine iteD (fun c => ?_) (fun c => ?_)
    · refine ⟨_, rfl, _, rfl, _, rfl, _, rfl, (by show (S sg).length ≤ sizeLine; rw [S_len]; exact Nat.le_trans s2 three), _, _, rfl, rfl, three, fun p hp => ?_⟩
      unfold scanSign at q
      rw [find_at hs c hn] at q
      refine q _ p (same_new hp _) ?_
      rw [upd_same, zk, S_len]; rfl
    · refine ⟨rfl, ⟨_, rfl⟩, fun b hb => ?_⟩
      rw [List.take_add_one, hs] at hb
      rcases List.mem_append.mp hb with hb | hb
      · exact hn b hb
      · have : b = sg := by simpa using hb
        subst this; exact c
  · rintro σ H' ⟨rfl, ⟨y, rfl⟩, hn⟩
    rw [List.length_map, List.take_length] at hn
    unfold scanSign at q
    rw [find_none hn] at q
    exact ⟨_, rfl, _, rfl, _, _, rfl, rfl, rz_mk ER q⟩
theorem ok_scan_token (T : Txt K w mg) (ER : ErrT P w K mg base ec) (Od : OkD P w K mg base CX0 1 "is_digit" p_is_digit spIsDigit) (Ol : OkD P w K mg base CX0 1 "is_letter" p_is_letter spIsLetter)
    (O1 : OkD P w K mg base (L2.CX P w) 3 "scan_name" p_scan_name (spScan ec scanName fun _ _ => True))
    (O2 : OkD P w K mg base (L2.CX P w) 3 "scan_number" p_scan_number (spScan ec scanNumber fun l i => ∃ c, l[i]? = some c ∧ isDig c = true))
    (O3 : OkD P w K mg base (L2.CX P w) 3 "scan_text" p_scan_text (spScan ec scanText fun _ _ => True))
    (O4 : OkD P w K mg base (L2.CX P w) 3 "scan_sign" p_scan_sign (spScan ec scanSign fun _ _ => True)) :
    OkD P w K mg base (L2.CX P w) 4 "scan_token" p_scan_token (spScan ec scanTok fun _ _ => True) := by
  refine T.g_scan_token.okX sc_scan_token (fun vs H Q E h => ?_) (fun f cdv A outer s H vs Q E hr h => ?_)
  · obtain ⟨l, i, ln, rfl, _⟩ := h; rfl
  obtain ⟨l, i, ln, rfl, hl, hi, _, q⟩ := h
  have z : Str.ofString "\"" = S [34] ∧ Str.ofString "'" = S [39] := by decide +kernel
  have gi : l[i]? = some l[i] := List.getElem?_eq_getElem hi
  have hd : (l.drop i).headD 0 = l[i] := by rw [List.drop_eq_getElem_cons hi]; rfl
  unfold scanTok at q
  rw [hd] at q
  generalize hc : l[i] = c at *
  refine ⟨_, (pss_cons (ps_set (i := 3) sc_scan_token.nd rfl (.inl rfl) (pe_ix ix_str (pv 0) (pv 1) (fun _ _ => rfl)))
      (pss_cons (ps_if (pt_val (pcall Ol hr (pa_cons (pv 3) pa_nil))) (pss_one (ps_ret (pcallE O1 hr (passes_call (takes_of rfl rfl rfl rfl) (fun _ _ _ _ h => h)) (pa_cons (pv 0) (pa_cons (pv 1) (pa_cons (pv 2) pa_nil)))))) pss_nil)
      (pss_cons (ps_if (pt_val (pcall Od hr (pa_cons (pv 3) pa_nil))) (pss_one (ps_ret (pcallE O2 hr (passes_call (takes_of rfl rfl rfl rfl) (fun _ _ _ _ h => h)) (pa_cons (pv 0) (pa_cons (pv 1) (pa_cons (pv 2) pa_nil)))))) pss_nil)
      (pss_cons (ps_if (PW.pt (pw_or (pt_cmpR op_eq (pv 3) pe_str (nomark _)) (pw_or1 (pt_cmpR op_eq (pv 3) pe_str (nomark _))))) (pss_one (ps_ret (pcallE O3 hr (passes_call (takes_of rfl rfl rfl rfl) (fun _ _ _ _ h => h)) (pa_cons (pv 0) (pa_cons (pv 1) (pa_cons (pv 2) pa_nil)))))) pss_nil)
      (pss_one (ps_ret (pcallE O4 hr (passes_call (takes_of rfl rfl rfl rfl) (fun _ _ _ _ h => h)) (pa_cons (pv 0) (pa_cons (pv 1) (pa_cons (pv 2) pa_nil)))))))))), ?_⟩
  refine ⟨_, rfl, _, rfl, S l, i, _, rfl, rfl, S_line hl, at_S gi, _, rfl, [c], rfl, Nat.le_refl 1, _, rfl, ?_⟩
  have e1 : [c].any letc = letc c := by simp
  have e2 : [c].any isDig = isDig c := by simp
  cases c1 : letc c with
  | true =>
    rw [c1] at q
    refine iteT' (e1.trans c1) ⟨_, rfl, _, rfl, _, rfl, l, i, ln, rfl, hl, hi, trivial, q⟩
  | false =>
  rw [c1] at q
  refine iteF' (e1.trans c1) ⟨_, rfl, [c], rfl, Nat.le_refl 1, _, rfl, ?_⟩
  cases c2 : isDig c with
  | true =>
    rw [c2] at q
    refine iteT' (e2.trans c2) ⟨_, rfl, _, rfl, _, rfl, l, i, ln, rfl, hl, hi, ⟨c, gi, c2⟩, q⟩
  | false =>
  rw [c2] at q
  refine iteF' (e2.trans c2) ⟨_, rfl, rfl, _, rfl, ?_⟩
  have e3 : decide (V.str (S [c]) = V.str (Str.ofString "\"")) = decide (c = 34) := by rw [z.1, one_dec]
  have e4 : decide (V.str (S [c]) = V.str (Str.ofString "'")) = decide (c = 39) := by rw [z.2, one_dec]
  by_cases c3 : c = 34
  · rw [if_neg Bool.false_ne_true, if_neg Bool.false_ne_true, if_pos (.inl c3)] at q
    refine iteT' (e3.trans (decide_eq_true c3)) ⟨_, rfl, _, rfl, _, rfl, l, i, ln, rfl, hl, hi, trivial, q⟩
  refine iteF' (e3.trans (decide_eq_false c3)) ⟨_, rfl, rfl, _, rfl, ?_⟩
  by_cases c4 : c = 39
  · rw [if_neg Bool.false_ne_true, if_neg Bool.false_ne_true, if_pos (.inr c4)] at q
    refine iteT' (e4.trans (decide_eq_true c4)) ⟨_, rfl, _, rfl, _, rfl, l, i, ln, rfl, hl, hi, trivial, q⟩
  rw [if_neg Bool.false_ne_true, if_neg Bool.false_ne_true, if_neg (by rintro (h | h); exact c3 h; exact c4 h)] at q
  exact iteF' (e4.trans (decide_eq_false c4)) ⟨_, rfl, _, rfl, _, rfl, l, i, ln, rfl, hl, hi, trivial, q⟩
end
end D0
namespace D0
open PySem PySem.Spec PyProof.Rows L2 SX NumText
abbrev fM : Str := "marks"
abbrev fB : Str := "brackets"
abbrev fI : Str := "indents"
abbrev fN : Str := "many"
abbrev fH : Str := "behind"
theorem f_ne : fM ≠ fB ∧ fM ≠ fI ∧ fM ≠ fN ∧ fM ≠ fH ∧ fB ≠ fI ∧ fB ≠ fN ∧ fB ≠ fH ∧ fI ≠ fN ∧ fI ≠ fH ∧ fN ≠ fH := by decide +kernel
/-- the fields of a scanner -/
def pf (lm lb li : Addr) (m b : Int) : List (Str × V) := putF fH (.int b) (putF fN (.int m) (putF fI (.ref li) (putF fB (.ref lb) (putF fM (.ref lm) []))))
theorem pf_eq (lm lb li : Addr) (m b : Int) : pf lm lb li m b = [(fM, .ref lm), (fB, .ref lb), (fI, .ref li), (fN, .int m), (fH, .int b)] := by
  obtain ⟨h1, h2, h3, h4, h5, h6, h7, h8, h9, h10⟩ := f_ne
  unfold pf
  simp only [putF, if_neg h1, if_neg h2, if_neg h3, if_neg h4, if_neg h5, if_neg h6, if_neg h7, if_neg h8, if_neg h9, if_neg h10]
section
variable {lm lb li : Addr} {m b : Int}
theorem lk_M : (pf lm lb li m b).lookup fM = some (.ref lm) := by
  obtain ⟨h1, h2, h3, h4, h5, h6, h7, h8, h9, h10⟩ := f_ne
  unfold pf
  rw [lookup_putF, if_neg h4, lookup_putF, if_neg h3, lookup_putF, if_neg h2, lookup_putF, if_neg h1, lookup_putF, if_pos rfl]
theorem lk_B : (pf lm lb li m b).lookup fB = some (.ref lb) := by
  obtain ⟨h1, h2, h3, h4, h5, h6, h7, h8, h9, h10⟩ := f_ne
  unfold pf
  rw [lookup_putF, if_neg h7, lookup_putF, if_neg h6, lookup_putF, if_neg h5, lookup_putF, if_pos rfl]
theorem lk_I : (pf lm lb li m b).lookup fI = some (.ref li) := by
  obtain ⟨h1, h2, h3, h4, h5, h6, h7, h8, h9, h10⟩ := f_ne
  unfold pf
  rw [lookup_putF, if_neg h9, lookup_putF, if_neg h8, lookup_putF, if_pos rfl]
theorem lk_N : (pf lm lb li m b).lookup fN = some (.int m) := by
  obtain ⟨h1, h2, h3, h4, h5, h6, h7, h8, h9, h10⟩ := f_ne
  unfold pf
  rw [lookup_putF, if_neg h10, lookup_putF, if_pos rfl]
theorem lk_H : (pf lm lb li m b).lookup fH = some (.int b) := by
  unfold pf
  rw [lookup_putF, if_pos rfl]
theorem pf_N (c : Int) : putF fN (.int c) (pf lm lb li m b) = pf lm lb li c b := by
  obtain ⟨h1, h2, h3, h4, h5, h6, h7, h8, h9, h10⟩ := f_ne
  rw [pf_eq, pf_eq]
  simp only [putF, if_neg h3, if_neg h6, if_neg h8, if_pos]
theorem pf_H (c : Int) : putF fH (.int c) (pf lm lb li m b) = pf lm lb li m c := by
  obtain ⟨h1, h2, h3, h4, h5, h6, h7, h8, h9, h10⟩ := f_ne
  rw [pf_eq, pf_eq]
  simp only [putF, if_neg h4, if_neg h7, if_neg h9, if_neg h10, if_pos]
theorem pf_len : (pf lm lb li m b).length < 1000 := by rw [pf_eq]; show 5 < 1000; decide
theorem pf_no {x : Str} (h : x ≠ fM ∧ x ≠ fB ∧ x ≠ fI ∧ x ≠ fN ∧ x ≠ fH) : (pf lm lb li m b).lookup x = none := by
  obtain ⟨h1, h2, h3, h4, h5⟩ := h
  unfold pf
  rw [lookup_putF, if_neg h5, lookup_putF, if_neg h4, lookup_putF, if_neg h3, lookup_putF, if_neg h2, lookup_putF, if_neg h1]
  rfl
end
structure Mk where
  k : Kd
  w : Wd
  ln : Nat
  col : Nat
def Mk.vs (m : Mk) : List V := [.str (S m.k.cp), m.w.v, .int (m.ln : Nat), .int (m.col : Nat)]
structure Sc where
  marks : List Mk
  br : List Mk
  ind : List Nat
  many : Nat
  behind : Nat
/-- the values are the marks -/
def Mks (H : Hp) (vs : List V) (ms : List Mk) : Prop := vs.length = ms.length ∧ ∀ (i : Nat) (m : Mk), ms[i]? = some m → ∃ a : Addr, vs[i]? = some (V.ref a) ∧ H a = some (.tup m.vs)
theorem Mks.nil {H : Hp} : Mks H [] [] := ⟨rfl, fun i m h => by simp at h⟩
theorem Mks.snoc {H : Hp} {vs : List V} {ms : List Mk} {m : Mk} {a : Addr} (h : Mks H vs ms) (ha : H a = some (.tup m.vs)) : Mks H (vs ++ [V.ref a]) (ms ++ [m]) := by
  refine ⟨by simp [h.1], fun i x hx => ?_⟩
  by_cases c : i < ms.length
  · rw [List.getElem?_append_left c] at hx
    obtain ⟨b, h1, h2⟩ := h.2 i x hx
    exact ⟨b, by rw [List.getElem?_append_left (by rw [h.1]; exact c)]; exact h1, h2⟩
  · rw [List.getElem?_append_right (by omega)] at hx
    have e : i - ms.length = 0 := by
      have := (List.getElem?_eq_some_iff.mp hx).1
      simp at this; omega
    rw [e] at hx
    have : m = x := by simpa using hx
    subst this
    exact ⟨a, by rw [List.getElem?_append_right (by rw [h.1]; omega), h.1, e]; rfl, ha⟩
theorem Mks.pop {H : Hp} {vs : List V} {ms : List Mk} (h : Mks H vs ms) : Mks H vs.dropLast ms.dropLast := by
  refine ⟨by rw [List.length_dropLast, List.length_dropLast, h.1], fun i x hx => ?_⟩
  rw [List.getElem?_dropLast] at hx
  split at hx
  · rename_i c
    obtain ⟨b, h1, h2⟩ := h.2 i x hx
    exact ⟨b, by rw [List.getElem?_dropLast, if_pos (by rw [h.1]; exact c)]; exact h1, h2⟩
  · cases hx
theorem Mks.mono {H H' : Hp} {vs : List V} {ms : List Mk} (h : Mks H vs ms) (k : ∀ a t, H a = some (.tup t) → H' a = some (.tup t)) : Mks H' vs ms :=
  ⟨h.1, fun i m e => let ⟨a, h1, h2⟩ := h.2 i m e; ⟨a, h1, k _ _ h2⟩⟩
theorem keepL {H : Hp} {l : Addr} {xs : List V} {o : HO} (h : H l = some (.lst xs)) : ∀ a t, H a = some (.tup t) → upd H l o a = some (.tup t) := fun a t e => by
  rw [upd_ne (fun z => by rw [z, h] at e; cases e)]; exact e
theorem keepI {H : Hp} {l C dx : Addr} {fs : List (Str × V)} {o : HO} (h : H l = some (.ins C dx fs)) : ∀ a t, H a = some (.tup t) → upd H l o a = some (.tup t) := fun a t e => by
  rw [upd_ne (fun z => by rw [z, h] at e; cases e)]; exact e
theorem keepN {H : Hp} {l : Addr} {o : HO} (h : H l = none) : ∀ a t, H a = some (.tup t) → upd H l o a = some (.tup t) := fun a t e => by
  rw [upd_ne (fun z => by rw [z, h] at e; cases e)]; exact e
/-- behind H0 a scanner stands at p in the state s; dx, lm, lb, li: its dict and its lists -/
structure ScA (C : Addr) (H0 H : Hp) (p dx lm lb li : Addr) (s : Sc) : Prop where
  sm : Same H0 H
  p0 : H0 p = none
  m0 : H0 lm = none
  b0 : H0 lb = none
  i0 : H0 li = none
  nmb : lm ≠ lb
  nmi : lm ≠ li
  nbi : lb ≠ li
  hp : H p = some (.ins C dx (pf lm lb li s.many s.behind))
  hm : ∃ vs, H lm = some (.lst vs) ∧ Mks H vs s.marks
  hb : ∃ vs, H lb = some (.lst vs) ∧ Mks H vs s.br.reverse
  hi : H li = some (.lst (s.ind.reverse.map fun n => V.int (n : Nat)))
section
variable {C : Addr} {H0 H : Hp} {p dx lm lb li : Addr} {s : Sc}
/-- a new object -/
theorem ScA.fresh (A : ScA C H0 H p dx lm lb li s) {q : Addr} {o : HO} (h : H q = none) : ScA C H0 (upd H q o) p dx lm lb li s := by
  obtain ⟨vs, h1, h2⟩ := A.hm
  obtain ⟨ws, h3, h4⟩ := A.hb
  refine ⟨A.sm.trans (same_new h _), A.p0, A.m0, A.b0, A.i0, A.nmb, A.nmi, A.nbi, ?_, ⟨vs, ?_, h2.mono (keepN h)⟩, ⟨ws, ?_, h4.mono (keepN h)⟩, ?_⟩
  · rw [upd_ne (ne_of_none A.hp h)]; exact A.hp
  · rw [upd_ne (ne_of_none h1 h)]; exact h1
  · rw [upd_ne (ne_of_none h3 h)]; exact h3
  · rw [upd_ne (ne_of_none A.hi h)]; exact A.hi
theorem ScA.pm (A : ScA C H0 H p dx lm lb li s) : p ≠ lm := by obtain ⟨vs, h1, _⟩ := A.hm; exact ne_of A.hp h1 (by intro z; cases z)
theorem ScA.pb (A : ScA C H0 H p dx lm lb li s) : p ≠ lb := by obtain ⟨vs, h1, _⟩ := A.hb; exact ne_of A.hp h1 (by intro z; cases z)
theorem ScA.pi (A : ScA C H0 H p dx lm lb li s) : p ≠ li := ne_of A.hp A.hi (by intro z; cases z)
/-- the list of marks grows -/
theorem ScA.mark (A : ScA C H0 H p dx lm lb li s) {vs : List V} {a : Addr} {m : Mk} (h : H lm = some (.lst vs)) (ha : H a = some (.tup m.vs)) :
    ScA C H0 (upd H lm (.lst (vs ++ [V.ref a]))) p dx lm lb li { s with marks := s.marks ++ [m] } := by
  obtain ⟨us, h1, h2⟩ := A.hm
  obtain ⟨ws, h3, h4⟩ := A.hb
  have e : us = vs := by rw [h] at h1; cases h1; rfl
  subst e
  refine ⟨same_upd A.sm A.m0, A.p0, A.m0, A.b0, A.i0, A.nmb, A.nmi, A.nbi, ?_, ⟨_, upd_same, (h2.snoc ha).mono (keepL h)⟩, ⟨ws, ?_, h4.mono (keepL h)⟩, ?_⟩
  · rw [upd_ne A.pm]; exact A.hp
  · rw [upd_ne (Ne.symm A.nmb)]; exact h3
  · rw [upd_ne (Ne.symm A.nmi)]; exact A.hi
/-- the list of indents is another -/
theorem ScA.inds (A : ScA C H0 H p dx lm lb li s) {ns : List Nat} {vs : List V} (e : vs = ns.reverse.map fun n => V.int (n : Nat)) :
    ScA C H0 (upd H li (.lst vs)) p dx lm lb li { s with ind := ns } := by
  subst e
  obtain ⟨us, h1, h2⟩ := A.hm
  obtain ⟨ws, h3, h4⟩ := A.hb
  refine ⟨same_upd A.sm A.i0, A.p0, A.m0, A.b0, A.i0, A.nmb, A.nmi, A.nbi, ?_, ⟨us, ?_, h2.mono (keepL A.hi)⟩, ⟨ws, ?_, h4.mono (keepL A.hi)⟩, upd_same⟩
  · rw [upd_ne A.pi]; exact A.hp
  · rw [upd_ne A.nmi]; exact h1
  · rw [upd_ne A.nbi]; exact h3
/-- the list of brackets is another -/
theorem ScA.brs (A : ScA C H0 H p dx lm lb li s) {bs : List Mk} {vs vs0 : List V} (h0 : H lb = some (.lst vs0)) (e : Mks H vs bs.reverse) :
    ScA C H0 (upd H lb (.lst vs)) p dx lm lb li { s with br := bs } := by
  obtain ⟨us, h1, h2⟩ := A.hm
  refine ⟨same_upd A.sm A.b0, A.p0, A.m0, A.b0, A.i0, A.nmb, A.nmi, A.nbi, ?_, ⟨us, ?_, h2.mono (keepL h0)⟩, ⟨_, upd_same, e.mono (keepL h0)⟩, ?_⟩
  · rw [upd_ne A.pb]; exact A.hp
  · rw [upd_ne A.nmb]; exact h1
  · rw [upd_ne (Ne.symm A.nbi)]; exact A.hi
/-- a field is another -/
theorem ScA.flds (A : ScA C H0 H p dx lm lb li s) {n b : Nat} {fs : List (Str × V)} (e : fs = pf lm lb li n b) : ScA C H0 (upd H p (.ins C dx fs)) p dx lm lb li { s with many := n, behind := b } := by
  subst e
  obtain ⟨us, h1, h2⟩ := A.hm
  obtain ⟨ws, h3, h4⟩ := A.hb
  refine ⟨same_upd A.sm A.p0, A.p0, A.m0, A.b0, A.i0, A.nmb, A.nmi, A.nbi, upd_same, ⟨us, ?_, h2.mono (keepI A.hp)⟩, ⟨ws, ?_, h4.mono (keepI A.hp)⟩, ?_⟩
  · rw [upd_ne (Ne.symm A.pm)]; exact h1
  · rw [upd_ne (Ne.symm A.pb)]; exact h3
  · rw [upd_ne (Ne.symm A.pi)]; exact A.hi
end
def ScAt (C : Addr) (H0 H : Hp) (p : Addr) (s : Sc) : Prop := ∃ dx lm lb li, ScA C H0 H p dx lm lb li s
def sc0 : Sc := ⟨[], [], [0], 0, 1⟩
def spInit (C : Addr) : Sp := fun vs H Q _ => ∃ (H0 : Hp) (p dx : Addr), vs = [.ref p] ∧ Same H0 H ∧ H0 p = none ∧ H p = some (.ins C dx []) ∧ ∀ H' : Hp, ScAt C H0 H' p sc0 → Q .non H'
section
variable {P : Program} {w : World} {K : PySem.W.Frag} {mg : Str → Option Value} {base : Heap} {ec : Er → Addr} {C : Addr}
theorem ok_Scanner___init__ (SC0 : ScT K mg C) {f : Addr} {fd : FuncData} (F : Fun K "__init__" "Scanner.__init__" s_Scanner___init__ f fd) : FnOk P w K mg base CX0 1 f fd p_Scanner___init__ (spInit C) := by
  refine F.ok sc_Scanner___init__ (fun vs H Q E h => ?_) (fun cdv A outer s H vs Q E hr h => ?_)
  · obtain ⟨H0, p, dx, rfl, _⟩ := h; rfl
  obtain ⟨H0, p, dx, rfl, sm, p0, hp, q⟩ := h
  refine ⟨_, (pss_cons (ps_fld (pv 0) (pe_lst pa_nil) rfl)
      (pss_cons (ps_fld (pv 0) (pe_lst pa_nil) rfl)
      (pss_cons (ps_fld (pv 0) (pe_lst (pa_cons pe_int pa_nil)) rfl)
      (pss_cons (ps_fld (pv 0) pe_int rfl)
      (pss_one (ps_fld (pv 0) pe_int rfl)))))), ?_⟩
  refine ⟨Nat.zero_le _, fun lm hm => ?_⟩
  have npm : p ≠ lm := ne_of_none hp hm
  refine ⟨_, rfl, p, C, dx, [], rfl, (by rw [upd_ne npm]; exact hp), SC0.cl, SC0.n_marks, (by show 0 < 1000; decide), ?_⟩
  refine ⟨Nat.zero_le _, fun lb hb => ?_⟩
  have npb : p ≠ lb := fun z => by rw [z, upd_same] at hb; cases hb
  rw [upd_ne (Ne.symm npb)] at hb
  have nmb : lm ≠ lb := fun z => by rw [z, upd_same] at hb; cases hb
  rw [upd_ne (Ne.symm nmb)] at hb
  refine ⟨_, rfl, p, C, dx, _, rfl, (by rw [upd_ne npb, upd_same]), SC0.cl, SC0.n_brackets, (by show 1 < 1000; decide), ?_⟩
  refine ⟨(by show 1 ≤ sizeLine; decide), fun li hi => ?_⟩
  have npi : p ≠ li := fun z => by rw [z, upd_same] at hi; cases hi
  rw [upd_ne (Ne.symm npi)] at hi
  have nbi : lb ≠ li := fun z => by rw [z, upd_same] at hi; cases hi
  rw [upd_ne (Ne.symm nbi), upd_ne (Ne.symm npi)] at hi
  have nmi : lm ≠ li := fun z => by rw [z, upd_same] at hi; cases hi
  rw [upd_ne (Ne.symm nmi)] at hi
  refine ⟨_, rfl, p, C, dx, _, rfl, (by rw [upd_ne npi, upd_same]), SC0.cl, SC0.n_indents, (by rw [show putF "brackets" (V.ref lb) (putF "marks" (V.ref lm) []) = [(fM, .ref lm), (fB, .ref lb)] by simp only [putF, if_neg f_ne.1]]; show 2 < 1000; decide), ?_⟩
  have e3 : putF fI (V.ref li) (putF fB (V.ref lb) (putF fM (V.ref lm) [])) = [(fM, V.ref lm), (fB, V.ref lb), (fI, V.ref li)] := by
    obtain ⟨h1, h2, h3, h4, h5, h6, h7, h8, h9, h10⟩ := f_ne
    simp only [putF, if_neg h1, if_neg h2, if_neg h5]
  have e4 : putF fN (V.int 0) (putF fI (V.ref li) (putF fB (V.ref lb) (putF fM (V.ref lm) []))) = [(fM, V.ref lm), (fB, V.ref lb), (fI, V.ref li), (fN, V.int 0)] := by
    obtain ⟨h1, h2, h3, h4, h5, h6, h7, h8, h9, h10⟩ := f_ne
    rw [e3]; simp only [putF, if_neg h3, if_neg h6, if_neg h8]
  refine ⟨_, rfl, p, C, dx, _, rfl, upd_same, SC0.cl, SC0.n_many, (by show (putF fI (V.ref li) (putF fB (V.ref lb) (putF fM (V.ref lm) []))).length < 1000; rw [e3]; show 3 < 1000; decide), ?_⟩
  refine ⟨_, rfl, p, C, dx, _, rfl, upd_same, SC0.cl, SC0.n_behind, (by show (putF fN (V.int 0) (putF fI (V.ref li) (putF fB (V.ref lb) (putF fM (V.ref lm) [])))).length < 1000; rw [e4]; show 4 < 1000; decide), ?_⟩
  have hm0 : H0 lm = none := sm.free hm
  have hb0 : H0 lb = none := sm.free hb
  have hi0 : H0 li = none := sm.free hi
  refine q _ ⟨dx, lm, lb, li, ⟨fun b o e => ?_, p0, hm0, hb0, hi0, nmb, nmi, nbi, upd_same, ⟨[], ?_, Mks.nil⟩, ⟨[], ?_, Mks.nil⟩, ?_⟩⟩
  · have n1 := ne_of_none e p0
    have n2 := ne_of_none e hm0
    have n3 := ne_of_none e hb0
    have n4 := ne_of_none e hi0
    rw [upd_ne n1, upd_ne n1, upd_ne n1, upd_ne n4, upd_ne n1, upd_ne n3, upd_ne n1, upd_ne n2]
    exact sm _ _ e
  · rw [upd_ne (Ne.symm npm), upd_ne (Ne.symm npm), upd_ne (Ne.symm npm), upd_ne nmi, upd_ne (Ne.symm npm), upd_ne nmb, upd_ne (Ne.symm npm), upd_same]
  · rw [upd_ne (Ne.symm npb), upd_ne (Ne.symm npb), upd_ne (Ne.symm npb), upd_ne nbi, upd_ne (Ne.symm npb), upd_same]
  · rw [upd_ne (Ne.symm npi), upd_ne (Ne.symm npi), upd_ne (Ne.symm npi), upd_same]; rfl
end
end D0
namespace D0
open PySem PySem.Spec PyProof.Rows L2 SX NumText
theorem rz_up {ec : Er → Addr} {k : Er} {l c : Int} {H0 H : Hp} {E : XK} (s : Same H0 H) (h : Rz ec k l c H0 E) : Rz ec k l c H E := fun d H2 s2 n2 => h d H2 (s.trans s2) (s.free n2)
def OutS (ec : Er → Addr) (C : Addr) (H0 : Hp) (p : Addr) (Q : VK) (E : XK) : Except (Er × Nat × Nat) Sc → Prop
  | .ok s => ∀ H', ScAt C H0 H' p s → Q .non H'
  | .error e => Rz ec e.1 (e.2.1 : Nat) (e.2.2 : Nat) H0 E
def popW (n : Nat) : List Nat → List Nat
  | [] => []
  | t :: r => if n < t then popW n r else t :: r
def dedent (ln col : Nat) : Mk := ⟨.dedent, .s [], ln, col⟩
def finish (n ln col : Nat) (s : Sc) : Except (Er × Nat × Nat) Sc :=
  if (popW n s.ind).headD 0 < n then .error (.indent, ln, col) else .ok { s with ind := popW n s.ind, marks := s.marks ++ List.replicate (s.ind.length - (popW n s.ind).length) (dedent ln col) }
def beginLine (ln col : Nat) (s : Sc) : Except (Er × Nat × Nat) Sc :=
  if 0 < col - 1 ∧ s.marks = [] then .error (.indent, ln, col)
  else if s.ind.headD 0 < col - 1 then
    (if 11 < s.ind.length + 1 then .error (.deep, ln, col) else finish (col - 1) ln col { s with ind := (col - 1) :: s.ind, marks := s.marks ++ [⟨.indent, .s [], ln, col⟩] })
  else finish (col - 1) ln col s
theorem top_at {t : Nat} {r : List Nat} : atI ((t :: r).reverse.map fun n => V.int (n : Nat)) (-1) = some (V.int (t : Nat)) := by
  rw [List.reverse_cons, List.map_append]; exact atI_last _ _
/-- a stack of indents stands -/
def Ind (l : List Nat) : Prop := l.getLast? = some 0 ∧ l.length ≤ 12
theorem Ind.ne {l : List Nat} (h : Ind l) : l ≠ [] := fun z => by rw [z] at h; cases h.1
theorem Ind.tail {t : Nat} {r : List Nat} (h : Ind (t :: r)) (ht : 0 < t) : Ind r := by
  obtain ⟨a, b⟩ := h
  cases r with
  | nil => simp at a; omega
  | cons x y => exact ⟨by rw [List.getLast?_cons_cons] at a; exact a, by simp at b ⊢; omega⟩
def lim : Nat := 12000000
theorem lim_line : lim + 100 < sizeLine := by decide
def spBegin (ec : Er → Addr) (C : Addr) : Sp := fun vs H Q E => ∃ (H0 : Hp) (p : Addr) (s : Sc) (ln col : Nat), vs = [.ref p, .int ln, .int col] ∧ 1 ≤ col ∧ ScAt C H0 H p s ∧ Ind s.ind ∧ s.ind.length ≤ 11 ∧ s.marks.length ≤ lim ∧ OutS ec C H0 p Q E (beginLine ln col s)
theorem four : 4 ≤ sizeLine := by decide
section
variable {P : Program} {w : World} {K : PySem.W.Frag} {mg : Str → Option Value} {base : Heap} {ec : Er → Addr} {C : Addr}
theorem m_no : True := trivial
theorem ok_Scanner_begin_line (T : Txt K w mg) (ER : ErrT P w K mg base ec) (SC0 : ScT K mg C) :
    OkM P w K mg base C (L2.CX P w) 3 "begin_line" p_Scanner_begin_line (spBegin ec C) := by
  refine SC0.g_begin_line.okX sc_Scanner_begin_line (fun vs H Q E h => ?_) (fun f cdv A outer s H vs Q E hr h => ?_)
  · obtain ⟨H0, p, s, ln, col, rfl, _⟩ := h; rfl
  obtain ⟨H0, p, s, ln, col, rfl, hcol, ⟨dx, lm, lb, li, A⟩, hI, hI2, hM, q⟩ := h
  have zk : Str.ofString "indent" = S (Kd.cp .indent) ∧ Str.ofString "dedent" = S (Kd.cp .dedent) ∧ Str.ofString "" = S [] := by decide +kernel
  have hn : ((col : Int) - 1) = ((col - 1 : Nat) : Int) := by omega
  generalize hN : col - 1 = n at *
  refine split_at 3 (fun t => ∀ (s1 : Sc) (H1 : Hp), ScA C H0 H1 p dx lm lb li s1 → Ind s1.ind → s1.marks.length ≤ lim + 1 → OutS ec C H0 p Q E (finish n ln col s1) →
    t { nx := fun _ H' => Q .non H', rt := Q } [some (.ref p), some (.int ln), some (.int col), some (.int n)] H1) ?_ (fun t ht hg => ?_)
  · refine ⟨_, (pss_cons (ps_while (passes_of rfl) (pt_cmpR op_lt (pv 3) (pe_ix ix_list (pe_fld (pv 0) rfl) (pe_un un_neg pe_int) (fun _ _ => rfl)) (nomark _))
        (pss_cons (ps_expr (pe_bm0 PySem.F.plainAttrs_list PySem.F.slot_list_pop PySem.F.type_list_pop mt_pop (pe_fld (pv 0) rfl)))
      (pss_one (ps_expr (pe_bm PySem.F.plainAttrs_list PySem.F.slot_list_append PySem.F.type_list_append mt_append (pe_fld (pv 0) rfl) (pa_cons (pe_tup (pa_cons pe_str (pa_cons pe_str (pa_cons (pv 1) (pa_cons (pv 2) pa_nil))))) pa_nil))))))
      (pss_one (ps_if (pt_cmpR op_gt (pv 3) (pe_ix ix_list (pe_fld (pv 0) rfl) (pe_un un_neg pe_int) (fun _ _ => rfl)) (nomark _)) (pss_one (ps_raise rfl (takes_of rfl rfl rfl rfl) (pmk_err ER .indent hr (pa_cons (pv 1) (pa_cons (pv 2) pa_nil))))) pss_nil))), ?_⟩
    intro s1 H1 A1 hI1 hM1 q1
    refine ⟨fun m σ H' => ∃ (st : List Nat), σ = [some (.ref p), some (.int ln), some (.int col), some (.int n)] ∧ m = st.length ∧ Ind st ∧ st.length ≤ s1.ind.length ∧ popW n s1.ind = popW n st ∧
      ScA C H0 H' p dx lm lb li { s1 with ind := st, marks := s1.marks ++ List.replicate (s1.ind.length - st.length) (dedent ln col) },
      ⟨_, s1.ind, rfl, rfl, hI1, Nat.le_refl _, rfl, by rw [Nat.sub_self]; show ScA C H0 H1 p dx lm lb li { s1 with ind := s1.ind, marks := s1.marks ++ [] }; rw [List.append_nil]; exact A1⟩, ?_⟩
    rintro m σ H' ⟨st, rfl, rfl, hI2, hle, he, A2⟩
    cases st with
    | nil => exact absurd rfl hI2.ne
    | cons t r =>
    refine ⟨_, rfl, _, rfl, p, C, dx, _, _, rfl, A2.hp, SC0.cl, SC0.n_indents, lk_I, 1, rfl, li, _, -1, _, rfl, rfl, SqL.of A2.hi, top_at, _, _, rfl, rfl, _, rfl, iteD (b := decide ((n : Int) < (t : Int))) (fun c => ?_) (fun c => ?_)⟩
    · have c' : n < t := by have := of_decide_eq_true c; omega
      refine ⟨_, fun _ _ h => h, ?_⟩
      have hi3 := A2.hi
      refine ⟨_, rfl, p, C, dx, _, _, rfl, A2.hp, SC0.cl, SC0.n_indents, lk_I, .inl ⟨rfl, _, SqL.of hi3⟩, li, _, .int (t : Nat), rfl, rfl, hi3, ?_, ?_⟩
      · show (((t :: r).reverse.map fun n => V.int (n : Nat)))[((t :: r).reverse.map fun n => V.int (n : Nat)).length - 1]? = some (V.int (t : Nat))
        rw [List.reverse_cons, List.map_append, List.length_append, List.getElem?_append_right (by simp)]
        simp
      have A3 : ScA C H0 (upd H' li (.lst ((t :: r).reverse.map fun n => V.int (n : Nat)).dropLast)) p dx lm lb li { s1 with ind := r, marks := s1.marks ++ List.replicate (s1.ind.length - (t :: r).length) (dedent ln col) } :=
        A2.inds (ns := r) (by rw [List.reverse_cons, List.map_append]; simp)
      obtain ⟨vs, hv, hvm⟩ := A3.hm
      refine ⟨_, rfl, p, C, dx, _, _, rfl, A3.hp, SC0.cl, SC0.n_marks, lk_M, .inl ⟨rfl, _, SqL.of hv⟩, _, rfl, _, rfl, four, fun q hq => ?_⟩
      have A4 := A3.fresh (o := .tup [.str (Str.ofString "dedent"), .str (Str.ofString ""), .int ln, .int col]) hq
      obtain ⟨vs', hv', hvm'⟩ := A4.hm
      refine ⟨lm, _, _, rfl, rfl, hv', ?_, ?_⟩
      · rw [hvm'.1]
        have := lim_line
        show (s1.marks ++ List.replicate _ _).length < _
        rw [List.length_append, List.length_replicate]
        have := hI1.2
        omega
      · have A5 := A4.mark (m := dedent ln col) hv' (by rw [upd_same, zk.2.1, zk.2.2]; rfl)
        refine ⟨_, Nat.lt_succ_self _, r, rfl, rfl, hI2.tail (by omega), by simp at hle; omega, ?_, ?_⟩
        · rw [he]; show (if n < t then popW n r else t :: r) = _; rw [if_pos c']
        · have e : (s1.marks ++ List.replicate (s1.ind.length - (t :: r).length) (dedent ln col)) ++ [dedent ln col] = s1.marks ++ List.replicate (s1.ind.length - r.length) (dedent ln col) := by
            rw [List.append_assoc, ← List.replicate_succ']
            congr 2
            simp only [List.length_cons] at hle ⊢
            omega
          rw [← e]
          exact A5
    · have c' : ¬ n < t := by have := of_decide_eq_false c; omega
      have hp : popW n s1.ind = t :: r := by rw [he]; show (if n < t then popW n r else t :: r) = _; rw [if_neg c']
      unfold finish at q1
      rw [hp] at q1
      refine ⟨_, rfl, _, rfl, p, C, dx, _, _, rfl, A2.hp, SC0.cl, SC0.n_indents, lk_I, 1, rfl, li, _, -1, _, rfl, rfl, SqL.of A2.hi, top_at, _, _, rfl, rfl, _, rfl, iteD (b := decide ((t : Int) < (n : Int))) (fun c => ?_) (fun c => ?_)⟩
      · have c2 : t < n := by have := of_decide_eq_true c; omega
        rw [if_pos (show (t :: r).headD 0 < n from c2)] at q1
        exact ⟨_, rfl, _, rfl, rz_mk ER (rz_up A2.sm q1)⟩
      · have c2 : ¬ t < n := by have := of_decide_eq_false c; omega
        rw [if_neg (show ¬ (t :: r).headD 0 < n from c2)] at q1
        exact q1 _ ⟨dx, lm, lb, li, A2⟩
  · refine split_at 1 (fun t => t { nx := fun _ H' => Q .non H', rt := Q } [some (.ref p), some (.int ln), some (.int col), some (.int n)] H) ?_ (fun t ht hg => ?_)
    rotate_left
    · refine ⟨_, pss_cons (ps_set (i := 3) sc_Scanner_begin_line.nd rfl (.inl rfl) (pe_op op_sub (pv 2) pe_int)) ht, ?_⟩
      rw [← hn] at hg
      exact ⟨_, rfl, _, _, rfl, rfl, hg⟩
    obtain ⟨vs, hv, hvm⟩ := A.hm
    unfold beginLine at q
    rw [hN] at q
    refine split_at 1 (fun t => ¬ (0 < n ∧ s.marks = []) → t { nx := fun _ H' => Q .non H', rt := Q } [some (.ref p), some (.int ln), some (.int col), some (.int n)] H) ⟨_, pss_cons
      (ps_if (pt_cmpR op_gt (pv 3) (pe_ix ix_list (pe_fld (pv 0) rfl) (pe_un un_neg pe_int) (fun _ _ => rfl)) (nomark _)) (pss_cons (ps_expr (pe_bm PySem.F.plainAttrs_list PySem.F.slot_list_append PySem.F.type_list_append mt_append (pe_fld (pv 0) rfl) (pa_cons (pv 3) pa_nil)))
      (pss_cons (ps_if (pt_cmpR op_gt (pe_callB call_len_seq (by rfl) T.z_len PySem.boot_len (pa_cons (pe_fld (pv 0) rfl) pa_nil)) (pe_gI T.c_INDENT_LIMIT) (nomark _)) (pss_one (ps_raise rfl (takes_of rfl rfl rfl rfl) (pmk_err ER .deep hr (pa_cons (pv 1) (pa_cons (pv 2) pa_nil))))) pss_nil)
      (pss_one (ps_expr (pe_bm PySem.F.plainAttrs_list PySem.F.slot_list_append PySem.F.type_list_append mt_append (pe_fld (pv 0) rfl) (pa_cons (pe_tup (pa_cons pe_str (pa_cons pe_str (pa_cons (pv 1) (pa_cons (pv 2) pa_nil))))) pa_nil)))))) pss_nil) ht, fun hno => ?_⟩ (fun t ht2 rest => ?_)
    rotate_left
    · refine ⟨_, (pss_cons
        (ps_if (PW.pt (pw_and (pt_cmpR op_gt (pv 3) pe_int (nomark _)) (pw_and1 (pt_not (pt_truth (pe_fld (pv 0) rfl) (fun _ => rfl)))))) (pss_one (ps_raise rfl (takes_of rfl rfl rfl rfl) (pmk_err ER .indent hr (pa_cons (pv 1) (pa_cons (pv 2) pa_nil))))) pss_nil) ht2), ?_⟩
      refine ⟨_, rfl, _, _, rfl, rfl, _, rfl, iteD (b := decide ((0 : Int) < (n : Int))) (fun c => ?_) (fun c => ?_)⟩
      · have c' : 0 < n := by have := of_decide_eq_true c; omega
        refine ⟨_, rfl, p, C, dx, _, _, rfl, A.hp, SC0.cl, SC0.n_marks, lk_M, _, .inl ⟨vs, SqL.of hv, rfl⟩, ?_⟩
        cases hms : vs with
        | nil =>
          have hm0 : s.marks = [] := List.eq_nil_of_length_eq_zero (by rw [← hvm.1, hms]; rfl)
          rw [if_pos ⟨c', hm0⟩] at q
          exact iteT ⟨_, rfl, _, rfl, rz_mk ER (rz_up A.sm q)⟩
        | cons x y =>
          have hm0 : s.marks ≠ [] := fun z => by rw [hms, z] at hvm; have := hvm.1; simp at this
          exact iteF (rest fun z => hm0 z.2)
      · have c' : ¬ 0 < n := by have := of_decide_eq_false c; omega
        exact iteF (rest fun z => c' z.1)
    rw [if_neg hno] at q
    have hIs := A.hi
    obtain ⟨t0, r0, e0⟩ : ∃ t0 r0, s.ind = t0 :: r0 := by
      cases h : s.ind with
      | nil => exact absurd h hI.ne
      | cons a b => exact ⟨a, b, rfl⟩
    have htop : atI (s.ind.reverse.map fun n => V.int (n : Nat)) (-1) = some (V.int (t0 : Nat)) := by rw [e0]; exact top_at
    have hd0 : s.ind.headD 0 = t0 := by rw [e0]; rfl
    rw [hd0] at q
    refine ⟨_, rfl, _, rfl, p, C, dx, _, _, rfl, A.hp, SC0.cl, SC0.n_indents, lk_I, 1, rfl, li, _, -1, _, rfl, rfl, SqL.of hIs, htop, _, _, rfl, rfl, _, rfl, iteD (b := decide ((t0 : Int) < (n : Int))) (fun c => ?_) (fun c => ?_)⟩
    · have c' : t0 < n := by have := of_decide_eq_true c; omega
      rw [if_pos c'] at q
      have A1 := A.inds (ns := n :: s.ind) (vs := (s.ind.reverse.map fun n => V.int (n : Nat)) ++ [V.int (n : Nat)]) (by rw [List.reverse_cons, List.map_append]; rfl)
      refine ⟨_, rfl, p, C, dx, _, _, rfl, A.hp, SC0.cl, SC0.n_indents, lk_I, .inl ⟨rfl, _, SqL.of hIs⟩, _, rfl, li, _, _, rfl, rfl, hIs, ?_, ?_⟩
      · rw [List.length_map, List.length_reverse]
        have : 12 < sizeLine := by decide
        omega
      have e2 : decide ((11 : Int) < ((((s.ind.reverse.map fun n => V.int (n : Nat)) ++ [V.int (n : Nat)]).length : Nat) : Int)) = decide (11 < s.ind.length + 1) := by
        rw [List.length_append, List.length_map, List.length_reverse]; exact lt_dec (a := 11)
      refine ⟨_, rfl, p, C, dx, _, _, rfl, A1.hp, SC0.cl, SC0.n_indents, lk_I, li, _, rfl, .inl (SqL.of upd_same), _, _, rfl, rfl, _, rfl, ?_⟩
      by_cases c2 : 11 < s.ind.length + 1
      · rw [if_pos c2] at q
        refine iteT' (e2.trans (decide_eq_true c2)) ?_
        exact ⟨_, rfl, _, rfl, rz_mk ER (rz_up A1.sm q)⟩
      rw [if_neg c2] at q
      refine iteF' (e2.trans (decide_eq_false c2)) ?_
      refine ⟨_, rfl, p, C, dx, _, _, rfl, A1.hp, SC0.cl, SC0.n_marks, lk_M, .inl ⟨rfl, vs, SqL.of (by rw [upd_ne A.nmi]; exact hv)⟩, _, rfl, _, rfl, four, fun u hu => ?_⟩
      have A2 := A1.fresh (o := .tup [.str (Str.ofString "indent"), .str (Str.ofString ""), .int ln, .int col]) hu
      obtain ⟨vs', hv', hvm'⟩ := A2.hm
      refine ⟨lm, _, _, rfl, rfl, hv', ?_, ?_⟩
      · rw [hvm'.1]
        have := lim_line
        show s.marks.length < _
        omega
      · have A5 := A2.mark (m := ⟨.indent, .s [], ln, col⟩) hv' (by rw [upd_same, zk.1, zk.2.2]; rfl)
        refine hg _ _ A5 ⟨?_, ?_⟩ ?_ q
        · show (n :: s.ind).getLast? = some 0
          rw [e0, List.getLast?_cons_cons, ← e0]; exact hI.1
        · show s.ind.length + 1 ≤ 12; omega
        · show (s.marks ++ [_]).length ≤ lim + 1
          rw [List.length_append]; show s.marks.length + 1 ≤ _; omega
    · have c' : ¬ t0 < n := by have := of_decide_eq_false c; omega
      rw [if_neg c'] at q
      exact hg s H A hI (by omega) q
end
end D0
namespace D0
open PySem PySem.Spec PyProof.Rows L2 SX NumText
theorem at_last {α : Type} {vs : List α} {n : Nat} {v : α} (h : vs[n]? = some v) (e : vs.length = n + 1) : atI vs (-1) = some v ∧ vs[vs.length - 1]? = some v := by
  have h2 : vs[vs.length - 1]? = some v := by rw [e]; exact h
  refine ⟨?_, h2⟩
  have h3 : vs.getLast? = some v := by rw [List.getLast?_eq_getElem?]; exact h2
  obtain ⟨ys, rfl⟩ := List.getLast?_eq_some_iff.mp h3
  exact atI_last ys v
theorem Mks.top {H : Hp} {vs : List V} {b : Mk} {r : List Mk} (h : Mks H vs (b :: r).reverse) : ∃ a, atI vs (-1) = some (V.ref a) ∧ vs[vs.length - 1]? = some (V.ref a) ∧ H a = some (.tup b.vs) := by
  have e : (b :: r).reverse[r.length]? = some b := by
    rw [List.reverse_cons, List.getElem?_append_right (by simp)]; simp
  obtain ⟨a, h1, h2⟩ := h.2 r.length b e
  have hl : vs.length = r.length + 1 := by rw [h.1]; simp
  have := at_last h1 hl
  exact ⟨a, this.1, this.2, h2⟩
theorem Mks.last {H : Hp} {vs : List V} {b : Mk} {ms : List Mk} (h : Mks H vs ms) (hb : ms.getLast? = some b) : ∃ a, atI vs (-1) = some (V.ref a) ∧ H a = some (.tup b.vs) := by
  obtain ⟨ys, rfl⟩ := List.getLast?_eq_some_iff.mp hb
  obtain ⟨a, h1, h2⟩ := h.2 ys.length b (by simp)
  have hl : vs.length = ys.length + 1 := by rw [h.1]; simp
  exact ⟨a, (at_last h1 hl).1, h2⟩
def wl : Wd → List Nat
  | .s l => l
  | .n _ => []
def isS : Wd → Bool
  | .s _ => true
  | .n _ => false
theorem isS_v {x : Wd} (h : isS x = true) : x.v = .str (S (wl x)) := by cases x with
  | s l => rfl
  | n k => cases h
def matchBr (m : Mk) (s : Sc) : Except (Er × Nat × Nat) Sc :=
  if wl m.w ∈ OPN then .ok { s with br := m :: s.br } else
  match cloV (wl m.w) with
  | none => .ok s
  | some o => match s.br with
    | [] => .error (.token, m.ln, m.col)
    | b :: r => if wl b.w = o then .ok { s with br := r } else .error (.token, m.ln, m.col)
def BrOk (s : Sc) : Prop := (∀ b ∈ s.br, isS b.w = true) ∧ s.br.length ≤ 1000
def spMatch (ec : Er → Addr) (C : Addr) : Sp := fun vs H Q E => ∃ (H0 : Hp) (p a : Addr) (s : Sc) (m : Mk), vs = [.ref p, .ref a] ∧ H a = some (.tup m.vs) ∧ isS m.w = true ∧ ScAt C H0 H p s ∧ BrOk s ∧ OutS ec C H0 p Q E (matchBr m s)
section
variable {P : Program} {w : World} {K : PySem.W.Frag} {mg : Str → Option Value} {base : Heap} {ec : Er → Addr} {C : Addr}
theorem ok_Scanner_match_bracket (T : Txt K w mg) (ER : ErrT P w K mg base ec) (SC0 : ScT K mg C) :
    OkM P w K mg base C (L2.CX P w) 3 "match_bracket" p_Scanner_match_bracket (spMatch ec C) := by
  obtain ⟨oA, oG, oT⟩ := T.c_OPENING
  obtain ⟨dC, es, en, gC, KC, hC⟩ := T.c_CLOSING
  refine SC0.g_match_bracket.okX sc_Scanner_match_bracket (fun vs H Q E h => ?_) (fun f cdv A outer s H vs Q E hr h => ?_)
  · obtain ⟨H0, p, a, s, m, rfl, _⟩ := h; rfl
  obtain ⟨H0, p, a, s, m, rfl, ha, hw, ⟨dx, lm, lb, li, A⟩, ⟨hB1, hB2⟩, q⟩ := h
  have a1 : atI m.vs (1 : Int) = some (.str (S (wl m.w))) := by rw [← isS_v hw]; exact atI_nat (j := 1) rfl
  have a2 : atI m.vs (2 : Int) = some (.int (m.ln : Nat)) := atI_nat (j := 2) rfl
  have a3 : atI m.vs (3 : Int) = some (.int (m.col : Nat)) := atI_nat (j := 3) rfl
  unfold matchBr at q
  generalize hwl : wl m.w = W at *
  obtain ⟨vb, hvb, hvm⟩ := A.hb
  refine ⟨_, (pss_cons (ps_set (i := 2) sc_Scanner_match_bracket.nd rfl (.inl rfl) (pe_ix ix_tup (pv 1) pe_int (fun _ _ => rfl)))
      (pss_one (ps_if (pt_cmpR op_in_seq (pv 2) (pe_glob (v := .ref oA) rfl oG rfl) (by rfl)) (pss_one (ps_expr (pe_bm PySem.F.plainAttrs_list PySem.F.slot_list_append PySem.F.type_list_append mt_append (pe_fld (pv 0) rfl) (pa_cons (pv 1) pa_nil)))) (pss_one (ps_if (pt_cmpR (op_in_kd KC) (pv 2) (pe_glob (v := .ref dC) rfl gC rfl) (by rfl)) (pss_cons (ps_if (PW.pt (pw_or (pt_not (pt_truth (pe_fld (pv 0) rfl) (fun _ => rfl))) (pw_or1 (pt_cmpR op_ne (pe_ix ix_tup (pe_ix ix_list (pe_fld (pv 0) rfl) (pe_un un_neg pe_int) (fun _ _ => rfl)) pe_int (fun _ _ => rfl)) (pe_ix ix_kdict (pe_glob (v := .ref dC) rfl gC rfl) (pv 2) (fun _ _ => rfl)) (nomark _))))) (pss_one (ps_raise rfl (takes_of rfl rfl rfl rfl) (pmk_err ER .token hr (pa_cons (pe_ix ix_tup (pv 1) pe_int (fun _ _ => rfl)) (pa_cons (pe_ix ix_tup (pv 1) pe_int (fun _ _ => rfl)) pa_nil))))) pss_nil)
      (pss_one (ps_expr (pe_bm0 PySem.F.plainAttrs_list PySem.F.slot_list_pop PySem.F.type_list_pop mt_pop (pe_fld (pv 0) rfl))))) pss_nil))))), ?_⟩
  refine ⟨_, rfl, a, _, 1, _, rfl, rfl, SqT.of ha, a1, ?_⟩
  refine ⟨_, rfl, oA, _, rfl, .inr (oT _), rfl, flat_strs OPN, _, rfl, ?_⟩
  have e2 := in_strs W OPN
  by_cases c : W ∈ OPN
  · rw [if_pos c] at q
    refine iteT' (e2.trans (decide_eq_true c)) ?_
    refine ⟨_, rfl, p, C, dx, _, _, rfl, A.hp, SC0.cl, SC0.n_brackets, lk_B, .inl ⟨rfl, _, SqL.of hvb⟩, _, rfl, lb, _, _, rfl, rfl, hvb, ?_, ?_⟩
    · rw [hvm.1, List.length_reverse]
      have : 1000 < sizeLine := by decide
      omega
    · exact q _ ⟨dx, lm, lb, li, A.brs hvb (by rw [List.reverse_cons]; exact hvm.snoc ha)⟩
  rw [if_neg c] at q
  refine iteF' (e2.trans (decide_eq_false c)) ?_
  obtain ⟨r, hr1, hr2, hr3⟩ := hC W
  refine ⟨_, rfl, S W, r, rfl, rfl, hr1, _, rfl, ?_⟩
  cases hx : cloV W with
  | none =>
    rw [hx] at q
    exact iteF' (by rw [hr2, hx]; rfl) (q _ ⟨dx, lm, lb, li, A⟩)
  | some o =>
    rw [hx] at q
    obtain ⟨u0, hu, ru⟩ := hr3 o hx
    rw [hu] at hr1
    refine iteT' (by rw [hr2, hx]; rfl) ?_
    refine ⟨_, rfl, p, C, dx, _, _, rfl, A.hp, SC0.cl, SC0.n_brackets, lk_B, _, .inl ⟨vb, SqL.of hvb, rfl⟩, ?_⟩
    cases hbr : s.br with
    | nil =>
      rw [hbr] at q hvm
      have : vb = [] := List.eq_nil_of_length_eq_zero (by rw [hvm.1]; rfl)
      subst this
      exact iteT (iteT ⟨_, rfl, a, _, 2, _, rfl, rfl, SqT.of ha, a2, _, rfl, a, _, 3, _, rfl, rfl, SqT.of ha, a3, rz_mk ER (rz_up A.sm q)⟩)
    | cons b r =>
      rw [hbr] at q
      have hvm' := hvm
      rw [hbr] at hvm'
      obtain ⟨ab, t1, t2, t3⟩ := hvm'.top
      have hne : vb ≠ [] := fun z => by rw [z, hbr] at hvm; have := hvm.1; simp at this
      have hem : (!!vb.isEmpty) = false := by cases vb with
        | nil => exact absurd rfl hne
        | cons x y => rfl
      have hbw : isS b.w = true := hB1 b (by rw [hbr]; exact List.mem_cons_self)
      have b1 : atI b.vs (1 : Int) = some (.str (S (wl b.w))) := by rw [← isS_v hbw]; exact atI_nat (j := 1) rfl
      refine iteF' hem ?_
      refine ⟨_, rfl, p, C, dx, _, _, rfl, A.hp, SC0.cl, SC0.n_brackets, lk_B, 1, rfl, lb, _, -1, _, rfl, rfl, SqL.of hvb, t1, ab, _, 1, _, rfl, rfl, SqT.of t3, b1, _, rfl, dC, S W, _, rfl, rfl, ⟨_, _, _, KC.at_, KC.lit, hr1, ru⟩, rfl, _, rfl, ?_⟩
      have e5 : (!decide (V.str (S (wl b.w)) = V.str (S o))) = !decide (wl b.w = o) := by rw [str_dec]
      by_cases c5 : wl b.w = o
      · have q : OutS ec C H0 p Q E (if wl b.w = o then .ok { s with br := r } else .error (.token, m.ln, m.col)) := q
        rw [if_pos c5] at q
        refine iteF' (e5.trans (by rw [decide_eq_true c5]; rfl)) ?_
        refine ⟨_, rfl, p, C, dx, _, _, rfl, A.hp, SC0.cl, SC0.n_brackets, lk_B, .inl ⟨rfl, _, SqL.of hvb⟩, lb, _, _, rfl, rfl, hvb, t2, ?_⟩
        exact q _ ⟨dx, lm, lb, li, A.brs hvb (by have := hvm'.pop; rw [List.reverse_cons, List.dropLast_concat] at this; exact this)⟩
      · have q : OutS ec C H0 p Q E (if wl b.w = o then .ok { s with br := r } else .error (.token, m.ln, m.col)) := q
        rw [if_neg c5] at q
        refine iteT' (e5.trans (by rw [decide_eq_false c5]; rfl)) ?_
        exact ⟨_, rfl, a, _, 2, _, rfl, rfl, SqT.of ha, a2, _, rfl, a, _, 3, _, rfl, rfl, SqT.of ha, a3, rz_mk ER (rz_up A.sm q)⟩
end
end D0
namespace D0
open PySem PySem.Spec PyProof.Rows L2 SX NumText
def isSg : Kd → Bool
  | .sign => true
  | _ => false
def addM (m : Mk) (s : Sc) : Sc := { s with marks := s.marks ++ [m] }
def gatherP (m : Mk) (s : Sc) : Except (Er × Nat × Nat) Sc :=
  if 120 < s.many + 1 then .error (.long, m.ln, m.col) else
  if isSg m.k = true then (matchBr m { s with many := s.many + 1 }).map (addM m) else .ok (addM m { s with many := s.many + 1 })
theorem sg_dec (k : Kd) : decide (V.str (S k.cp) = V.str (Str.ofString "sign")) = isSg k := by
  have z : Str.ofString "sign" = S (Kd.cp .sign) := by decide +kernel
  rw [z, str_dec]
  cases k <;> rfl
def spGather (ec : Er → Addr) (C : Addr) : Sp := fun vs H Q E => ∃ (H0 : Hp) (p a : Addr) (s : Sc) (m : Mk), vs = [.ref p, .ref a] ∧ H a = some (.tup m.vs) ∧ (isSg m.k = true → isS m.w = true) ∧ ScAt C H0 H p s ∧ BrOk s ∧ s.marks.length ≤ lim + 20 ∧ OutS ec C H0 p Q E (gatherP m s)
def endLine (ln : Nat) (s : Sc) : Sc := { s with marks := s.marks ++ [⟨.newline, .s [], ln, s.behind⟩], many := 0 }
def spEndLine (C : Addr) : Sp := fun vs H Q _ => ∃ (H0 : Hp) (p : Addr) (s : Sc) (ln : Nat), vs = [.ref p, .int ln] ∧ ScAt C H0 H p s ∧ s.marks.length ≤ lim + 20 ∧ ∀ H', ScAt C H0 H' p (endLine ln s) → Q .non H'
theorem no_match : ("match_bracket" : Str) ≠ fM ∧ ("match_bracket" : Str) ≠ fB ∧ ("match_bracket" : Str) ≠ fI ∧ ("match_bracket" : Str) ≠ fN ∧ ("match_bracket" : Str) ≠ fH := by decide +kernel
theorem ScA.hold {C : Addr} {H0 H : Hp} {p dx lm lb li a : Addr} {s : Sc} {t : List V} (A : ScA C H0 H p dx lm lb li s) (ha : H a = some (.tup t)) : ScA C (upd H0 a (.tup t)) H p dx lm lb li s ∧ Same H0 (upd H0 a (.tup t)) := by
  obtain ⟨vs, h1, h2⟩ := A.hm
  obtain ⟨ws, h3, h4⟩ := A.hb
  have np : p ≠ a := ne_of A.hp ha (by intro z; cases z)
  have nm : lm ≠ a := ne_of h1 ha (by intro z; cases z)
  have nb : lb ≠ a := ne_of h3 ha (by intro z; cases z)
  have ni : li ≠ a := ne_of A.hi ha (by intro z; cases z)
  refine ⟨⟨fun b u e => ?_, by rw [upd_ne np]; exact A.p0, by rw [upd_ne nm]; exact A.m0, by rw [upd_ne nb]; exact A.b0, by rw [upd_ne ni]; exact A.i0, A.nmb, A.nmi, A.nbi, A.hp, ⟨vs, h1, h2⟩, ⟨ws, h3, h4⟩, A.hi⟩, fun b u e => ?_⟩
  · by_cases z : b = a
    · rw [z, upd_same] at e; rw [z, ha]; exact e
    · rw [upd_ne z] at e; exact A.sm _ _ e
  · by_cases z : b = a
    · have := A.sm _ _ e; rw [z, ha] at this; rw [z, upd_same]; exact this
    · rw [upd_ne z]; exact e
theorem ScAt.weak {C : Addr} {H0 H0' H : Hp} {p : Addr} {s : Sc} (A : ScAt C H0' H p s) (h : Same H0 H0') : ScAt C H0 H p s := by
  obtain ⟨dx, lm, lb, li, A⟩ := A
  exact ⟨dx, lm, lb, li, ⟨h.trans A.sm, h.free A.p0, h.free A.m0, h.free A.b0, h.free A.i0, A.nmb, A.nmi, A.nbi, A.hp, A.hm, A.hb, A.hi⟩⟩
section
variable {P : Program} {w : World} {K : PySem.W.Frag} {mg : Str → Option Value} {base : Heap} {ec : Er → Addr} {C : Addr}
theorem matchBr_marks {m : Mk} {s s' : Sc} (h : matchBr m s = .ok s') : s'.marks = s.marks ∧ s'.many = s.many ∧ s'.ind = s.ind ∧ s'.behind = s.behind := by
  unfold matchBr at h
  split at h
  · cases h; exact ⟨rfl, rfl, rfl, rfl⟩
  · split at h
    · cases h; exact ⟨rfl, rfl, rfl, rfl⟩
    · split at h
      · cases h
      · split at h
        · cases h; exact ⟨rfl, rfl, rfl, rfl⟩
        · cases h
theorem ok_Scanner_gather (T : Txt K w mg) (ER : ErrT P w K mg base ec) (SC0 : ScT K mg C) (OM : OkM P w K mg base C (L2.CX P w) 3 "match_bracket" p_Scanner_match_bracket (spMatch ec C)) :
    OkM P w K mg base C (L2.CX P w) 4 "gather" p_Scanner_gather (spGather ec C) := by
  refine SC0.g_gather.okX sc_Scanner_gather (fun vs H Q E h => ?_) (fun f cdv A outer s H vs Q E hr h => ?_)
  · obtain ⟨H0, p, a, s, m, rfl, _⟩ := h; rfl
  obtain ⟨H0, p, a, s, m, rfl, ha, hw, ⟨dx, lm, lb, li, A⟩, hB, hM, q⟩ := h
  have a0 : atI m.vs (0 : Int) = some (.str (S m.k.cp)) := atI_nat (j := 0) rfl
  have a2 : atI m.vs (2 : Int) = some (.int (m.ln : Nat)) := atI_nat (j := 2) rfl
  have a3 : atI m.vs (3 : Int) = some (.int (m.col : Nat)) := atI_nat (j := 3) rfl
  refine split_at 3 (fun t => ∀ (s2 : Sc) (H2 : Hp), ScAt C H0 H2 p s2 → s2.marks.length ≤ lim + 20 → H2 a = some (.tup m.vs) → (∀ H', ScAt C H0 H' p (addM m s2) → Q .non H') →
    t { nx := fun _ H' => Q .non H', rt := Q } [some (.ref p), some (.ref a)] H2) ?_ (fun t ht hg => ?_)
  · refine ⟨_, pss_one (ps_expr (pe_bm PySem.F.plainAttrs_list PySem.F.slot_list_append PySem.F.type_list_append mt_append (pe_fld (pv 0) rfl) (pa_cons (pv 1) pa_nil))), ?_⟩
    rintro s2 H2 ⟨dx, lm, lb, li, A2⟩ hM2 ha2 q2
    obtain ⟨vs, hv, hvm⟩ := A2.hm
    refine ⟨_, rfl, p, C, dx, _, _, rfl, A2.hp, SC0.cl, SC0.n_marks, lk_M, .inl ⟨rfl, _, SqL.of hv⟩, _, rfl, lm, _, _, rfl, rfl, hv, ?_, ?_⟩
    · rw [hvm.1]
      have := lim_line
      omega
    · exact q2 _ ⟨dx, lm, lb, li, A2.mark hv ha2⟩
  · refine ⟨_, pss_cons (ps_fldaug (pv 0) pe_int ip_add) (pss_cons (ps_if (pt_cmpR op_gt (pe_fld (pv 0) rfl) (pe_gI T.c_TOKEN_LIMIT) (nomark _)) (pss_one (ps_raise rfl (takes_of rfl rfl rfl rfl) (pmk_err ER .long hr (pa_cons (pe_ix ix_tup (pv 1) pe_int (fun _ _ => rfl)) (pa_cons (pe_ix ix_tup (pv 1) pe_int (fun _ _ => rfl)) pa_nil))))) pss_nil)
      (pss_cons (ps_if (pt_cmpR op_eq (pe_ix ix_tup (pv 1) pe_int (fun _ _ => rfl)) pe_str (nomark _)) (pss_one (ps_expr (pmethE OM SC0.cl hr (passes_call (takes_of rfl rfl rfl rfl) (fun _ _ _ _ h => h)) (pv 0) (pa_cons (pv 1) pa_nil)))) pss_nil) ht)), ?_⟩
    have A1 := A.flds (n := s.many + 1) (b := s.behind) (fs := putF fN (.int ((s.many : Int) + 1)) (pf lm lb li s.many s.behind)) (pf_N _)
    have ha1 : upd H p (.ins C dx (putF fN (.int ((s.many : Int) + 1)) (pf lm lb li s.many s.behind))) a = some (.tup m.vs) := keepI A.hp _ _ ha
    refine ⟨_, rfl, p, C, dx, _, _, rfl, A.hp, SC0.cl, SC0.n_many, lk_N, _, _, rfl, rfl, dx, _, A.hp, pf_len, ?_⟩
    have e1 : decide ((120 : Int) < ((s.many + 1 : Nat) : Int)) = decide (120 < s.many + 1) := lt_dec (a := 120)
    refine ⟨_, rfl, p, C, dx, _, _, rfl, A1.hp, SC0.cl, SC0.n_many, lk_N, _, _, rfl, rfl, _, rfl, ?_⟩
    unfold gatherP at q
    by_cases c : 120 < s.many + 1
    · rw [if_pos c] at q
      refine iteT' (e1.trans (decide_eq_true c)) ?_
      exact ⟨_, rfl, a, _, 2, _, rfl, rfl, SqT.of ha1, a2, _, rfl, a, _, 3, _, rfl, rfl, SqT.of ha1, a3, rz_mk ER (rz_up A1.sm q)⟩
    rw [if_neg c] at q
    refine iteF' (e1.trans (decide_eq_false c)) ?_
    refine ⟨_, rfl, a, _, 0, _, rfl, rfl, SqT.of ha1, a0, rfl, _, rfl, ?_⟩
    have e2 := sg_dec m.k
    cases hk : isSg m.k with
    | true =>
      rw [hk, if_pos rfl] at q
      refine iteT' (e2.trans hk) ?_
      obtain ⟨A2, sm2⟩ := A1.hold ha1
      refine ⟨_, rfl, p, dx, _, rfl, A1.hp, pf_no no_match, _, rfl, _, p, a, _, m, rfl, ha1, hw hk, ⟨dx, lm, lb, li, A2⟩, hB, ?_⟩
      cases hr1 : matchBr m { s with many := s.many + 1 } with
      | error e => rw [hr1] at q; exact rz_up sm2 q
      | ok s2 =>
        rw [hr1] at q
        intro H2 A3
        have A3w := A3.weak sm2
        obtain ⟨_, _, _, _, A3'⟩ := A3
        exact hg s2 H2 A3w (by rw [(matchBr_marks hr1).1]; exact hM) (A3'.sm _ _ upd_same) q
    | false =>
      rw [hk, if_neg Bool.false_ne_true] at q
      exact iteF' (e2.trans hk) (hg _ _ ⟨dx, lm, lb, li, A1⟩ hM ha1 q)
theorem ok_Scanner_end_line (SC0 : ScT K mg C) : OkM P w K mg base C CX0 1 "end_line" p_Scanner_end_line (spEndLine C) := by
  refine SC0.g_end_line.ok sc_Scanner_end_line (fun vs H Q E h => ?_) (fun f cdv A outer s H vs Q E hr h => ?_)
  · obtain ⟨H0, p, s, ln, rfl, _⟩ := h; rfl
  obtain ⟨H0, p, s, ln, rfl, ⟨dx, lm, lb, li, A⟩, hM, q⟩ := h
  have zk : Str.ofString "newline" = S (Kd.cp .newline) ∧ Str.ofString "" = S [] := by decide +kernel
  refine ⟨_, (pss_cons (ps_expr (pe_bm PySem.F.plainAttrs_list PySem.F.slot_list_append PySem.F.type_list_append mt_append (pe_fld (pv 0) rfl) (pa_cons (pe_tup (pa_cons pe_str (pa_cons pe_str (pa_cons (pv 1) (pa_cons (pe_fld (pv 0) rfl) pa_nil))))) pa_nil)))
      (pss_one (ps_fld (pv 0) pe_int rfl))), ?_⟩
  obtain ⟨vs, hv, hvm⟩ := A.hm
  refine ⟨_, rfl, p, C, dx, _, _, rfl, A.hp, SC0.cl, SC0.n_marks, lk_M, .inl ⟨rfl, _, SqL.of hv⟩, _, rfl, _, rfl, p, C, dx, _, _, rfl, A.hp, SC0.cl, SC0.n_behind, lk_H, four, fun u hu => ?_⟩
  have A2 := A.fresh (o := .tup [.str (Str.ofString "newline"), .str (Str.ofString ""), .int ln, .int s.behind]) hu
  obtain ⟨vs', hv', hvm'⟩ := A2.hm
  refine ⟨lm, _, _, rfl, rfl, hv', ?_, ?_⟩
  · rw [hvm'.1]
    have := lim_line
    omega
  have A3 := A2.mark (m := ⟨.newline, .s [], ln, s.behind⟩) hv' (by rw [upd_same, zk.1, zk.2]; rfl)
  refine ⟨_, rfl, p, C, dx, _, rfl, A3.hp, SC0.cl, SC0.n_many, pf_len, ?_⟩
  exact q _ ⟨dx, lm, lb, li, A3.flds (n := 0) (b := s.behind) (pf_N 0)⟩
end
end D0
namespace D0
open PySem PySem.Spec PyProof.Rows L2 SX NumText
/-! ### what a token and a line do to the state -/
theorem scanT_ok {q st : Nat} : ∀ {e : Bool} {l : List Nat} {at_ : Nat} {acc : List Nat} {t : Tr}, scanT q st e l at_ acc = .ok t → at_ + 1 ≤ t.2.2 ∧ t.2.2 ≤ at_ + l.length ∧ t.1 = .text
  | e, [], at_, acc, t, h => by cases e <;> (unfold scanT at h; cases h)
  | true, c :: r, at_, acc, t, h => by
    unfold scanT at h
    split at h
    · cases h
    · have := scanT_ok h; simp only [List.length_cons]; exact ⟨by omega, by omega, this.2.2⟩
  | false, c :: r, at_, acc, t, h => by
    unfold scanT at h
    split at h
    · cases h; simp only [List.length_cons]; exact ⟨Nat.le_refl _, by omega, by first | rfl | trivial⟩
    · split at h
      · have := scanT_ok h; simp only [List.length_cons]; exact ⟨by omega, by omega, this.2.2⟩
      · have := scanT_ok h; simp only [List.length_cons]; exact ⟨by omega, by omega, this.2.2⟩
theorem twl_gt {f : Nat → Bool} {l : List Nat} {i : Nat} (hi : i < l.length) (h : f l[i] = true) : i + 1 ≤ twl f l i := by
  have g : l[i]? = some l[i] := List.getElem?_eq_getElem hi
  rw [twl_step g h]
  exact twl_ge l (i + 1)
theorem scanTok_ok {l : List Nat} {i : Nat} {t : Tr} (hi : i < l.length) (h : scanTok l i = .ok t) : i + 1 ≤ t.2.2 ∧ t.2.2 ≤ l.length ∧ (isSg t.1 = true → isS t.2.1 = true) := by
  have hd : (l.drop i).headD 0 = l[i] := by rw [List.drop_eq_getElem_cons hi]; rfl
  unfold scanTok at h
  rw [hd] at h
  by_cases c1 : letc l[i] = true
  · rw [if_pos c1] at h
    unfold scanName at h
    split at h
    · cases h
    · cases h
      refine ⟨twl_gt hi (by unfold namc; rw [c1]; rfl), twl_le (Nat.le_of_lt hi), fun z => ?_⟩
      rfl
  rw [if_neg c1] at h
  by_cases c2 : isDig l[i] = true
  · rw [if_pos c2] at h
    unfold scanNumber at h
    split at h
    · cases h
    · cases h
      exact ⟨twl_gt hi c2, twl_le (Nat.le_of_lt hi), fun z => by cases z⟩
  rw [if_neg c2] at h
  split at h
  · unfold scanText at h
    have := scanT_ok h
    rw [List.length_drop] at this
    exact ⟨by omega, by omega, fun z => by rw [this.2.2] at z; cases z⟩
  · unfold scanSign at h
    cases hf : SG.find? (fun s => decide ((l.drop i).take s.length = s)) with
    | none => rw [hf] at h; cases h
    | some s =>
      rw [hf] at h
      cases h
      have hm := List.mem_of_find?_eq_some hf
      have hp' := List.find?_some hf
      have hp := of_decide_eq_true (show decide ((l.drop i).take s.length = s) = true from hp')
      have hs := (SG_len s hm).1
      have hl := congrArg List.length hp
      rw [List.length_take, List.length_drop] at hl
      have : 0 < s.length := List.length_pos_iff.mpr hs
      exact ⟨by show i + 1 ≤ i + s.length; omega, by show i + s.length ≤ l.length; omega, fun _ => rfl⟩
structure SI (s : Sc) : Prop where
  ind : Ind s.ind
  il : s.ind.length ≤ 11
  brw : ∀ b ∈ s.br, isS b.w = true
  brl : s.br.length ≤ s.many
  my : s.many ≤ 120
theorem popW_suf (n : Nat) : ∀ l : List Nat, popW n l <:+ l
  | [] => List.suffix_refl _
  | t :: r => by
    unfold popW
    split
    · exact (popW_suf n r).trans (List.suffix_cons t r)
    · exact List.suffix_refl _
theorem Ind.pop {n : Nat} : ∀ {l : List Nat}, Ind l → Ind (popW n l)
  | [], h => h
  | t :: r, h => by
    unfold popW
    split
    · rename_i c
      exact Ind.pop (h.tail (by omega))
    · exact h
theorem finish_ok {n ln col : Nat} {s s' : Sc} (h : finish n ln col s = .ok s') (hI : Ind s.ind) : Ind s'.ind ∧ s'.ind.length ≤ s.ind.length ∧ s'.marks.length ≤ s.marks.length + s.ind.length ∧ s'.br = s.br ∧ s'.many = s.many ∧ s'.behind = s.behind := by
  unfold finish at h
  split at h
  · cases h
  · cases h
    refine ⟨hI.pop, (popW_suf n s.ind).length_le, ?_, rfl, rfl, rfl⟩
    show (s.marks ++ List.replicate _ _).length ≤ _
    rw [List.length_append, List.length_replicate]; omega
theorem begin_ok {ln col : Nat} {s s' : Sc} (h : beginLine ln col s = .ok s') (hs : SI s) : SI s' ∧ s'.marks.length ≤ s.marks.length + 13 ∧ s'.br = s.br ∧ s'.many = s.many ∧ s'.behind = s.behind := by
  have hi := hs.il
  unfold beginLine at h
  split at h
  · cases h
  split at h
  · split at h
    · cases h
    · rename_i c1 c2 c3
      have hI2 : Ind ((col - 1) :: s.ind) := by
        obtain ⟨t0, r0, e0⟩ : ∃ t0 r0, s.ind = t0 :: r0 := by
          cases h : s.ind with
          | nil => exact absurd h hs.ind.ne
          | cons a b => exact ⟨a, b, rfl⟩
        exact ⟨by rw [e0, List.getLast?_cons_cons, ← e0]; exact hs.ind.1, by simp; omega⟩
      obtain ⟨h1, h2, h3, h4, h5, h6⟩ := finish_ok h hI2
      have h2 : s'.ind.length ≤ s.ind.length + 1 := h2
      have h3 : s'.marks.length ≤ (s.marks ++ [_]).length + (s.ind.length + 1) := h3
      have h4 : s'.br = s.br := h4
      have h5 : s'.many = s.many := h5
      rw [List.length_append] at h3
      simp only [List.length_cons, List.length_nil] at h3
      exact ⟨⟨h1, by omega, by rw [h4]; exact hs.brw, by rw [h4, h5]; exact hs.brl, by rw [h5]; exact hs.my⟩, by omega, h4, h5, h6⟩
  · obtain ⟨h1, h2, h3, h4, h5, h6⟩ := finish_ok h hs.ind
    exact ⟨⟨h1, by omega, by rw [h4]; exact hs.brw, by rw [h4, h5]; exact hs.brl, by rw [h5]; exact hs.my⟩, by omega, h4, h5, h6⟩
theorem matchBr_br {m : Mk} {s s' : Sc} (h : matchBr m s = .ok s') (hm : isS m.w = true) (hb : ∀ b ∈ s.br, isS b.w = true) : (∀ b ∈ s'.br, isS b.w = true) ∧ s'.br.length ≤ s.br.length + 1 := by
  unfold matchBr at h
  split at h
  · cases h; exact ⟨fun b hb' => by rcases List.mem_cons.mp hb' with rfl | h; exact hm; exact hb b h, Nat.le_refl _⟩
  · split at h
    · cases h; exact ⟨hb, by omega⟩
    · split at h
      · cases h
      · rename_i heq
        split at h
        · cases h
          rw [heq] at hb
          exact ⟨fun b hb' => hb b (List.mem_cons_of_mem _ hb'), by rw [heq]; simp; omega⟩
        · cases h
theorem gather_ok {m : Mk} {s s' : Sc} (h : gatherP m s = .ok s') (hs : SI s) (hm : isSg m.k = true → isS m.w = true) : SI s' ∧ s'.marks.length = s.marks.length + 1 ∧ s'.behind = s.behind := by
  unfold gatherP at h
  split at h
  · cases h
  rename_i c
  split at h
  · rename_i hk
    cases hr : matchBr m { s with many := s.many + 1 } with
    | error e => rw [hr] at h; cases h
    | ok s2 =>
      rw [hr] at h
      cases h
      obtain ⟨e1, e2, e3, e4⟩ := matchBr_marks hr
      obtain ⟨b1, b2⟩ := matchBr_br hr (hm hk) hs.brw
      have e2 : s2.many = s.many + 1 := e2
      have e3 : s2.ind = s.ind := e3
      have e1 : s2.marks = s.marks := e1
      have b2 : s2.br.length ≤ s.br.length + 1 := b2
      have := hs.brl
      refine ⟨⟨by show Ind s2.ind; rw [e3]; exact hs.ind, by show s2.ind.length ≤ 11; rw [e3]; exact hs.il, b1, by show s2.br.length ≤ s2.many; omega, by show s2.many ≤ 120; omega⟩, ?_, e4⟩
      show (s2.marks ++ [m]).length = _
      rw [e1, List.length_append]; rfl
  · cases h
    have := hs.brl
    refine ⟨⟨hs.ind, hs.il, hs.brw, by show s.br.length ≤ s.many + 1; omega, by show s.many + 1 ≤ 120; omega⟩, ?_, rfl⟩
    show (s.marks ++ [m]).length = _
    rw [List.length_append]; rfl
end D0
namespace D0
open PySem PySem.Spec PyProof.Rows L2 SX NumText
theorem ScA.same {C : Addr} {H0 H H' : Hp} {p dx lm lb li : Addr} {s : Sc} (A : ScA C H0 H p dx lm lb li s) (k : Same H H') : ScA C H0 H' p dx lm lb li s := by
  obtain ⟨vs, h1, h2⟩ := A.hm
  obtain ⟨ws, h3, h4⟩ := A.hb
  exact ⟨A.sm.trans k, A.p0, A.m0, A.b0, A.i0, A.nmb, A.nmi, A.nbi, k _ _ A.hp, ⟨vs, k _ _ h1, h2.mono fun a t e => k _ _ e⟩, ⟨ws, k _ _ h3, h4.mono fun a t e => k _ _ e⟩, k _ _ A.hi⟩
abbrev Er3 := Er × Nat × Nat
def liftE (ln : Nat) : Except Nat Tr → Except Er3 Tr
  | .ok t => .ok t
  | .error c => .error (.token, ln, c)
def beg (ln at_ : Nat) (s : Sc) : Except Er3 Sc := if s.many = 0 then beginLine ln (at_ + 1) s else .ok s
def tokS (l : List Nat) (ln at_ : Nat) (s : Sc) : Except Er3 (Nat × Sc) :=
  (liftE ln (scanTok l at_)).bind fun t => (gatherP ⟨t.1, t.2.1, ln, at_ + 1⟩ s).map fun s2 => (twl spc l t.2.2, { s2 with behind := t.2.2 + 1 })
def stepR (l : List Nat) (ln at_ : Nat) (s : Sc) : Except Er3 (Nat × Sc) := (beg ln at_ s).bind (tokS l ln at_)
/-- is there a token at at -/
def here (l : List Nat) (at_ : Nat) : Bool := decide (at_ < l.length) && !decide ((l.drop at_).headD 0 = 35)
def runRow (l : List Nat) (ln : Nat) : Nat → Nat → Sc → Except Er3 Sc
  | 0, _, s => .ok s
  | f + 1, at_, s => if here l at_ = true then (stepR l ln at_ s).bind fun r => runRow l ln f r.1 r.2 else .ok s
def fin (ln : Nat) (s : Sc) : Sc := if 0 < s.many ∧ s.br = [] then endLine ln s else s
def scanRow (l : List Nat) (ln : Nat) (s : Sc) : Except Er3 Sc := (runRow l ln (l.length + 1) (twl spc l 0) s).map (fin ln)
theorem runRow_stop {l : List Nat} {ln : Nat} {f at_ : Nat} {s : Sc} (h : here l at_ = false) : runRow l ln f at_ s = .ok s := by
  cases f with
  | zero => rfl
  | succ f => unfold runRow; rw [h]; rfl
theorem tokS_ok {l : List Nat} {ln at_ : Nat} {s : Sc} {r : Nat × Sc} (hat : at_ < l.length) (hs : SI s) (h : tokS l ln at_ s = .ok r) : at_ + 1 ≤ r.1 ∧ r.1 ≤ l.length ∧ SI r.2 ∧ r.2.marks.length = s.marks.length + 1 := by
  unfold tokS at h
  cases ht : scanTok l at_ with
  | error c => rw [ht] at h; cases h
  | ok t =>
    rw [ht] at h
    obtain ⟨h1, h2, h3⟩ := scanTok_ok hat ht
    have h : (gatherP ⟨t.1, t.2.1, ln, at_ + 1⟩ s).map (fun s2 => (twl spc l t.2.2, { s2 with behind := t.2.2 + 1 })) = .ok r := h
    cases hg : gatherP ⟨t.1, t.2.1, ln, at_ + 1⟩ s with
    | error e => rw [hg] at h; cases h
    | ok s2 =>
      rw [hg] at h
      cases h
      obtain ⟨g1, g2, g3⟩ := gather_ok hg hs h3
      have := twl_ge (f := spc) l t.2.2
      exact ⟨by show at_ + 1 ≤ twl spc l t.2.2; omega, twl_le h2, ⟨g1.ind, g1.il, g1.brw, g1.brl, g1.my⟩, g2⟩
def wb : Stmt → List Stmt
  | .While _ b _ _ => b
  | _ => []
def spScanRow (ec : Er → Addr) (C : Addr) : Sp := fun vs H Q E => ∃ (H0 : Hp) (p : Addr) (s : Sc) (l : List Nat) (ln : Nat), vs = [.ref p, .str (S l), .int ln] ∧ l.length ≤ 120 ∧ ScAt C H0 H p s ∧ SI s ∧ s.marks.length + 2000 ≤ lim ∧ OutS ec C H0 p Q E (scanRow l ln s)
theorem no_names : (("begin_line" : Str) ≠ fM ∧ ("begin_line" : Str) ≠ fB ∧ ("begin_line" : Str) ≠ fI ∧ ("begin_line" : Str) ≠ fN ∧ ("begin_line" : Str) ≠ fH) ∧
  (("gather" : Str) ≠ fM ∧ ("gather" : Str) ≠ fB ∧ ("gather" : Str) ≠ fI ∧ ("gather" : Str) ≠ fN ∧ ("gather" : Str) ≠ fH) ∧
  (("end_line" : Str) ≠ fM ∧ ("end_line" : Str) ≠ fB ∧ ("end_line" : Str) ≠ fI ∧ ("end_line" : Str) ≠ fN ∧ ("end_line" : Str) ≠ fH) ∧
  (("scan_row" : Str) ≠ fM ∧ ("scan_row" : Str) ≠ fB ∧ ("scan_row" : Str) ≠ fI ∧ ("scan_row" : Str) ≠ fN ∧ ("scan_row" : Str) ≠ fH) ∧
  (("end_text" : Str) ≠ fM ∧ ("end_text" : Str) ≠ fB ∧ ("end_text" : Str) ≠ fI ∧ ("end_text" : Str) ≠ fN ∧ ("end_text" : Str) ≠ fH) := by decide +kernel
section
variable {P : Program} {w : World} {K : PySem.W.Frag} {mg : Str → Option Value} {base : Heap} {ec : Er → Addr} {C : Addr}
theorem ok_Scanner_scan_row (T : Txt K w mg) (ER : ErrT P w K mg base ec) (SC0 : ScT K mg C) (Os : OkD P w K mg base CX0 1 "spaces_end" p_spaces_end (spEnd spc))
    (Ot : OkD P w K mg base (L2.CX P w) 4 "scan_token" p_scan_token (spScan ec scanTok fun _ _ => True))
    (OB : OkM P w K mg base C (L2.CX P w) 3 "begin_line" p_Scanner_begin_line (spBegin ec C))
    (OG : OkM P w K mg base C (L2.CX P w) 4 "gather" p_Scanner_gather (spGather ec C))
    (OE : OkM P w K mg base C CX0 1 "end_line" p_Scanner_end_line (spEndLine C)) :
    OkM P w K mg base C (L2.CX P w) 5 "scan_row" p_Scanner_scan_row (spScanRow ec C) := by
  refine SC0.g_scan_row.okX sc_Scanner_scan_row (fun vs H Q E h => ?_) (fun f cdv A outer sh H vs Q E hr h => ?_)
  · obtain ⟨H0, p, s, l, ln, rfl, _⟩ := h; rfl
  obtain ⟨H0, p, s, l, ln, rfl, hl, hA, hs, hM, q⟩ := h
  have hl' : l.length ≤ 1000000 := by omega
  have limv : lim = 12000000 := rfl
  unfold scanRow at q
  generalize hR0 : runRow l ln (l.length + 1) (twl spc l 0) s = R0 at q
  -- what follows the begin of a line
  obtain ⟨t, ht, hg⟩ : ∃ t, PSs (cxOf (L2.CX P w) P w K mg base n_Scanner_scan_row "Scanner.scan_row" (defScope s_Scanner_scan_row) f cdv A outer sh H E) (List.drop 1 (wb ((defBody s_Scanner_scan_row).getD 1 (.Pass ⟨0, 0, 0, 0⟩)))) t ∧
      ∀ (D : Ends) (at_ : Nat) (s1 : Sc) (H1 : Hp) (y4 y5 y6 : Option V), at_ < l.length → ScAt C H0 H1 p s1 → SI s1 → s1.marks.length ≤ lim →
        (∀ e, tokS l ln at_ s1 = .error e → Rz ec e.1 (e.2.1 : Nat) (e.2.2 : Nat) H0 E) →
        (∀ r H2 z4 z5 z6, tokS l ln at_ s1 = .ok r → ScAt C H0 H2 p r.2 → D.nx [some (.ref p), some (.str (S l)), some (.int ln), some (.int (r.1 : Nat)), z4, z5, z6] H2) →
        t D [some (.ref p), some (.str (S l)), some (.int ln), some (.int at_), y4, y5, y6] H1 := by
    refine ⟨_, (pss_cons (ps_asg (pcallE Ot hr (passes_call (takes_of rfl rfl rfl rfl) (fun _ _ _ _ h => h)) (pa_cons (pv 1) (pa_cons (pv 3) (pa_cons (pv 2) pa_nil)))) (pg_tup (by rfl) (pgs_cons (pg_name (i := 4) sc_Scanner_scan_row.nd rfl (Or.inl rfl)) (pgs_cons (pg_name (i := 5) sc_Scanner_scan_row.nd rfl (Or.inl rfl)) (pgs_cons (pg_name (i := 6) sc_Scanner_scan_row.nd rfl (Or.inl rfl)) pgs_nil)))))
      (pss_cons (ps_expr (pmethE OG SC0.cl hr (passes_call (takes_of rfl rfl rfl rfl) (fun _ _ _ _ h => h)) (pv 0) (pa_cons (pe_tup (pa_cons (pv 4) (pa_cons (pv 5) (pa_cons (pv 2) (pa_cons (pe_op op_add (pv 3) pe_int) pa_nil))))) pa_nil)))
      (pss_cons (ps_fld (pv 0) (pe_op op_add (pv 6) pe_int) rfl)
      (pss_one (ps_set (i := 3) sc_Scanner_scan_row.nd rfl (.inl rfl) (pcall Os hr (pa_cons (pv 1) (pa_cons (pv 6) pa_nil)))))))), ?_⟩
    rintro D at_ s1 H1 y4 y5 y6 hat ⟨dx, lm, lb, li, A1⟩ hs1 hM1 hE hO
    refine ⟨_, rfl, _, rfl, _, rfl, l, at_, (ln : Int), rfl, hl', hat, trivial, ?_⟩
    unfold tokS at hE hO
    cases hst : scanTok l at_ with
    | error c =>
      rw [hst] at hE
      exact rz_up A1.sm (hE _ rfl)
    | ok tr =>
      obtain ⟨k, wd, j⟩ := tr
      rw [hst] at hE hO
      obtain ⟨hj1, hj2, hsg⟩ := scanTok_ok hat hst
      intro H2 q2 sm2 hq2
      have A2 := A1.same sm2
      refine ⟨q2, _, rfl, SqT.of hq2, rfl, _, _, rfl, _, _, rfl, _, [], rfl, rfl, ?_⟩
      refine ⟨_, rfl, p, dx, _, rfl, A2.hp, pf_no no_names.2.1, _, rfl, _, rfl, _, rfl, _, rfl, _, _, rfl, rfl, four, fun u hu => ?_⟩
      have A3 := A2.fresh (o := .tup [.str (S k.cp), wd.v, .int (ln : Nat), .int ((at_ : Int) + 1)]) hu
      refine ⟨H0, p, u, s1, ⟨k, wd, ln, at_ + 1⟩, rfl, upd_same, hsg, ⟨dx, lm, lb, li, A3⟩, ⟨hs1.brw, by have := hs1.brl; have := hs1.my; omega⟩, by omega, ?_⟩
      have hE' : ∀ e, gatherP ⟨k, wd, ln, at_ + 1⟩ s1 = .error e → Rz ec e.1 (e.2.1 : Nat) (e.2.2 : Nat) H0 E := fun e he => hE e (by show (gatherP ⟨k, wd, ln, at_ + 1⟩ s1).map _ = _; rw [he]; rfl)
      cases hgp : gatherP ⟨k, wd, ln, at_ + 1⟩ s1 with
      | error e => exact hE' e hgp
      | ok s2 =>
        rintro H3 ⟨dx', lm', lb', li', A4⟩
        refine ⟨_, rfl, _, _, rfl, rfl, ?_⟩
        refine ⟨_, rfl, p, C, dx', _, rfl, A4.hp, SC0.cl, SC0.n_behind, pf_len, ?_⟩
        have A5 := A4.flds (n := s2.many) (b := j + 1) (fs := putF fH (.int ((j : Int) + 1)) (pf lm' lb' li' s2.many s2.behind)) (pf_H _)
        refine ⟨_, rfl, _, rfl, l, j, rfl, hl', hj2, ?_⟩
        exact hO (twl spc l j, { s2 with behind := j + 1 }) _ _ _ _ (by show (gatherP ⟨k, wd, ln, at_ + 1⟩ s1).map _ = _; rw [hgp]; rfl) ⟨_, _, _, _, A5⟩
  have zh : Str.ofString "#" = S [35] := by decide +kernel
  refine split_at 2 (fun t => ∀ (s2 : Sc) (H2 : Hp) (y3 y4 y5 y6 : Option V), ScAt C H0 H2 p s2 → SI s2 → s2.marks.length ≤ lim → OutS ec C H0 p Q E (.ok (fin ln s2)) →
    t { nx := fun _ H' => Q .non H', rt := Q } [some (.ref p), some (.str (S l)), some (.int ln), y3, y4, y5, y6] H2) ?_ (fun t2 ht2 hg2 => ?_)
  · refine ⟨_, pss_one (ps_if (PW.pt (pw_and (pt_cmpR op_gt (pe_fld (pv 0) rfl) pe_int (nomark _)) (pw_and1 (pt_not (pt_truth (pe_fld (pv 0) rfl) (fun _ => rfl)))))) (pss_one (ps_expr (pmethE OE SC0.cl hr pass0 (pv 0) (pa_cons (pv 2) pa_nil)))) pss_nil), ?_⟩
    rintro s2 H2 y3 y4 y5 y6 ⟨dx, lm, lb, li, A2⟩ hs2 hM2 q2
    obtain ⟨vb, hvb, hvm⟩ := A2.hb
    refine ⟨_, rfl, p, C, dx, _, _, rfl, A2.hp, SC0.cl, SC0.n_many, lk_N, _, _, rfl, rfl, _, rfl, iteD (b := decide ((0 : Int) < (s2.many : Int))) (fun c => ?_) (fun c => ?_)⟩
    · have c' : 0 < s2.many := by have := of_decide_eq_true c; omega
      refine ⟨_, rfl, p, C, dx, _, _, rfl, A2.hp, SC0.cl, SC0.n_brackets, lk_B, _, .inl ⟨vb, SqL.of hvb, rfl⟩, ?_⟩
      cases hvv : vb with
      | nil =>
        have hm0 : s2.br = [] := by
          have := hvm.1
          rw [hvv, List.length_reverse] at this
          exact List.eq_nil_of_length_eq_zero this.symm
        refine iteT ⟨_, rfl, p, dx, _, rfl, A2.hp, pf_no no_names.2.2.1, _, rfl, H0, p, s2, ln, rfl, ⟨dx, lm, lb, li, A2⟩, by omega, ?_⟩
        have e : fin ln s2 = endLine ln s2 := by unfold fin; rw [if_pos ⟨c', hm0⟩]
        rw [← e]
        exact q2
      | cons x y =>
        have hm0 : s2.br ≠ [] := fun z => by
          have := hvm.1
          rw [hvv, z] at this
          simp at this
        have e : fin ln s2 = s2 := by unfold fin; rw [if_neg (fun z => hm0 z.2)]
        rw [e] at q2
        exact iteF (q2 _ ⟨dx, lm, lb, li, A2⟩)
    · have c' : ¬ 0 < s2.many := by have := of_decide_eq_false c; omega
      have e : fin ln s2 = s2 := by unfold fin; rw [if_neg (fun z => c' z.1)]
      rw [e] at q2
      exact iteF (q2 _ ⟨dx, lm, lb, li, A2⟩)
  refine ⟨_, pss_cons (ps_set (i := 3) sc_Scanner_scan_row.nd rfl (.inl rfl) (pcall Os hr (pa_cons (pv 1) (pa_cons pe_int pa_nil)))) (pss_cons
    (ps_while (passes_of rfl) (PW.pt (pw_and (pt_cmpR op_lt (pv 3) (pe_callB call_len_str (by rfl) T.z_len PySem.boot_len (pa_cons (pv 1) pa_nil)) (nomark _)) (pw_and1 (pt_cmpR op_ne (pe_ix ix_str (pv 1) (pv 3) (fun _ _ => rfl)) pe_str (nomark _)))))
      (pss_cons (ps_if (pt_cmpR op_eq (pe_fld (pv 0) rfl) pe_int (nomark _)) (pss_one (ps_expr (pmethE OB SC0.cl hr (passes_call (takes_of rfl rfl rfl rfl) (fun _ _ _ _ h => h)) (pv 0) (pa_cons (pv 2) (pa_cons (pe_op op_add (pv 3) pe_int) pa_nil))))) pss_nil) ht)) ht2), ?_⟩
  refine ⟨_, rfl, l, 0, rfl, hl', Nat.zero_le _, ?_⟩
  have h0l := twl_le (f := spc) (l := l) (i := 0) (Nat.zero_le _)
  refine ⟨fun m σ H' => ∃ (at_ : Nat) (s1 : Sc) (y4 y5 y6 : Option V), σ = [some (.ref p), some (.str (S l)), some (.int ln), some (.int at_), y4, y5, y6] ∧ m + at_ ≥ l.length + 1 ∧ at_ ≤ l.length ∧ ScAt C H0 H' p s1 ∧ SI s1 ∧
      s1.marks.length ≤ s.marks.length + 14 * at_ ∧ R0 = runRow l ln m at_ s1,
    ⟨l.length + 1, twl spc l 0, s, none, none, none, rfl, by omega, h0l, hA, hs, by omega, hR0.symm⟩, ?_⟩
  rintro m σ H' ⟨at_, s1, y4, y5, y6, rfl, hm, hat, ⟨dx, lm, lb, li, A1⟩, hs1, hM1, he⟩
  have e2 : decide ((at_ : Int) < ((S l).length : Int)) = decide (at_ < l.length) := by rw [S_len]; exact lt_dec
  have stop : here l at_ = false → _ := fun hh => hg2 s1 H' (some (.int at_)) y4 y5 y6 ⟨dx, lm, lb, li, A1⟩ hs1 (by omega) (by rw [he, runRow_stop hh] at q; exact q)
  refine ⟨_, rfl, _, rfl, _, rfl, S_line hl', _, _, rfl, rfl, _, rfl, iteD (b := decide ((at_ : Int) < ((S l).length : Int))) (fun c => ?_) (fun c => ?_)⟩
  · rw [e2] at c
    have hlt : at_ < l.length := of_decide_eq_true c
    have ga : l[at_]? = some l[at_] := List.getElem?_eq_getElem hlt
    have hd : (l.drop at_).headD 0 = l[at_] := by rw [List.drop_eq_getElem_cons hlt]; rfl
    refine ⟨_, rfl, _, rfl, S l, at_, _, rfl, rfl, S_line hl', at_S ga, rfl, _, rfl, ?_⟩
    have e3 : (!decide (V.str (S [l[at_]]) = V.str (Str.ofString "#"))) = here l at_ := by
      unfold here
      rw [zh, one_dec, hd, decide_eq_true hlt, Bool.true_and]
    cases hh : here l at_ with
    | false => exact iteF' (e3.trans hh) (stop hh)
    | true =>
      refine iteT' (e3.trans hh) ?_
      refine ⟨_, fun _ _ h => h, ?_⟩
      obtain ⟨m', rfl⟩ : ∃ m', m = m' + 1 := ⟨m - 1, by omega⟩
      unfold runRow at he
      rw [hh, if_pos rfl] at he
      have errs : ∀ s1', beg ln at_ s1 = .ok s1' → ∀ e, tokS l ln at_ s1' = .error e → Rz ec e.1 (e.2.1 : Nat) (e.2.2 : Nat) H0 E := fun s1' hb e ht' => by
        have h1 : stepR l ln at_ s1 = .error e := by unfold stepR; rw [hb]; exact ht'
        rw [h1] at he
        rw [he] at q
        exact q
      have oks : ∀ (s1' : Sc) (r : Nat × Sc) (H2 : Hp) (z4 z5 z6 : Option V), beg ln at_ s1 = .ok s1' → SI s1' → s1'.marks.length ≤ s.marks.length + 14 * at_ + 13 → tokS l ln at_ s1' = .ok r → ScAt C H0 H2 p r.2 →
          ∃ m'', m'' < m' + 1 ∧ ∃ (at2 : Nat) (s2 : Sc) (y4 y5 y6 : Option V), [some (.ref p), some (.str (S l)), some (.int ln), some (.int (r.1 : Nat)), z4, z5, z6] = [some (.ref p), some (.str (S l)), some (.int ln), some (.int at2), y4, y5, y6] ∧ m'' + at2 ≥ l.length + 1 ∧ at2 ≤ l.length ∧ ScAt C H0 H2 p s2 ∧ SI s2 ∧
            s2.marks.length ≤ s.marks.length + 14 * at2 ∧ R0 = runRow l ln m'' at2 s2 := fun s1' r H2 z4 z5 z6 hb hs1' hm1 ht' hA2 => by
        obtain ⟨h1, h2, h3, h4⟩ := tokS_ok hlt hs1' ht'
        refine ⟨m', Nat.lt_succ_self _, r.1, r.2, z4, z5, z6, rfl, by omega, h2, hA2, h3, by omega, ?_⟩
        rw [he]
        unfold stepR
        rw [hb]
        show (tokS l ln at_ s1').bind _ = _
        rw [ht']
        rfl
      refine ⟨_, rfl, p, C, dx, _, _, rfl, A1.hp, SC0.cl, SC0.n_many, lk_N, rfl, _, rfl, ?_⟩
      have e4 : decide (V.int (s1.many : Int) = V.int 0) = decide (s1.many = 0) := int_dec (b := 0)
      by_cases c0 : s1.many = 0
      · refine iteT' (e4.trans (decide_eq_true c0)) ?_
        have hbeg : beg ln at_ s1 = beginLine ln (at_ + 1) s1 := by unfold beg; rw [if_pos c0]
        refine ⟨_, rfl, p, dx, _, rfl, A1.hp, pf_no no_names.1, _, rfl, _, rfl, _, _, rfl, rfl, H0, p, s1, ln, at_ + 1, rfl, by omega, ⟨dx, lm, lb, li, A1⟩, hs1.ind, hs1.il, by omega, ?_⟩
        cases hbl : beginLine ln (at_ + 1) s1 with
        | error e =>
          have h1 : stepR l ln at_ s1 = .error e := by unfold stepR; rw [hbeg, hbl]; rfl
          rw [h1] at he
          rw [he] at q
          exact q
        | ok s1' =>
          obtain ⟨g1, g2, _⟩ := begin_ok hbl hs1
          intro H1 hA1
          exact hg _ at_ s1' H1 y4 y5 y6 hlt hA1 g1 (by omega) (errs s1' (hbeg.trans hbl)) (fun r H2 z4 z5 z6 hr' hA2 => oks s1' r H2 z4 z5 z6 (hbeg.trans hbl) g1 (by omega) hr' hA2)
      · refine iteF' (e4.trans (decide_eq_false c0)) ?_
        have hbeg : beg ln at_ s1 = .ok s1 := by unfold beg; rw [if_neg c0]
        exact hg _ at_ s1 H' y4 y5 y6 hlt ⟨dx, lm, lb, li, A1⟩ hs1 (by omega) (errs s1 hbeg) (fun r H2 z4 z5 z6 hr' hA2 => oks s1 r H2 z4 z5 z6 hbeg hs1 (by omega) hr' hA2)
  · rw [e2] at c
    exact stop (by unfold here; rw [c]; rfl)
end
end D0
namespace D0
open PySem PySem.Spec PyProof.Rows L2 SX NumText
theorem walk_enumC {K : PySem.W.Frag} {c : Int} {a : Addr} {xs : List V} : Walk (IteC K c a) xs.length (fun H => SqL K H a xs) (fun i H v H' => ∃ T x, v = .ref T ∧ H T = none ∧ H' = upd H T (.tup [.int (c + (i : Nat)), x]) ∧ xs[i]? = some x) :=
  ⟨fun i _ hi q => ⟨xs, xs[i], q, by simp [hi]⟩, fun _ q => ⟨xs, q, rfl⟩, fun _ _ _ _ _ q ⟨T, x, a1, a2, a3, a4⟩ => ⟨T, x, a1, a2, a3, a4 _ q⟩⟩
theorem walk_enumS {c : Int} {x : Str} : Walk (ItsC c x) x.cps.size (fun _ => True) (fun i H v H' => ∃ T d, v = .ref T ∧ H T = none ∧ H' = upd H T (.tup [.int (c + (i : Nat)), .str ⟨#[d]⟩]) ∧ x.cps[i]? = some d) :=
  ⟨fun _ _ hi _ => hi, fun _ _ => rfl, fun _ _ _ _ _ _ y => y⟩
def rowBad (l : List Nat) : Option Nat := l.findIdx? fun c => !rowc c
def spLetters (ec : Er → Addr) : Sp := fun vs H Q E => ∃ (l : List Nat) (ln : Nat), vs = [.str (S l), .int ln] ∧ l.length ≤ big ∧ (rowBad l = none → ∀ H', Same H H' → Q .non H') ∧ (∀ j, rowBad l = some j → Rz ec .sign ln ((j + 1 : Nat) : Int) H E)
theorem idx_none {α : Type} {p : α → Bool} {l : List α} (h : ∀ a ∈ l, p a = false) : l.findIdx? p = none := by
  rw [List.findIdx?_eq_none_iff]; exact fun x hx => h x hx
theorem idx_at {α : Type} {p : α → Bool} {l : List α} {j : Nat} {a : α} (h : l[j]? = some a) (pa : p a = true) (hn : ∀ b ∈ l.take j, p b = false) : l.findIdx? p = some j := by
  obtain ⟨hj, e⟩ := List.getElem?_eq_some_iff.mp h
  rw [List.findIdx?_eq_some_iff_getElem]
  refine ⟨hj, by rw [e]; exact pa, fun k hk => ?_⟩
  have : l[k] ∈ l.take j := by
    rw [List.mem_take_iff_getElem]
    exact ⟨k, by omega, rfl⟩
  rw [hn _ this]; exact Bool.false_ne_true
section
variable {P : Program} {w : World} {K : PySem.W.Frag} {mg : Str → Option Value} {base : Heap} {ec : Er → Addr} {C : Addr}
theorem ok_check_letters (T : Txt K w mg) (ER : ErrT P w K mg base ec) (Orw : OkD P w K mg base CX0 1 "is_row" p_is_row spIsRow) :
    OkD P w K mg base (L2.CX P w) 3 "check_letters" p_check_letters (spLetters ec) := by
  refine T.g_check_letters.okX sc_check_letters (fun vs H Q E h => ?_) (fun f cdv A outer s H vs Q E hr h => ?_)
  · obtain ⟨l, ln, rfl, _⟩ := h; rfl
  obtain ⟨l, ln, rfl, hl, q1, q2⟩ := h
  refine ⟨_, pss_one (ps_for (passes_of rfl) rfl (pi_enumS (by rfl) T.z_enumerate (pa_cons (pv 0) pa_nil) pe_int) (pg_tup (by rfl) (pgs_cons (pg_name (i := 2) sc_check_letters.nd rfl (Or.inl rfl)) (pgs_cons (pg_name (i := 3) sc_check_letters.nd rfl (Or.inl rfl)) pgs_nil)))
    (pss_one (ps_if (pt_not (pt_val (pcall Orw hr (pa_cons (pv 3) pa_nil)))) (pss_one (ps_raise rfl (takes_of rfl rfl rfl rfl) (pmk_err ER .sign hr (pa_cons (pv 1) (pa_cons (pv 2) pa_nil))))) pss_nil))), ?_⟩
  have hsz : (S l).cps.size = l.length := S_len l
  refine ⟨_, rfl, S l, rfl, for_it walk_enumS (fun j σ H' => Same H H' ∧ (∃ y z, σ = [some (.str (S l)), some (.int ln), y, z]) ∧ ∀ c ∈ l.take j, rowc c = true)
    ⟨Same.refl H, ⟨none, none, rfl⟩, fun c hc => by cases hc⟩ (fun j σ H' _ h => trivial) ?_ ?_⟩
  · rintro j x σ H1 H2 hj ⟨sm, ⟨y, z, rfl⟩, hn⟩ ⟨T', d, rfl, hT, rfl, hd⟩
    have hld : l[j]? = some d := by
      have h2 : (S l).cps.toList[j]? = some d := by rw [← hd]; exact Array.getElem?_toList
      exact h2
    have sm2 : Same H (upd H1 T' (.tup [.int (1 + (j : Nat)), .str ⟨#[d]⟩])) := sm.trans (same_new hT _)
    refine ⟨T', _, rfl, SqT.of upd_same, rfl, _, _, rfl, _, [], rfl, rfl, ?_⟩
    refine ⟨_, rfl, [d], rfl, by show 1 ≤ 1000000; decide, fun H3 sm3 => ⟨_, rfl, ?_⟩⟩
    have e1 : (!([d].all rowc)) = !rowc d := by simp
    cases hr0 : rowc d with
    | false =>
      refine iteT' (e1.trans (by rw [hr0]; rfl)) ?_
      have hb : rowBad l = some j := idx_at hld (by rw [hr0]; rfl) (fun c hc => by rw [hn c hc]; rfl)
      have hz := q2 j hb
      rw [show ((j + 1 : Nat) : Int) = 1 + (j : Nat) by omega] at hz
      exact ⟨_, rfl, _, rfl, rz_mk ER (rz_up (sm2.trans sm3) hz)⟩
    | true =>
      refine iteF' (e1.trans (by rw [hr0]; rfl)) ⟨sm2.trans sm3, ⟨_, _, rfl⟩, fun c hc => ?_⟩
      rw [List.take_add_one, hld] at hc
      rcases List.mem_append.mp hc with hc | hc
      · exact hn c hc
      · have : c = d := by simpa using hc
        subst this; exact hr0
  · rintro σ H' ⟨sm, ⟨y, z, rfl⟩, hn⟩
    rw [hsz, List.take_length] at hn
    exact q1 (idx_none fun c hc => by rw [hn c hc]; rfl) H' sm
def rowsOf (l : List Nat) : List (List Nat) := TL.spl [10] 0 [] l
theorem spl_count : ∀ (l acc : List Nat), (TL.spl [10] 0 acc l).length ≤ l.length + 1 ∧ ∀ r ∈ TL.spl [10] 0 acc l, r.length ≤ acc.length + l.length
  | [], acc => ⟨Nat.le_refl _, fun r hr => by
      have : r = acc := by simpa [TL.spl] using hr
      subst this; simp⟩
  | c :: t, acc => by
    unfold TL.spl
    split
    · obtain ⟨h1, h2⟩ := spl_count t []
      refine ⟨by simp only [List.length_cons] at h1 ⊢; exact Nat.succ_le_succ h1, fun r hr => ?_⟩
      rcases List.mem_cons.mp hr with rfl | hr
      · omega
      · have := h2 r hr; simp only [List.length_cons, List.length_nil] at this ⊢; omega
    · obtain ⟨h1, h2⟩ := spl_count t (acc ++ [c])
      refine ⟨by simp only [List.length_cons]; omega, fun r hr => ?_⟩
      have := h2 r hr
      rw [List.length_append] at this
      simp only [List.length_cons, List.length_nil] at this ⊢; omega
/-- the first row, and the sign in it, that no row may hold -/
def badAt : List (List Nat) → Nat → Option (Nat × Nat)
  | [], _ => none
  | r :: rs, ln => match rowBad r with
    | some j => some (ln, j + 1)
    | none => badAt rs (ln + 1)
def longAt : List (List Nat) → Nat → Option Nat
  | [], _ => none
  | r :: rs, ln => if 120 < r.length then some ln else longAt rs (ln + 1)
def checkRows (l : List Nat) : Except Er3 (List (List Nat)) :=
  if 6000 < l.length then .error (.long, 1, 1) else
  match badAt (rowsOf l) 1 with
  | some e => .error (.sign, e.1, e.2)
  | none => match longAt (rowsOf l) 1 with
    | some n => .error (.long, n, 121)
    | none => .ok (rowsOf l)
def spRows (ec : Er → Addr) : Sp := fun vs H Q E => ∃ (l : List Nat), vs = [.str (S l)] ∧ l.length ≤ big ∧
  (∀ e, checkRows l = .error e → Rz ec e.1 (e.2.1 : Nat) (e.2.2 : Nat) H E) ∧ (∀ rs, checkRows l = .ok rs → ∀ H' p, Same H H' → H p = none → H' p = some (.lst (rs.map fun r => V.str (S r))) → Q (.ref p) H')
theorem badAt_none : ∀ {rs : List (List Nat)} {n : Nat}, (∀ r ∈ rs, rowBad r = none) → badAt rs n = none
  | [], _, _ => rfl
  | r :: rs, n, h => by unfold badAt; rw [h r List.mem_cons_self]; exact badAt_none fun x hx => h x (List.mem_cons_of_mem _ hx)
theorem badAt_at : ∀ {rs : List (List Nat)} {n j c : Nat} {r : List Nat}, rs[j]? = some r → rowBad r = some c → (∀ x ∈ rs.take j, rowBad x = none) → badAt rs n = some (n + j, c + 1)
  | x :: rs, n, 0, c, r, h, hc, _ => by
    have : x = r := by simpa using h
    subst this
    unfold badAt; rw [hc]; rfl
  | x :: rs, n, j + 1, c, r, h, hc, hn => by
    rw [List.take_succ_cons] at hn
    unfold badAt; rw [hn x List.mem_cons_self]
    have := badAt_at (n := n + 1) (by simpa using h) hc fun y hy => hn y (List.mem_cons_of_mem _ hy)
    rw [show n + (j + 1) = n + 1 + j by omega]
    exact this
theorem longAt_none : ∀ {rs : List (List Nat)} {n : Nat}, (∀ r ∈ rs, ¬ 120 < r.length) → longAt rs n = none
  | [], _, _ => rfl
  | r :: rs, n, h => by unfold longAt; rw [if_neg (h r List.mem_cons_self)]; exact longAt_none fun x hx => h x (List.mem_cons_of_mem _ hx)
theorem longAt_at : ∀ {rs : List (List Nat)} {n j : Nat} {r : List Nat}, rs[j]? = some r → 120 < r.length → (∀ x ∈ rs.take j, ¬ 120 < x.length) → longAt rs n = some (n + j)
  | x :: rs, n, 0, r, h, hc, _ => by
    have : x = r := by simpa using h
    subst this
    unfold longAt; rw [if_pos hc]; rfl
  | x :: rs, n, j + 1, r, h, hc, hn => by
    rw [List.take_succ_cons] at hn
    unfold longAt; rw [if_neg (hn x List.mem_cons_self)]
    have := longAt_at (n := n + 1) (by simpa using h) hc fun y hy => hn y (List.mem_cons_of_mem _ hy)
    rw [show n + (j + 1) = n + 1 + j by omega]
    exact this
end
end D0
namespace D0
open PySem PySem.Spec PyProof.Rows L2 SX NumText
section
variable {P : Program} {w : World} {K : PySem.W.Frag} {mg : Str → Option Value} {base : Heap} {ec : Er → Addr} {C : Addr}
theorem ok_checked_rows (T : Txt K w mg) (ER : ErrT P w K mg base ec) (Ocl : OkD P w K mg base (L2.CX P w) 3 "check_letters" p_check_letters (spLetters ec)) :
    OkD P w K mg base (L2.CX P w) 4 "checked_rows" p_checked_rows (spRows ec) := by
  refine T.g_checked_rows.okX sc_checked_rows (fun vs H Q E h => ?_) (fun f cdv A outer s H vs Q E hr h => ?_)
  · obtain ⟨l, rfl, _⟩ := h; rfl
  obtain ⟨l, rfl, hl, q1, q2⟩ := h
  have hl' : l.length ≤ 1000000 := hl
  have zn : Str.ofString "\n" = S [10] := by decide +kernel
  refine ⟨_, (pss_cons (ps_if (pt_cmpR op_gt (pe_callB call_len_str (by rfl) T.z_len PySem.boot_len (pa_cons (pv 0) pa_nil)) (pe_gI T.c_TEXT_LIMIT) (nomark _)) (pss_one (ps_raise rfl (takes_of rfl rfl rfl rfl) (pmk_err ER .long hr (pa_cons pe_int (pa_cons pe_int pa_nil))))) pss_nil)
      (pss_cons (ps_set (i := 1) sc_checked_rows.nd rfl (.inl rfl) (pe_split (pv 0) pe_str))
      (pss_cons (ps_for (passes_of rfl) rfl (pi_enumC (by rfl) T.z_enumerate (pa_cons (pv 1) pa_nil) pe_int) (pg_tup (by rfl) (pgs_cons (pg_name (i := 2) sc_checked_rows.nd rfl (Or.inl rfl)) (pgs_cons (pg_name (i := 3) sc_checked_rows.nd rfl (Or.inl rfl)) pgs_nil))) (pss_one (ps_expr (pcallE Ocl hr (passes_call (takes_of rfl rfl rfl rfl) (fun _ _ _ _ h => h)) (pa_cons (pv 3) (pa_cons (pv 2) pa_nil))))))
      (pss_cons (ps_for (passes_of rfl) rfl (pi_enumC (by rfl) T.z_enumerate (pa_cons (pv 1) pa_nil) pe_int) (pg_tup (by rfl) (pgs_cons (pg_name (i := 2) sc_checked_rows.nd rfl (Or.inl rfl)) (pgs_cons (pg_name (i := 3) sc_checked_rows.nd rfl (Or.inl rfl)) pgs_nil))) (pss_one (ps_if (pt_cmpR op_gt (pe_callB call_len_str (by rfl) T.z_len PySem.boot_len (pa_cons (pv 3) pa_nil)) (pe_gI T.c_ROW_LIMIT) (nomark _)) (pss_one (ps_raise rfl (takes_of rfl rfl rfl rfl) (pmk_err ER .long hr (pa_cons (pv 2) (pa_cons (pe_op op_add (pe_gI T.c_ROW_LIMIT) pe_int) pa_nil))))) pss_nil)))
      (pss_one (ps_ret (pv 1))))))), ?_⟩
  have e1 : decide ((6000 : Int) < ((S l).length : Int)) = decide (6000 < l.length) := by rw [S_len]; exact lt_dec (a := 6000)
  refine ⟨_, rfl, _, rfl, S_line hl, _, _, rfl, rfl, _, rfl, ?_⟩
  unfold checkRows at q1 q2
  by_cases c : 6000 < l.length
  · rw [if_pos c] at q1
    exact iteT' (e1.trans (decide_eq_true c)) (rz_mk ER (q1 _ rfl))
  rw [if_neg c] at q1 q2
  refine iteF' (e1.trans (decide_eq_false c)) ?_
  refine ⟨_, rfl, ⟨_, rfl⟩, S l, S [10], rfl, (by rw [zn]), rfl, ?_, fun p hp => ?_⟩
  · rw [S_len]; have : 7000 ≤ sizeLine := by decide
    omega
  rw [split_S (by decide) (by decide)]
  show gName 1 _ _ _ _
  have ers : TL.spl [10] 0 [] l = rowsOf l := rfl
  rw [ers]
  obtain ⟨hcount, hlen⟩ := spl_count l []
  rw [ers] at hcount hlen
  generalize rowsOf l = rs at *
  have em : (rs.map S).map V.str = rs.map fun r => V.str (S r) := by rw [List.map_map]; rfl
  rw [em]
  have sm0 : Same H (upd H p (.lst (rs.map fun r => V.str (S r)))) := same_new hp _
  have hrl : (rs.map fun r => V.str (S r)).length = rs.length := List.length_map ..
  refine ⟨_, rfl, p, _, rfl, SqL.of upd_same, for_it walk_enumC (fun j σ H' => Same H H' ∧ H' p = some (.lst (rs.map fun r => V.str (S r))) ∧ (∃ y z, σ = [some (.str (S l)), some (.ref p), y, z]) ∧ ∀ r ∈ rs.take j, rowBad r = none)
    ⟨sm0, upd_same, ⟨none, none, rfl⟩, fun c hc => by cases hc⟩ (fun j σ H' _ h => SqL.of h.2.1) ?_ ?_⟩
  · rintro j x σ H1 H2 hj ⟨sm, hp1, ⟨y, z, rfl⟩, hn⟩ ⟨T', x1, rfl, hT, rfl, hx⟩
    rw [List.getElem?_map] at hx
    obtain ⟨r, hrj, rfl⟩ := Option.map_eq_some_iff.mp hx
    have hrm : r ∈ rs := List.mem_of_getElem? hrj
    have hrl := hlen r hrm
    have sm2 : Same H (upd H1 T' (.tup [.int (1 + (j : Nat)), .str (S r)])) := sm.trans (same_new hT _)
    have hp2 : upd H1 T' (.tup [.int (1 + (j : Nat)), .str (S r)]) p = some (.lst (rs.map fun r => V.str (S r))) := (same_new hT _) _ _ hp1
    refine ⟨T', _, rfl, SqT.of upd_same, rfl, _, _, rfl, _, [], rfl, rfl, ?_⟩
    refine ⟨_, rfl, _, rfl, r, j + 1, ?_, ?_, fun hb H3 sm3 => ⟨sm2.trans sm3, sm3 _ _ hp2, ⟨_, _, rfl⟩, fun r' hr' => ?_⟩, fun c hc => ?_⟩
    · rw [show ((j + 1 : Nat) : Int) = 1 + (j : Nat) by omega]; rfl
    · show r.length ≤ 1000000; simp only [List.length_nil] at hrl; omega
    · rw [List.take_add_one, hrj] at hr'
      rcases List.mem_append.mp hr' with hr' | hr'
      · exact hn r' hr'
      · have : r' = r := by simpa using hr'
        subst this; exact hb
    · have hba := badAt_at (n := 1) hrj hc hn
      rw [hba] at q1
      have := q1 _ rfl
      rw [show 1 + j = j + 1 by omega] at this
      exact rz_up sm2 this
  · rintro σ H1 ⟨sm, hp1, ⟨y, z, rfl⟩, hn⟩
    rw [hrl, List.take_length] at hn
    rw [badAt_none hn] at q1 q2
    refine ⟨_, rfl, p, _, rfl, SqL.of hp1, for_it walk_enumC (fun j σ H' => Same H H' ∧ H' p = some (.lst (rs.map fun r => V.str (S r))) ∧ (∃ y z, σ = [some (.str (S l)), some (.ref p), y, z]) ∧ ∀ r ∈ rs.take j, ¬ 120 < r.length)
      ⟨sm, hp1, ⟨_, _, rfl⟩, fun c hc => by cases hc⟩ (fun j σ H' _ h => SqL.of h.2.1) ?_ ?_⟩
    · rintro j x σ H1 H2 hj ⟨sm, hp1, ⟨y, z, rfl⟩, hn⟩ ⟨T', x1, rfl, hT, rfl, hx⟩
      rw [List.getElem?_map] at hx
      obtain ⟨r, hrj, rfl⟩ := Option.map_eq_some_iff.mp hx
      have hrm : r ∈ rs := List.mem_of_getElem? hrj
      have hrl := hlen r hrm
      have sm2 : Same H (upd H1 T' (.tup [.int (1 + (j : Nat)), .str (S r)])) := sm.trans (same_new hT _)
      have hp2 : upd H1 T' (.tup [.int (1 + (j : Nat)), .str (S r)]) p = some (.lst (rs.map fun r => V.str (S r))) := (same_new hT _) _ _ hp1
      refine ⟨T', _, rfl, SqT.of upd_same, rfl, _, _, rfl, _, [], rfl, rfl, ?_⟩
      have e3 : decide ((120 : Int) < ((S r).length : Int)) = decide (120 < r.length) := by rw [S_len]; exact lt_dec (a := 120)
      refine ⟨_, rfl, _, rfl, S_line (show r.length ≤ 1000000 by simp only [List.length_nil] at hrl; omega), _, _, rfl, rfl, _, rfl, ?_⟩
      by_cases c3 : 120 < r.length
      · refine iteT' (e3.trans (decide_eq_true c3)) ?_
        have hla := longAt_at (n := 1) hrj c3 hn
        rw [hla] at q1
        exact ⟨_, rfl, _, _, rfl, rfl, rz_mk ER (rz_up sm2 (q1 _ rfl))⟩
      · refine iteF' (e3.trans (decide_eq_false c3)) ⟨sm2, hp2, ⟨_, _, rfl⟩, fun r' hr' => ?_⟩
        rw [List.take_add_one, hrj] at hr'
        rcases List.mem_append.mp hr' with hr' | hr'
        · exact hn r' hr'
        · have : r' = r := by simpa using hr'
          subst this; exact c3
    · rintro σ H1 ⟨sm, hp1, ⟨y, z, rfl⟩, hn⟩
      rw [hrl, List.take_length] at hn
      rw [longAt_none hn] at q2
      exact ⟨_, rfl, q2 _ rfl H1 p sm hp hp1⟩
end
end D0
namespace D0
open PySem PySem.Spec PyProof.Rows L2 SX NumText
theorem cutV_len (xs : List V) : (cutV xs (some (1 : Int)) none).length = xs.length - 1 := by
  have e : cutV xs (some ((1 : Nat) : Int)) none = xs.drop 1 := by
    unfold cutV
    rw [HT.sIx_nat, HT.sIx_none]
    show (xs.drop (min 1 xs.length)).take (xs.length - min 1 xs.length) = _
    rw [drop_min, List.take_of_length_le (by rw [List.length_drop]; omega)]
  have e2 : cutV xs (some (1 : Int)) none = xs.drop 1 := e
  rw [e2, List.length_drop]
def lastLn (s : Sc) : Nat := match s.marks.getLast? with
  | none => 1
  | some m => m.ln + 1
def endText (s : Sc) : Except Er3 Sc := match s.br with
  | b :: _ => .error (.token, b.ln, b.col)
  | [] => .ok { s with marks := (s.marks ++ List.replicate (s.ind.length - 1) (dedent (lastLn s) 1)) ++ [⟨.fin, .s [], lastLn s, 1⟩] }
def spEndText (ec : Er → Addr) (C : Addr) : Sp := fun vs H Q E => ∃ (H0 : Hp) (p : Addr) (s : Sc), vs = [.ref p] ∧ ScAt C H0 H p s ∧ SI s ∧ s.marks.length ≤ lim ∧ OutS ec C H0 p Q E (endText s)
section
variable {P : Program} {w : World} {K : PySem.W.Frag} {mg : Str → Option Value} {base : Heap} {ec : Er → Addr} {C : Addr}
theorem ok_Scanner_end_text (T : Txt K w mg) (ER : ErrT P w K mg base ec) (SC0 : ScT K mg C) :
    OkM P w K mg base C (L2.CX P w) 3 "end_text" p_Scanner_end_text (spEndText ec C) := by
  refine SC0.g_end_text.okX sc_Scanner_end_text (fun vs H Q E h => ?_) (fun f cdv A outer sh H vs Q E hr h => ?_)
  · obtain ⟨H0, p, s, rfl, _⟩ := h; rfl
  obtain ⟨H0, p, s, rfl, ⟨dx, lm, lb, li, A⟩, hs, hM, q⟩ := h
  have zk : Str.ofString "end" = S (Kd.cp .fin) ∧ Str.ofString "dedent" = S (Kd.cp .dedent) ∧ Str.ofString "" = S [] := by decide +kernel
  have ll := lim_line
  obtain ⟨vb, hvb, hvm⟩ := A.hb
  obtain ⟨vm, hv, hvv⟩ := A.hm
  have nt : ∀ (s2 : Sc) (H2 : Hp) (u : Addr), ScA C H0 H2 p dx lm lb li s2 → True := fun _ _ _ _ => trivial
  refine split_at 3 (fun t => s.br = [] → t { nx := fun _ H' => Q .non H', rt := Q } [some (.ref p), some (.int (lastLn s : Nat)), none] H) ?_ (fun t ht hg => ?_)
  · refine ⟨_, (pss_cons (ps_for (passes_of rfl) rfl (pi_list (pe_slice sl_list (pe_fld (pv 0) rfl) (po_some pe_int) po_none)) (pg_name (i := 2) sc_Scanner_end_text.nd rfl (Or.inl rfl)) (pss_one (ps_expr (pe_bm PySem.F.plainAttrs_list PySem.F.slot_list_append PySem.F.type_list_append mt_append (pe_fld (pv 0) rfl) (pa_cons (pe_tup (pa_cons pe_str (pa_cons pe_str (pa_cons (pv 1) (pa_cons pe_int pa_nil))))) pa_nil)))))
      (pss_one (ps_expr (pe_bm PySem.F.plainAttrs_list PySem.F.slot_list_append PySem.F.type_list_append mt_append (pe_fld (pv 0) rfl) (pa_cons (pe_tup (pa_cons pe_str (pa_cons pe_str (pa_cons (pv 1) (pa_cons pe_int pa_nil))))) pa_nil))))), ?_⟩
    intro hbr
    have ee : endText s = .ok { s with marks := (s.marks ++ List.replicate (s.ind.length - 1) (dedent (lastLn s) 1)) ++ [⟨.fin, .s [], lastLn s, 1⟩] } := by
      unfold endText
      split
      · rename_i h; rw [hbr] at h; cases h
      · rfl
    rw [ee] at q
    have q : ∀ H', ScAt C H0 H' p { s with marks := (s.marks ++ List.replicate (s.ind.length - 1) (dedent (lastLn s) 1)) ++ [⟨.fin, .s [], lastLn s, 1⟩] } → Q .non H' := q
    refine ⟨_, rfl, p, C, dx, _, _, rfl, A.hp, SC0.cl, SC0.n_indents, lk_I, ?_⟩
    refine ⟨1, rfl, li, _, rfl, SqL.of A.hi, fun D hD => ?_⟩
    have hcl := cutV_len (s.ind.reverse.map fun n => V.int (n : Nat))
    rw [List.length_map, List.length_reverse] at hcl
    generalize cutV (s.ind.reverse.map fun n => V.int (n : Nat)) (some (1 : Int)) none = ys at *
    have A1 := A.fresh (o := .lst ys) hD
    refine ⟨D, rfl, ⟨ys, SqL.of upd_same⟩, for_it (walk_list (xs := ys)) (fun j σ H' => (∃ y, σ = [some (.ref p), some (.int (lastLn s : Nat)), y]) ∧ H' D = some (.lst ys) ∧ ScA C H0 H' p dx lm lb li { s with marks := s.marks ++ List.replicate j (dedent (lastLn s) 1) })
      ⟨⟨none, rfl⟩, upd_same, by show ScA C H0 _ p dx lm lb li { s with marks := s.marks ++ [] }; rw [List.append_nil]; exact A1⟩ (fun j σ H' _ h => SqL.of h.2.1) ?_ ?_⟩
    · rintro j x σ H1 H2 hj ⟨⟨y, rfl⟩, hD1, A2⟩ ⟨rfl, hx⟩
      obtain ⟨vs, hvs, hvms⟩ := A2.hm
      refine ⟨_, rfl, p, C, dx, _, _, rfl, A2.hp, SC0.cl, SC0.n_marks, lk_M, .inl ⟨rfl, _, SqL.of hvs⟩, _, rfl, four, fun u hu => ?_⟩
      have A3 := A2.fresh (o := .tup [.str (Str.ofString "dedent"), .str (Str.ofString ""), .int (lastLn s : Nat), .int 1]) hu
      obtain ⟨vs', hv', hvm'⟩ := A3.hm
      refine ⟨lm, _, _, rfl, rfl, hv', ?_, ?_⟩
      · rw [hvm'.1]
        show (s.marks ++ List.replicate j _).length < _
        rw [List.length_append, List.length_replicate]
        have := hs.il
        omega
      · have A5 := A3.mark (m := dedent (lastLn s) 1) hv' (by rw [upd_same, zk.2.1, zk.2.2]; rfl)
        refine ⟨⟨_, rfl⟩, ?_, ?_⟩
        · have nd : D ≠ lm := fun z => by rw [z, hv] at hD; cases hD
          rw [upd_ne nd]; exact (same_new hu _) _ _ hD1
        · have e : (s.marks ++ List.replicate j (dedent (lastLn s) 1)) ++ [dedent (lastLn s) 1] = s.marks ++ List.replicate (j + 1) (dedent (lastLn s) 1) := by rw [List.append_assoc, ← List.replicate_succ']
          rw [← e]
          exact A5
    · rintro σ H1 ⟨⟨y, rfl⟩, hD1, A2⟩
      rw [hcl] at A2
      obtain ⟨vs, hvs, hvms⟩ := A2.hm
      refine ⟨_, rfl, p, C, dx, _, _, rfl, A2.hp, SC0.cl, SC0.n_marks, lk_M, .inl ⟨rfl, _, SqL.of hvs⟩, _, rfl, four, fun u hu => ?_⟩
      have A3 := A2.fresh (o := .tup [.str (Str.ofString "end"), .str (Str.ofString ""), .int (lastLn s : Nat), .int 1]) hu
      obtain ⟨vs', hv', hvm'⟩ := A3.hm
      refine ⟨lm, _, _, rfl, rfl, hv', ?_, ?_⟩
      · rw [hvm'.1]
        show (s.marks ++ List.replicate _ _).length < _
        rw [List.length_append, List.length_replicate]
        have := hs.il
        omega
      · exact q _ ⟨dx, lm, lb, li, A3.mark (m := ⟨.fin, .s [], lastLn s, 1⟩) hv' (by rw [upd_same, zk.1, zk.2.2]; rfl)⟩
  · refine ⟨_, pss_cons (ps_if (pt_truth (pe_fld (pv 0) rfl) (fun _ => rfl)) (pss_one (ps_raise rfl (takes_of rfl rfl rfl rfl) (pmk_err ER .token hr (pa_cons (pe_ix ix_tup (pe_ix ix_list (pe_fld (pv 0) rfl) (pe_un un_neg pe_int) (fun _ _ => rfl)) pe_int (fun _ _ => rfl)) (pa_cons (pe_ix ix_tup (pe_ix ix_list (pe_fld (pv 0) rfl) (pe_un un_neg pe_int) (fun _ _ => rfl)) pe_int (fun _ _ => rfl)) pa_nil))))) pss_nil) (pss_cons (ps_set (i := 1) sc_Scanner_end_text.nd rfl (.inl rfl) pe_int) (pss_cons
      (ps_if (pt_truth (pe_fld (pv 0) rfl) (fun _ => rfl)) (pss_one (ps_set (i := 1) sc_Scanner_end_text.nd rfl (.inl rfl) (pe_op op_add (pe_ix ix_tup (pe_ix ix_list (pe_fld (pv 0) rfl) (pe_un un_neg pe_int) (fun _ _ => rfl)) pe_int (fun _ _ => rfl)) pe_int))) pss_nil) ht)), ?_⟩
    refine ⟨_, rfl, p, C, dx, _, _, rfl, A.hp, SC0.cl, SC0.n_brackets, lk_B, _, .inl ⟨vb, SqL.of hvb, rfl⟩, ?_⟩
    cases hbr : s.br with
    | cons b r =>
      have hvm' := hvm
      rw [hbr] at hvm'
      obtain ⟨ab, t1, t2, t3⟩ := hvm'.top
      have hem : (!vb.isEmpty) = true := by
        cases vb with
        | nil => have := hvm'.1; simp at this
        | cons x y => rfl
      have a2 : atI b.vs (2 : Int) = some (.int (b.ln : Nat)) := atI_nat (j := 2) rfl
      have a3 : atI b.vs (3 : Int) = some (.int (b.col : Nat)) := atI_nat (j := 3) rfl
      unfold endText at q
      rw [hbr] at q
      refine iteT' hem ?_
      exact ⟨_, rfl, p, C, dx, _, _, rfl, A.hp, SC0.cl, SC0.n_brackets, lk_B, 1, rfl, lb, _, -1, _, rfl, rfl, SqL.of hvb, t1, ab, _, 2, _, rfl, rfl, SqT.of t3, a2,
        _, rfl, p, C, dx, _, _, rfl, A.hp, SC0.cl, SC0.n_brackets, lk_B, 1, rfl, lb, _, -1, _, rfl, rfl, SqL.of hvb, t1, ab, _, 3, _, rfl, rfl, SqT.of t3, a3, rz_mk ER (rz_up A.sm q)⟩
    | nil =>
      have hem : (!vb.isEmpty) = false := by
        have := hvm.1
        rw [hbr] at this
        rw [List.eq_nil_of_length_eq_zero this]; rfl
      refine iteF' hem ?_
      have hg := hg hbr
      refine ⟨_, rfl, p, C, dx, _, _, rfl, A.hp, SC0.cl, SC0.n_marks, lk_M, _, .inl ⟨vm, SqL.of hv, rfl⟩, ?_⟩
      cases hl : s.marks.getLast? with
      | none =>
        have hn : s.marks = [] := List.getLast?_eq_none_iff.mp hl
        have hem2 : (!vm.isEmpty) = false := by
          have := hvv.1
          rw [hn] at this
          rw [List.eq_nil_of_length_eq_zero this]; rfl
        have e : lastLn s = 1 := by unfold lastLn; rw [hl]
        rw [e] at hg
        exact iteF' hem2 hg
      | some m =>
        obtain ⟨am, t1, t3⟩ := hvv.last hl
        have hem2 : (!vm.isEmpty) = true := by
          cases vm with
          | nil =>
            have := hvv.1
            have hn : s.marks = [] := List.eq_nil_of_length_eq_zero this.symm
            rw [hn] at hl; cases hl
          | cons x y => rfl
        have a2 : atI m.vs (2 : Int) = some (.int (m.ln : Nat)) := atI_nat (j := 2) rfl
        have e : lastLn s = m.ln + 1 := by unfold lastLn; rw [hl]
        rw [e] at hg
        exact iteT' hem2 ⟨_, rfl, p, C, dx, _, _, rfl, A.hp, SC0.cl, SC0.n_marks, lk_M, 1, rfl, lm, _, -1, _, rfl, rfl, SqL.of hv, t1, am, _, 2, _, rfl, rfl, SqT.of t3, a2, _, _, rfl, rfl, hg⟩
end
end D0
namespace D0
open PySem PySem.Spec PyProof.Rows L2 SX NumText
theorem runRow_ok {l : List Nat} {ln : Nat} : ∀ {f at_ : Nat} {s s' : Sc}, runRow l ln f at_ s = .ok s' → SI s → at_ ≤ l.length → SI s' ∧ s'.marks.length + 14 * at_ ≤ s.marks.length + 14 * l.length
  | 0, at_, s, s', h, hs, ha => by
    have : s = s' := by unfold runRow at h; exact Except.ok.inj h
    subst this; exact ⟨hs, by omega⟩
  | f + 1, at_, s, s', h, hs, ha => by
    unfold runRow at h
    by_cases hh : here l at_ = true
    · rw [if_pos hh] at h
      have hat : at_ < l.length := by
        unfold here at hh
        rw [Bool.and_eq_true] at hh
        exact of_decide_eq_true hh.1
      cases hst : stepR l ln at_ s with
      | error e => rw [hst] at h; cases h
      | ok r =>
        rw [hst] at h
        have h : runRow l ln f r.1 r.2 = .ok s' := h
        unfold stepR at hst
        cases hb : beg ln at_ s with
        | error e => rw [hb] at hst; cases hst
        | ok s1 =>
          rw [hb] at hst
          have hst : tokS l ln at_ s1 = .ok r := hst
          have h1 : SI s1 ∧ s1.marks.length ≤ s.marks.length + 13 := by
            unfold beg at hb
            split at hb
            · have := begin_ok hb hs; exact ⟨this.1, this.2.1⟩
            · cases hb; exact ⟨hs, by omega⟩
          obtain ⟨g1, g2, g3, g4⟩ := tokS_ok hat h1.1 hst
          obtain ⟨k1, k2⟩ := runRow_ok h g3 g2
          exact ⟨k1, by omega⟩
    · rw [if_neg hh] at h
      cases h
      exact ⟨hs, by omega⟩
theorem scanRow_ok {l : List Nat} {ln : Nat} {s s' : Sc} (h : scanRow l ln s = .ok s') (hs : SI s) (hl : l.length ≤ 120) : SI s' ∧ s'.marks.length ≤ s.marks.length + 1700 := by
  unfold scanRow at h
  cases hr : runRow l ln (l.length + 1) (twl spc l 0) s with
  | error e => rw [hr] at h; cases h
  | ok s1 =>
    rw [hr] at h
    obtain ⟨h1, h2⟩ := runRow_ok hr hs (twl_le (Nat.zero_le _))
    cases h
    unfold fin
    split
    · rename_i c
      refine ⟨⟨h1.ind, h1.il, h1.brw, by show s1.br.length ≤ 0; rw [c.2]; exact Nat.le_refl _, Nat.zero_le _⟩, ?_⟩
      show (s1.marks ++ [_]).length ≤ _
      rw [List.length_append]; simp only [List.length_cons, List.length_nil]; omega
    · exact ⟨h1, by omega⟩
def scanRows : List (List Nat) → Nat → Sc → Except Er3 Sc
  | [], _, s => .ok s
  | r :: rs, ln, s => (scanRow r ln s).bind (scanRows rs (ln + 1))
def tokensP (l : List Nat) : Except Er3 (List Mk) := (checkRows l).bind fun rs => (scanRows rs 1 sc0).bind fun s => (endText s).map Sc.marks
def spTokens (ec : Er → Addr) : Sp := fun vs H Q E => ∃ (l : List Nat), vs = [.str (S l)] ∧ l.length ≤ big ∧
  (∀ e, tokensP l = .error e → Rz ec e.1 (e.2.1 : Nat) (e.2.2 : Nat) H E) ∧ (∀ ms, tokensP l = .ok ms → ∀ H' q us, Same H H' → H q = none → H' q = some (.lst us) → Mks H' us ms → Q (.ref q) H')
theorem longAt_le : ∀ {rs : List (List Nat)} {n : Nat}, longAt rs n = none → ∀ r ∈ rs, r.length ≤ 120
  | [], _, _, r, hr => by cases hr
  | x :: rs, n, h, r, hr => by
    unfold longAt at h
    split at h
    · cases h
    · rename_i c
      rcases List.mem_cons.mp hr with rfl | hr
      · omega
      · exact longAt_le h r hr
theorem checkRows_ok {l : List Nat} {rs : List (List Nat)} (h : checkRows l = .ok rs) : rs.length ≤ 6001 ∧ (∀ r ∈ rs, r.length ≤ 120) ∧ rs = rowsOf l := by
  unfold checkRows at h
  split at h
  · cases h
  rename_i c
  split at h
  · cases h
  split at h
  · cases h
  rename_i hlo
  cases h
  have := (spl_count l []).1
  exact ⟨by show (TL.spl [10] 0 [] l).length ≤ 6001; omega, longAt_le hlo, rfl⟩
theorem SI0 : SI sc0 := ⟨⟨rfl, by show 1 ≤ 12; decide⟩, (by show 1 ≤ 11; decide), (fun b hb => by cases hb), Nat.le_refl _, Nat.zero_le _⟩
section
variable {P : Program} {w : World} {K : PySem.W.Frag} {mg : Str → Option Value} {base : Heap} {ec : Er → Addr} {C : Addr}
theorem ok_tokens (T : Txt K w mg) (ER : ErrT P w K mg base ec) (SC0 : ScT K mg C) (Ocr : OkD P w K mg base (L2.CX P w) 4 "checked_rows" p_checked_rows (spRows ec))
    (OS : OkM P w K mg base C (L2.CX P w) 5 "scan_row" p_Scanner_scan_row (spScanRow ec C)) (OT : OkM P w K mg base C (L2.CX P w) 3 "end_text" p_Scanner_end_text (spEndText ec C)) :
    OkD P w K mg base (L2.CX P w) 6 "tokens" p_tokens (spTokens ec) := by
  obtain ⟨fI', fd', M, bI, FI⟩ := SC0.ini
  have GI := ok_Scanner___init__ (P := P) (w := w) (base := base) SC0 FI
  refine T.g_tokens.okX sc_tokens (fun vs H Q E h => ?_) (fun f cdv A outer sh H vs Q E hr h => ?_)
  · obtain ⟨l, rfl, _⟩ := h; rfl
  obtain ⟨l, rfl, hl, q1, q2⟩ := h
  have limv : lim = 12000000 := rfl
  refine ⟨_, (pss_cons (ps_set (i := 1) sc_tokens.nd rfl (.inl rfl) (pcallE Ocr hr (passes_call (takes_of rfl rfl rfl rfl) (fun _ _ _ _ h => h)) (pa_cons (pv 0) pa_nil)))
      (pss_cons (ps_set (i := 2) sc_tokens.nd rfl (.inl rfl) (pe_make0 M GI (hr.mono (by decide)) rfl SC0.gl bI .nil pass0))
      (pss_cons (ps_for (passes_of rfl) rfl (pi_enumC (by rfl) T.z_enumerate (pa_cons (pv 1) pa_nil) pe_int) (pg_tup (by rfl) (pgs_cons (pg_name (i := 3) sc_tokens.nd rfl (Or.inl rfl)) (pgs_cons (pg_name (i := 4) sc_tokens.nd rfl (Or.inl rfl)) pgs_nil))) (pss_one (ps_expr (pmethE OS SC0.cl hr (passes_call (takes_of rfl rfl rfl rfl) (fun _ _ _ _ h => h)) (pv 2) (pa_cons (pv 4) (pa_cons (pv 3) pa_nil))))))
      (pss_cons (ps_expr (pmeth0 OT SC0.cl hr (passes_call (takes_of rfl rfl rfl rfl) (fun _ _ _ _ h => h)) (pv 2)))
      (pss_one (ps_ret (pe_fld (pv 2) rfl))))))), ?_⟩
  unfold tokensP at q1 q2
  refine ⟨_, rfl, l, rfl, hl, fun e he => ?_, fun rs he H1 p sm1 hp0 hp1 => ?_⟩
  · rw [he] at q1; exact q1 e rfl
  rw [he] at q1 q2
  have q1 : ∀ e, ((scanRows rs 1 sc0).bind fun s => (endText s).map Sc.marks) = .error e → Rz ec e.1 (e.2.1 : Nat) (e.2.2 : Nat) H E := q1
  have q2 : ∀ ms, ((scanRows rs 1 sc0).bind fun s => (endText s).map Sc.marks) = .ok ms → ∀ H' q us, Same H H' → H q = none → H' q = some (.lst us) → Mks H' us ms → Q (.ref q) H' := q2
  obtain ⟨hc1, hc2, _⟩ := checkRows_ok he
  intro x dx nx ndx nex
  have s0 : Same H1 (upd (upd H1 dx (.own x)) x (.ins C dx [])) := fun b o e => by
    rw [upd_ne (ne_of_none e nx), upd_ne (ne_of_none e ndx)]
    exact e
  refine ⟨H1, x, dx, rfl, s0, nx, upd_same, fun H2 A2 => ⟨rfl, ?_⟩⟩
  have hsm : ∀ {H' : Hp} {s : Sc}, ScAt C H1 H' x s → Same H1 H' := fun ⟨_, _, _, _, A⟩ => A.sm
  have hrl : (rs.map fun r => V.str (S r)).length = rs.length := List.length_map ..
  refine ⟨_, rfl, p, _, rfl, SqL.of (hsm A2 _ _ hp1), for_it walk_enumC (fun j σ H' => ∃ (s1 : Sc) (y z : Option V), σ = [some (.str (S l)), some (.ref p), some (.ref x), y, z] ∧ ScAt C H1 H' x s1 ∧ SI s1 ∧ s1.marks.length ≤ 1700 * j ∧ scanRows rs 1 sc0 = scanRows (rs.drop j) (1 + j) s1)
    ⟨sc0, none, none, rfl, A2, SI0, Nat.zero_le _, rfl⟩ (fun j σ H' _ ⟨_, _, _, _, A, _⟩ => SqL.of (hsm A _ _ hp1)) ?_ ?_⟩
  · rintro j v σ H3 H4 hj ⟨s1, y, z, rfl, ⟨dx', lm, lb, li, A3⟩, hs1, hm1, hsc⟩ ⟨T', x1, rfl, hT, rfl, hx⟩
    rw [List.getElem?_map] at hx
    obtain ⟨r, hrj, rfl⟩ := Option.map_eq_some_iff.mp hx
    have hrm : r ∈ rs := List.mem_of_getElem? hrj
    have hjl := (List.getElem?_eq_some_iff.mp hrj).1
    have hd : rs.drop j = r :: rs.drop (j + 1) := by
      rw [List.drop_eq_getElem_cons hjl]
      congr 1
      exact Option.some.inj ((List.getElem?_eq_getElem hjl).symm.trans hrj)
    rw [hd] at hsc
    have hsc : scanRows rs 1 sc0 = (scanRow r (1 + j) s1).bind (scanRows (rs.drop (j + 1)) (1 + j + 1)) := hsc
    have A4 := A3.fresh (o := .tup [.int (1 + (j : Nat)), .str (S r)]) hT
    refine ⟨T', _, rfl, SqT.of upd_same, rfl, _, _, rfl, _, [], rfl, rfl, ?_⟩
    refine ⟨_, rfl, x, dx', _, rfl, A4.hp, pf_no no_names.2.2.2.1, _, rfl, _, rfl, H1, x, s1, r, 1 + j, ?_, hc2 r hrm, ⟨dx', lm, lb, li, A4⟩, hs1, by omega, ?_⟩
    · rw [show ((1 + j : Nat) : Int) = 1 + (j : Nat) by omega]; rfl
    cases hsr : scanRow r (1 + j) s1 with
    | error e =>
      rw [hsr] at hsc
      rw [hsc] at q1
      exact rz_up sm1 (q1 e rfl)
    | ok s2 =>
      rw [hsr] at hsc
      obtain ⟨g1, g2⟩ := scanRow_ok hsr hs1 (hc2 r hrm)
      intro H5 A5
      exact ⟨s2, _, _, rfl, A5, g1, by omega, by rw [hsc, show 1 + (j + 1) = 1 + j + 1 by omega]; rfl⟩
  · rintro σ H3 ⟨s1, y, z, rfl, ⟨dx', lm, lb, li, A3⟩, hs1, hm1, hsc⟩
    rw [hrl, List.drop_length] at hsc
    rw [hrl] at hm1
    rw [hsc] at q1 q2
    have q1 : ∀ e, (endText s1).map Sc.marks = .error e → Rz ec e.1 (e.2.1 : Nat) (e.2.2 : Nat) H E := q1
    have q2 : ∀ ms, (endText s1).map Sc.marks = .ok ms → ∀ H' q us, Same H H' → H q = none → H' q = some (.lst us) → Mks H' us ms → Q (.ref q) H' := q2
    refine ⟨_, rfl, x, dx', _, rfl, A3.hp, pf_no no_names.2.2.2.2, H1, x, s1, rfl, ⟨dx', lm, lb, li, A3⟩, hs1, by omega, ?_⟩
    cases het : endText s1 with
    | error e => rw [het] at q1; exact rz_up sm1 (q1 e rfl)
    | ok s2 =>
      rw [het] at q2
      rintro H4 ⟨dx2, lm2, lb2, li2, A5⟩
      obtain ⟨us, hus, hms⟩ := A5.hm
      refine ⟨_, rfl, x, C, dx2, _, _, rfl, A5.hp, SC0.cl, SC0.n_marks, lk_M, ?_⟩
      exact q2 s2.marks rfl H4 lm2 us (sm1.trans A5.sm) (sm1.free A5.m0) hus hms
end
end D0
namespace D0
open PySem PySem.Spec PyProof.Rows L2 SX NumText
/-- a bag: a list of three ints -/
def Bag (H : Hp) (b : Addr) : Prop := ∃ c s n : Int, H b = some (.lst [.int c, .int s, .int n])
/-- all but the bag stays -/
structure Stp (b : Addr) (H H' : Hp) : Prop where
  b0 : Bag H b
  b1 : Bag H' b
  keep : ∀ a o, a ≠ b → H a = some o → H' a = some o
theorem Stp.trans {b : Addr} {H H1 H2 : Hp} (x : Stp b H H1) (y : Stp b H1 H2) : Stp b H H2 := ⟨x.b0, y.b1, fun a o n e => y.keep a o n (x.keep a o n e)⟩
theorem Stp.refl {b : Addr} {H : Hp} (x : Bag H b) : Stp b H H := ⟨x, x, fun _ _ _ e => e⟩
theorem Bag.same {b : Addr} {H H' : Hp} (x : Bag H b) (s : Same H H') : Bag H' b := by obtain ⟨c, t, n, e⟩ := x; exact ⟨c, t, n, s _ _ e⟩
theorem Stp.same {b : Addr} {H H' : Hp} (x : Bag H b) (s : Same H H') : Stp b H H' := ⟨x, x.same s, fun a o _ e => s a o e⟩
theorem Bag.ne {b a : Addr} {H : Hp} (x : Bag H b) (h : H a = none) : a ≠ b := by obtain ⟨c, t, n, e⟩ := x; exact (ne_of_none e h).symm
theorem Bag.ne_tup {b a : Addr} {H : Hp} {vs : List V} (x : Bag H b) (h : H a = some (.tup vs)) : a ≠ b := by
  obtain ⟨c, t, n, e⟩ := x
  intro z; rw [z, e] at h; cases h
def spBag (K : PySem.W.Frag) : Sp := fun vs H Q _ => ∃ (a : Addr) (ns : List Int) (k : Nat), vs = [.ref a, .int k] ∧ SqL K H a (ns.map V.int) ∧ ns.length ≤ 63 ∧ k ≤ 1 ∧ ∀ p H', Same H H' → H p = none → Bag H' p → Q (.ref p) H'
def spTake : Sp := fun vs H Q _ => ∃ (b : Addr) (n : Int), vs = [.ref b, .int n] ∧ Bag H b ∧ 0 < n ∧ n < 1000000000 ∧ ∀ r H', 0 ≤ r → r < n → Stp b H H' → Q (.int r) H'
section
variable {P : Program} {w : World} {K : PySem.W.Frag} {mg : Str → Option Value} {base : Heap}
theorem ok__law_bag (T : Txt K w mg) : OkD P w K mg base CX0 1 "_law_bag" p__law_bag (spBag K) := by
  refine T.g__law_bag.ok sc__law_bag (fun vs H Q E h => ?_) (fun f cdv A outer s H vs Q E hr h => ?_)
  · obtain ⟨a, ns, k, rfl, _⟩ := h; rfl
  obtain ⟨a, ns, k, rfl, hS, h63, hk, q⟩ := h
  refine split_at 3 (fun t => ∀ c : Int, t { nx := fun _ H' => Q .non H', rt := Q } [some (.ref a), some (.int (k : Nat)), some (.int c), none, none] H) ?_ (fun t ht hg => ?_)
  rotate_left
  · refine ⟨_, pss_cons (ps_set (i := 2) sc__law_bag.nd rfl (.inl rfl) pe_int) (pss_cons (ps_if (pt_cmpR op_lt (pv 1) (pe_callB call_len_seq (by rfl) T.z_len PySem.boot_len (pa_cons (pv 0) pa_nil)) (nomark _)) (pss_one (ps_set (i := 2) sc__law_bag.nd rfl (.inl rfl) (pe_ix ix_list (pv 0) (pv 1) (fun _ _ => rfl)))) pss_nil) (pss_cons (ps_if (pt_cmpR op_lt (pv 2) pe_int (nomark _)) (pss_one (ps_set (i := 2) sc__law_bag.nd rfl (.inl rfl) (pe_op op_sub pe_int (pv 2)))) pss_nil) ht)), ?_⟩
    refine ⟨_, rfl, _, rfl, a, _, rfl, .inl hS, _, _, rfl, rfl, _, rfl, ite2 (fun c => ?_) (fun c => ?_)⟩
    · have c := of_decide_eq_true c
      have c : (k : Int) < ((ns.map V.int).length : Int) := c
      rw [List.length_map] at c
      have hkl : k < ns.length := by omega
      refine ⟨_, rfl, _, rfl, a, _, _, .int ns[k], rfl, rfl, hS, atI_nat (by rw [List.getElem?_map, List.getElem?_eq_getElem hkl]; rfl), ?_⟩
      refine ⟨_, rfl, _, _, rfl, rfl, _, rfl, ite2 (fun c => ?_) (fun c => hg _)⟩
      refine ⟨_, rfl, _, _, rfl, rfl, hg _⟩
    · refine ⟨_, rfl, _, _, rfl, rfl, _, rfl, ite2 (fun c => ?_) (fun c => hg _)⟩
      refine ⟨_, rfl, _, _, rfl, rfl, hg _⟩
  · refine ⟨_, (pss_cons (ps_set (i := 3) sc__law_bag.nd rfl (.inl rfl) (pe_op op_mul pe_int (pe_op op_add (pv 1) pe_int)))
      (pss_cons (ps_for PassesOwn.never rfl (pi_list (pe_slice sl_list (pv 0) po_none (po_some pe_int))) (pg_name (i := 4) sc__law_bag.nd rfl (Or.inl rfl)) (pss_one (ps_set (i := 3) sc__law_bag.nd rfl (.inl rfl) (pe_op op_mod (pe_callTy call_int1 (by rfl) T.z_int PyProof.Rows.boot_int (pa_cons (pe_op op_add (pe_op op_add (pe_op op_mul (pv 3) pe_int) (pe_op op_mod (pe_callTy call_int1 (by rfl) T.z_int PyProof.Rows.boot_int (pa_cons (pv 4) pa_nil)) pe_int)) pe_int) pa_nil)) pe_int))))
      (pss_cons (ps_if (pt_cmpR op_lt (pv 2) (pe_op op_pow pe_int pe_int) (nomark _)) (pss_one (ps_set (i := 2) sc__law_bag.nd rfl (.inl rfl) pe_int)) pss_nil)
      (pss_one (ps_ret (pe_lst (pa_cons (pv 2) (pa_cons (pv 3) (pa_cons pe_int pa_nil))))))))), ?_⟩
    intro c
    refine ⟨_, rfl, _, _, rfl, rfl, _, _, rfl, rfl, .inl ⟨by decide, by decide⟩, ?_⟩
    refine ⟨_, rfl, 63, rfl, a, _, rfl, hS, fun p hp => ⟨p, rfl, ⟨_, SqL.of upd_same⟩, ?_⟩⟩
    have mem : ∀ x ∈ cutV (ns.map V.int) none (some 63), ∃ i : Int, x = V.int i := fun x hx => by
      have : x ∈ ns.map V.int := List.mem_of_mem_drop (List.mem_of_mem_take hx)
      obtain ⟨i, _, e⟩ := List.mem_map.mp this
      exact ⟨i, e.symm⟩
    generalize cutV (ns.map V.int) none (some 63) = xs at mem
    have sm : Same H (upd H p (.lst xs)) := same_new hp _
    refine for_it (walk_list (xs := xs)) (fun j σ H' => ∃ (e : Int) (y : Option V), σ = [some (.ref a), some (.int (k : Nat)), some (.int c), some (.int e), y] ∧ H' = upd H p (.lst xs)) ⟨_, none, rfl, rfl⟩ (fun j σ H' _ h => by obtain ⟨_, _, _, rfl⟩ := h; exact SqL.of upd_same) ?_ ?_
    · rintro j x σ H1 H2 hj ⟨e, y, rfl, rfl⟩ ⟨rfl, hx⟩
      obtain ⟨i, rfl⟩ := mem x (List.mem_of_getElem? hx)
      refine ⟨_, rfl, _, _, rfl, rfl, .inr ⟨by decide, by decide⟩, _, rfl, .inl ⟨_, rfl, _, _, rfl, rfl, (by show (0 : Int) < _; decide), _, _, rfl, rfl, _, _, rfl, rfl, .inl ⟨_, rfl, _, _, rfl, rfl, (by show (0 : Int) < _; decide), ?_⟩⟩⟩
      exact ⟨_, some (.int i), rfl, rfl⟩
    · rintro σ H1 ⟨e, y, rfl, rfl⟩
      refine ⟨_, rfl, _, _, rfl, rfl, ⟨by decide, by decide, by decide⟩, _, _, rfl, rfl, _, rfl, ite2 (fun c => ?_) (fun c => ?_)⟩
      · refine ⟨_, rfl, _, rfl, by show 3 ≤ sizeLine; decide, fun z hz => ?_⟩
        exact q z _ (sm.trans (same_new hz _)) (sm.free hz) ⟨_, _, _, upd_same⟩
      · refine ⟨_, rfl, _, rfl, by show 3 ≤ sizeLine; decide, fun z hz => ?_⟩
        exact q z _ (sm.trans (same_new hz _)) (sm.free hz) ⟨_, _, _, upd_same⟩
theorem ok__law_take (T : Txt K w mg) : OkD P w K mg base CX0 1 "_law_take" p__law_take spTake := by
  refine T.g__law_take.ok sc__law_take (fun vs H Q E h => ?_) (fun f cdv A outer s H vs Q E hr h => ?_)
  · obtain ⟨b, n, rfl, _⟩ := h; rfl
  obtain ⟨b, n, rfl, ⟨c, sd, m, hb⟩, hn0, hn1, q⟩ := h
  refine ⟨_, (pss_cons (ps_asg (pe_op op_add (pe_ix ix_list (pv 0) pe_int (fun _ _ => rfl)) pe_int) (pg_sub (pv 0) pe_int set_list))
      (pss_cons (ps_if (pt_cmpR op_gt (pe_ix ix_list (pv 0) pe_int (fun _ _ => rfl)) pe_int (nomark _)) (pss_cons (ps_set (i := 2) sc__law_take.nd rfl (.inl rfl) (pe_op op_mod (pe_callTy call_int1 (by rfl) T.z_int PyProof.Rows.boot_int (pa_cons (pe_ix ix_list (pv 0) pe_int (fun _ _ => rfl)) pa_nil)) (pv 1)))
      (pss_cons (ps_asg (pe_op op_fdiv (pe_ix ix_list (pv 0) pe_int (fun _ _ => rfl)) (pv 1)) (pg_sub (pv 0) pe_int set_list))
      (pss_one (ps_ret (pv 2))))) pss_nil)
      (pss_cons (ps_set (i := 3) sc__law_take.nd rfl (.inl rfl) (pe_op op_mod (pe_callTy call_int1 (by rfl) T.z_int PyProof.Rows.boot_int (pa_cons (pe_op op_add (pe_op op_mul (pe_ix ix_list (pv 0) pe_int (fun _ _ => rfl)) pe_int) (pe_op op_mul (pe_ix ix_list (pv 0) pe_int (fun _ _ => rfl)) pe_int)) pa_nil)) pe_int))
      (pss_cons (ps_set (i := 4) sc__law_take.nd rfl (.inl rfl) (pe_op op_mod (pe_callTy call_int1 (by rfl) T.z_int PyProof.Rows.boot_int (pa_cons (pe_op op_add (pe_op op_add (pe_op op_mul (pe_op op_fdiv (pv 3) pe_int) (pv 3)) (pe_op op_mul (pe_ix ix_list (pv 0) pe_int (fun _ _ => rfl)) pe_int)) pe_int) pa_nil)) pe_int))
      (pss_one (ps_ret (pe_op op_mod (pe_op op_fdiv (pe_op op_mod (pe_callTy call_int1 (by rfl) T.z_int PyProof.Rows.boot_int (pa_cons (pe_op op_add (pe_op op_mul (pv 4) pe_int) (pe_ix ix_list (pv 0) pe_int (fun _ _ => rfl))) pa_nil)) pe_int) pe_int) (pv 1)))))))), ?_⟩
  have k64 : (-(2 ^ 64) : Int) < 48271 := by decide
  refine ⟨_, rfl, b, _, 2, _, rfl, rfl, SqL.of hb, rfl, _, _, rfl, rfl, ?_⟩
  refine ⟨_, rfl, b, _, 2, 2, rfl, rfl, hb, rfl, ?_⟩
  refine ⟨_, rfl, b, _, 0, _, rfl, rfl, SqL.of upd_same, rfl, _, _, rfl, rfl, _, rfl, ?_⟩
  refine ite2 (fun cc => ?_) (fun cc => ?_)
  · refine ⟨_, rfl, b, _, 0, _, rfl, rfl, SqL.of upd_same, rfl, .inl ⟨_, rfl, _, rfl, _, _, rfl, rfl, hn0, ?_⟩⟩
    refine ⟨_, rfl, b, _, 0, _, rfl, rfl, SqL.of upd_same, rfl, _, rfl, _, _, rfl, rfl, ⟨hn0, by omega⟩, ?_⟩
    refine ⟨_, rfl, b, _, 0, 0, rfl, rfl, upd_same, rfl, ?_⟩
    refine ⟨_, rfl, ?_⟩
    rw [upd_upd]
    exact q _ _ (Int.emod_nonneg _ (by omega)) (Int.emod_lt_of_pos _ hn0) ⟨⟨_, _, _, hb⟩, ⟨_, _, _, upd_same⟩, fun a o n e => by rw [upd_ne n]; exact e⟩
  · refine ⟨_, rfl, b, _, 1, _, rfl, rfl, SqL.of upd_same, rfl, _, _, rfl, rfl, .inr ⟨by decide, by decide⟩, _, rfl, b, _, 2, _, rfl, rfl, SqL.of upd_same, rfl, _, _, rfl, rfl, .inr ⟨by decide, by decide⟩, _, _, rfl, rfl, .inl ⟨_, rfl, _, _, rfl, rfl, (by show (0 : Int) < _; decide), ?_⟩⟩
    obtain ⟨f1, hf1⟩ : ∃ f1 : Int, f1 = (sd * 48271 + (m + 1) * 1299709) % 2147483647 := ⟨_, rfl⟩
    have hf0 : 0 ≤ f1 := by rw [hf1]; exact Int.emod_nonneg _ (by decide)
    have hf2 : f1 < 2147483647 := by rw [hf1]; exact Int.emod_lt_of_pos _ (by decide)
    refine ⟨_, rfl, _, _, rfl, rfl, ⟨by decide, by decide⟩, _, rfl, _, _, rfl, rfl, .inr ?_, _, rfl, b, _, 2, _, rfl, rfl, SqL.of upd_same, rfl, _, _, rfl, rfl, .inr ⟨by decide, by decide⟩, _, _, rfl, rfl, _, _, rfl, rfl, .inl ⟨_, rfl, _, _, rfl, rfl, (by show (0 : Int) < _; decide), ?_⟩⟩
    · show (-(2 ^ 64) : Int) < (sd * 48271 + (m + 1) * 1299709) % 2147483647 ∧ (sd * 48271 + (m + 1) * 1299709) % 2147483647 < 2 ^ 64
      rw [← hf1]
      omega
    refine ⟨_, rfl, _, _, rfl, rfl, .inr ⟨by decide, by decide⟩, _, rfl, b, _, 1, _, rfl, rfl, SqL.of upd_same, rfl, _, _, rfl, rfl, .inl ⟨_, rfl, _, _, rfl, rfl, (by show (0 : Int) < _; decide), _, _, rfl, rfl, ⟨by decide, by decide⟩, _, rfl, _, _, rfl, rfl, hn0, ?_⟩⟩
    exact q _ _ (Int.emod_nonneg _ (by omega)) (Int.emod_lt_of_pos _ hn0) ⟨⟨_, _, _, hb⟩, ⟨_, _, _, upd_same⟩, fun a o n e => by rw [upd_ne n]; exact e⟩
end
end D0
namespace D0
open PySem PySem.Spec PyProof.Rows L2 SX NumText
theorem Stp.new {b p : Addr} {H : Hp} {o : HO} (x : Bag H b) (h : H p = none) : Stp b H (upd H p o) := Stp.same x (same_new h o)
def letL : List Nat := [97, 98, 99, 100, 101, 102, 103, 104, 105, 106, 107, 108, 109, 110, 111, 112, 113, 114, 115, 116, 117, 118, 119, 120, 121, 122, 65, 66, 67, 68, 69, 70, 71, 72, 73, 74, 75, 76, 77, 78, 79, 80, 81, 82, 83, 84, 85, 86, 87, 88, 89, 90, 95]
def digL : List Nat := [48, 49, 50, 51, 52, 53, 54, 55, 56, 57]
def allL : List Nat := [32, 33, 34, 35, 36, 38, 39, 40, 41, 42, 43, 44, 45, 46, 47, 48, 49, 50, 51, 52, 53, 54, 55, 56, 57, 58, 59, 60, 61, 62, 63, 64, 65, 66, 67, 68, 69, 70, 71, 72, 73, 74, 75, 76, 77, 78, 79, 80, 81, 82, 83, 84, 85, 86, 87, 88, 89, 90, 91, 92, 93, 94, 95, 96, 97, 98, 99, 100, 101, 102, 103, 104, 105, 106, 107, 108, 109, 110, 111, 112, 113, 114, 115, 116, 117, 118, 119, 120, 121, 122, 123, 124, 125, 126, 10]
def spConst (l : List Nat) : Sp := fun vs H Q _ => vs = [] ∧ Q (.str (S l)) H
/-- a text of at most n signs; the bag goes on -/
def spTxt (n : Nat) : Sp := fun vs H Q _ => ∃ (b : Addr), vs = [.ref b] ∧ Bag H b ∧ ∀ (l : List Nat) H', l.length ≤ n → Stp b H H' → Q (.str (S l)) H'
def spStrs (ls : List (List Nat)) : Sp := fun vs H Q _ => vs = [] ∧ ∀ p H', Same H H' → H p = none → H' p = some (.lst (ls.map fun l => V.str (S l))) → Q (.ref p) H'
def KWL : List (List Nat) := KW
section
variable {P : Program} {w : World} {K : PySem.W.Frag} {mg : Str → Option Value} {base : Heap}
theorem ok__law_letters (T : Txt K w mg) : OkD P w K mg base CX0 1 "_law_letters" p__law_letters (spConst letL) := by
  refine T.g__law_letters.ok sc__law_letters (fun vs H Q E h => ?_) (fun f cdv A outer s H vs Q E hr h => ?_)
  · obtain ⟨rfl, _⟩ := h; rfl
  obtain ⟨rfl, q⟩ := h
  refine ⟨_, pss_one (ps_ret pe_str), ?_⟩
  have e : Str.ofString "abcdefghijklmnopqrstuvwxyzABCDEFGHIJKLMNOPQRSTUVWXYZ_" = S letL := by decide +kernel
  show Q (.str (Str.ofString "abcdefghijklmnopqrstuvwxyzABCDEFGHIJKLMNOPQRSTUVWXYZ_")) H
  rw [e]; exact q
theorem ok__law_allowed (T : Txt K w mg) : OkD P w K mg base CX0 1 "_law_allowed" p__law_allowed (spConst allL) := by
  refine T.g__law_allowed.ok sc__law_allowed (fun vs H Q E h => ?_) (fun f cdv A outer s H vs Q E hr h => ?_)
  · obtain ⟨rfl, _⟩ := h; rfl
  obtain ⟨rfl, q⟩ := h
  refine ⟨_, (pss_cons (ps_set (i := 0) sc__law_allowed.nd rfl (.inl rfl) pe_str)
      (pss_one (ps_ret (pe_op op_add_str (pv 0) pe_str)))), ?_⟩
  refine ⟨_, rfl, _, _, rfl, rfl, ?_, ?_⟩
  · decide +kernel
  · have e : (Str.ofString " !\"#$&'()*+,-./0123456789:;<=>?@ABCDEFGHIJKLMNOPQRSTUVWXYZ[\\]^_") ++ (Str.ofString "`abcdefghijklmnopqrstuvwxyz{|}~\n") = S allL := by decide +kernel
    rw [e]; exact q
theorem ok__law_signs (T : Txt K w mg) : OkD P w K mg base CX0 1 "_law_signs" p__law_signs (spStrs SG) := by
  refine T.g__law_signs.ok sc__law_signs (fun vs H Q E h => ?_) (fun f cdv A outer s H vs Q E hr h => ?_)
  · obtain ⟨rfl, _⟩ := h; rfl
  obtain ⟨rfl, q⟩ := h
  refine ⟨_, pss_one (ps_ret (pe_split pe_str pe_str)), ?_⟩
  have e : Txt.split (Str.ofString "//= += -= *= // == != <= >= < > = + - * ( ) [ ] { } , : .") (Str.ofString " ") = SG.map S := by decide +kernel
  refine ⟨⟨_, rfl⟩, _, _, rfl, rfl, by decide +kernel, by decide +kernel, fun p hp => ?_⟩
  rw [e]
  refine q p _ (same_new hp _) hp ?_
  rw [upd_same, List.map_map]; rfl
theorem ok__law_keywords (T : Txt K w mg) : OkD P w K mg base CX0 1 "_law_keywords" p__law_keywords (spStrs KW) := by
  refine T.g__law_keywords.ok sc__law_keywords (fun vs H Q E h => ?_) (fun f cdv A outer s H vs Q E hr h => ?_)
  · obtain ⟨rfl, _⟩ := h; rfl
  obtain ⟨rfl, q⟩ := h
  refine ⟨_, (pss_cons (ps_set (i := 0) sc__law_keywords.nd rfl (.inl rfl) pe_str)
      (pss_cons (ps_set (i := 0) sc__law_keywords.nd rfl (.inl rfl) (pe_op op_add_str (pv 0) pe_str))
      (pss_one (ps_ret (pe_split (pv 0) pe_str))))), ?_⟩
  have e : Txt.split (Str.ofString "and as break class continue def del elif else except False finally for from global if in is" ++ Str.ofString " lambda mod None nonlocal not or pass raise return True try while with yield") (Str.ofString " ") = KW.map S := by decide +kernel
  refine ⟨_, rfl, _, _, rfl, rfl, by decide +kernel, ?_⟩
  refine ⟨_, rfl, ⟨_, rfl⟩, _, _, rfl, rfl, by decide +kernel, by decide +kernel, fun p hp => ?_⟩
  rw [e]
  refine q p _ (same_new hp _) hp ?_
  rw [upd_same, List.map_map]; rfl
end
end D0
namespace D0
open PySem PySem.Spec PyProof.Rows L2 SX NumText
/-- a name's letters -/
def NameL (l : List Nat) : Prop := l.length ≤ 30 ∧ l.all namc = true ∧ ∃ c t, l = c :: t ∧ letc c = true
/-- a number's digits -/
def FigL (l : List Nat) : Prop := l.length ≤ 40 ∧ l.all isDig = true ∧ ∃ c t, l = c :: t ∧ (c = 48 → t = [])
def spSpelled : Sp := fun vs H Q _ => ∃ (b : Addr) (n : Nat) (f : Bool), vs = [.ref b, .int (n : Nat), .bl f] ∧ Bag H b ∧ n ≤ 50 ∧ (f = true → 1 ≤ n) ∧ ∀ (l : List Nat) H', l.length = n → l.all namc = true → (f = true → ∃ c t, l = c :: t ∧ letc c = true) → Stp b H H' → Q (.str (S l)) H'
def spFigs : Sp := fun vs H Q _ => ∃ (b : Addr) (n : Nat), vs = [.ref b, .int (n : Nat)] ∧ Bag H b ∧ 1 ≤ n ∧ n ≤ 50 ∧ ∀ (l : List Nat) H', l.length = n → l.all isDig = true → (∃ c t, l = c :: t ∧ c ≠ 48) → Stp b H H' → Q (.str (S l)) H'
theorem letL_ok : ∀ c ∈ letL, letc c = true := by decide
theorem more_ok : ∀ c ∈ letL ++ digL, namc c = true := by decide
theorem digL_ok : ∀ c ∈ digL, isDig c = true := by decide
theorem dig9_ok : ∀ c ∈ digL.drop 1, isDig c = true ∧ c ≠ 48 := by decide
theorem allL_ok : ∀ c ∈ allL, c ≠ 10 → rowc c = true := by decide
theorem namc_let {c : Nat} (h : letc c = true) : namc c = true := by unfold namc; rw [h]; rfl
section
variable {P : Program} {w : World} {K : PySem.W.Frag} {mg : Str → Option Value} {base : Heap}
theorem ok__law_spelled (T : Txt K w mg) (Ot : OkD P w K mg base CX0 1 "_law_take" p__law_take spTake) (Ol : OkD P w K mg base CX0 1 "_law_letters" p__law_letters (spConst letL)) : OkD P w K mg base CX0 2 "_law_spelled" p__law_spelled spSpelled := by
  refine T.g__law_spelled.ok sc__law_spelled (fun vs H Q E h => ?_) (fun f cdv A outer s H vs Q E hr h => ?_)
  · obtain ⟨b, n, f, rfl, _⟩ := h; rfl
  obtain ⟨b, n, f, rfl, hb, hn, hf, q⟩ := h
  have z : Str.ofString "0123456789" = S digL ∧ Str.ofString "" = S [] := by decide +kernel
  have hM : (letL ++ digL).length = 63 := by decide
  have hL : letL.length = 53 := by decide
  have lim : (1000 : Nat) ≤ sizeLine := by decide
  refine ⟨_, (pss_cons (ps_set (i := 3) sc__law_spelled.nd rfl (.inl rfl) (pcall0 Ol hr))
      (pss_cons (ps_set (i := 4) sc__law_spelled.nd rfl (.inl rfl) (pe_op op_add_str (pv 3) pe_str))
      (pss_cons (ps_set (i := 5) sc__law_spelled.nd rfl (.inl rfl) (PE.of (t' := fun σ H Q => σ = [some (.ref b), some (.int (n : Nat)), some (.bl f), some (.str (S letL)), some (.str (S (letL ++ digL))), none, none] ∧ Bag H b ∧ ∀ l H', l.length ≤ n → l.all namc = true → (f = true → ∃ c t, l = c :: t ∧ letc c = true) → Stp b H H' → Q (.str (S l)) H') (pe_ifExp (pt_val (pv 2)) (pe_ix ix_str (pv 3) (pcall Ot hr (pa_cons (pv 0) (pa_cons pe_int pa_nil))) (fun _ _ => rfl)) pe_str) ?ife))
      (pss_cons (ps_for PassesOwn.never rfl (pi_range1 rfl T.z_range (pa_cons (pe_op op_sub (pv 1) (pe_callB call_len_str (by rfl) T.z_len PySem.boot_len (pa_cons (pv 5) pa_nil))) pa_nil)) (pg_name (i := 6) sc__law_spelled.nd rfl (Or.inl rfl)) (pss_one (ps_set (i := 5) sc__law_spelled.nd rfl (.inl rfl) (pe_op op_add_str (pv 5) (pe_ix ix_str (pv 4) (pcall Ot hr (pa_cons (pv 0) (pa_cons pe_int pa_nil))) (fun _ _ => rfl))))))
      (pss_one (ps_ret (pv 5))))))), ?_⟩
  case ife =>
    rintro σ H Q ⟨rfl, hb, h2⟩
    refine ⟨_, rfl, f, rfl, ?_⟩
    cases f with
    | true =>
      refine iteT ⟨_, rfl, _, rfl, b, 53, rfl, hb, by decide, by decide, fun r H1 r0 r1 st => ?_⟩
      obtain ⟨k, rfl⟩ : ∃ k : Nat, r = (k : Int) := ⟨r.toNat, by omega⟩
      have gk : letL[k]? = some (letL[k]'(by omega)) := List.getElem?_eq_getElem (by omega)
      generalize letL[k]'_ = c1 at gk
      have hc1 := letL_ok c1 (List.mem_of_getElem? gk)
      exact ⟨S letL, _, c1, rfl, rfl, by rw [S_len, hL]; omega, at_S gk, h2 [c1] H1 (hf rfl) (by rw [List.all_cons, namc_let hc1]; rfl) (fun _ => ⟨c1, [], rfl, hc1⟩) st⟩
    | false =>
      refine iteF ?_
      rw [z.2]
      exact h2 [] H (Nat.zero_le _) rfl (fun h => by cases h) (Stp.refl hb)
  refine ⟨rfl, _, rfl, _, _, rfl, rfl, by rw [S_len, hL, z.1, S_len]; show 53 + 10 ≤ _; omega, ?_⟩
  rw [z.1, S_cat]
  refine ⟨rfl, hb, fun l0 H1 hl0 ha0 hh0 st => ?_⟩
  refine ⟨_, rfl, _, rfl, _, rfl, by rw [S_len]; omega, _, _, rfl, rfl, ((n - l0.length : Nat) : Int), by rw [S_len]; show [V.int _] = [V.int _]; congr 2; omega, by omega, by omega, ?_⟩
  refine for_range (lo := 0) (n := (((n - l0.length : Nat) : Int)).toNat) (fun i σ H' => ∃ (l : List Nat) (y : Option V), σ = [some (.ref b), some (.int (n : Nat)), some (.bl f), some (.str (S letL)), some (.str (S (letL ++ digL))), some (.str (S (l0 ++ l))), y] ∧ Stp b H H' ∧ l.length = i ∧ l.all namc = true) ⟨[], none, by rw [List.append_nil]; rfl, st, rfl, rfl⟩ ?_ ?_
  · rintro i σ H3 hi ⟨l, y, rfl, st3, hlen, hal⟩
    refine ⟨_, rfl, _, rfl, _, rfl, b, 63, rfl, st3.b1, by decide, by decide, fun r H4 r0 r1 st4 => ?_⟩
    obtain ⟨k, rfl⟩ : ∃ k : Nat, r = (k : Int) := ⟨r.toNat, by omega⟩
    have gk : (letL ++ digL)[k]? = some ((letL ++ digL)[k]'(by omega)) := List.getElem?_eq_getElem (by omega)
    generalize (letL ++ digL)[k]'_ = c2 at gk
    refine ⟨S (letL ++ digL), _, c2, rfl, rfl, by rw [S_len, hM]; omega, at_S gk, ?_⟩
    refine ⟨_, _, rfl, rfl, ?_, ?_⟩
    · show (S (l0 ++ l)).length + (S [c2]).length ≤ _; rw [S_len, S_len, List.length_append]; show _ + 1 ≤ _; omega
    · exact ⟨l ++ [c2], _, by rw [← List.append_assoc, ← S_cat (l0 ++ l) [c2]]; rfl, st3.trans st4, by rw [List.length_append, hlen]; rfl, by rw [List.all_append, hal, List.all_cons, more_ok c2 (List.mem_of_getElem? gk)]; rfl⟩
  · rintro σ H3 ⟨l, y, rfl, st3, hlen, hal⟩
    refine ⟨_, rfl, q (l0 ++ l) H3 (by rw [List.length_append]; omega) (by rw [List.all_append, ha0, hal]; rfl) (fun e => ?_) st3⟩
    obtain ⟨c, t, e1, hc⟩ := hh0 e
    exact ⟨c, t ++ l, by rw [e1]; rfl, hc⟩
theorem ok__law_figures (T : Txt K w mg) (Ot : OkD P w K mg base CX0 1 "_law_take" p__law_take spTake) : OkD P w K mg base CX0 2 "_law_figures" p__law_figures spFigs := by
  refine T.g__law_figures.ok sc__law_figures (fun vs H Q E h => ?_) (fun f cdv A outer s H vs Q E hr h => ?_)
  · obtain ⟨b, n, rfl, _⟩ := h; rfl
  obtain ⟨b, n, rfl, hb, hn1, hn, q⟩ := h
  have z : Str.ofString "0123456789" = S digL ∧ Str.ofString "123456789" = S (digL.drop 1) := by decide +kernel
  have hD : digL.length = 10 := by decide
  have lim : (1000 : Nat) ≤ sizeLine := by decide
  refine ⟨_, (pss_cons (ps_set (i := 2) sc__law_figures.nd rfl (.inl rfl) (pe_ix ix_str pe_str (pcall Ot hr (pa_cons (pv 0) (pa_cons pe_int pa_nil))) (fun _ _ => rfl)))
      (pss_cons (ps_for PassesOwn.never rfl (pi_range1 rfl T.z_range (pa_cons (pe_op op_sub (pv 1) pe_int) pa_nil)) (pg_name (i := 3) sc__law_figures.nd rfl (Or.inl rfl)) (pss_one (ps_set (i := 2) sc__law_figures.nd rfl (.inl rfl) (pe_op op_add_str (pv 2) (pe_ix ix_str pe_str (pcall Ot hr (pa_cons (pv 0) (pa_cons pe_int pa_nil))) (fun _ _ => rfl))))))
      (pss_one (ps_ret (pv 2))))), ?_⟩
  refine ⟨_, rfl, b, 9, rfl, hb, by decide, by decide, fun r H1 r0 r1 st => ?_⟩
  obtain ⟨k, rfl⟩ : ∃ k : Nat, r = (k : Int) := ⟨r.toNat, by omega⟩
  have hD1 : (digL.drop 1).length = 9 := by decide
  have gk : (digL.drop 1)[k]? = some ((digL.drop 1)[k]'(by omega)) := List.getElem?_eq_getElem (by omega)
  generalize (digL.drop 1)[k]'_ = c1 at gk
  have hc1 := dig9_ok c1 (List.mem_of_getElem? gk)
  refine ⟨S (digL.drop 1), _, c1, by rw [← z.2], rfl, by rw [S_len, hD1]; omega, at_S gk, ?_⟩
  refine ⟨_, rfl, _, _, rfl, rfl, ((n - 1 : Nat) : Int), by show [V.int _] = [V.int _]; congr 2; omega, by omega, by omega, ?_⟩
  refine for_range (lo := 0) (n := (((n - 1 : Nat) : Int)).toNat) (fun i σ H' => ∃ (l : List Nat) (y : Option V), σ = [some (.ref b), some (.int (n : Nat)), some (.str (S (c1 :: l))), y] ∧ Stp b H H' ∧ l.length = i ∧ l.all isDig = true) ⟨[], none, rfl, st, rfl, rfl⟩ ?_ ?_
  · rintro i σ H3 hi ⟨l, y, rfl, st3, hlen, hal⟩
    refine ⟨_, rfl, _, rfl, b, 10, rfl, st3.b1, by decide, by decide, fun r H4 r0 r1 st4 => ?_⟩
    obtain ⟨k, rfl⟩ : ∃ k : Nat, r = (k : Int) := ⟨r.toNat, by omega⟩
    have gk : digL[k]? = some (digL[k]'(by omega)) := List.getElem?_eq_getElem (by omega)
    generalize digL[k]'_ = c2 at gk
    refine ⟨S digL, _, c2, by rw [← z.1], rfl, by rw [S_len, hD]; omega, at_S gk, ?_⟩
    refine ⟨_, _, rfl, rfl, ?_, ?_⟩
    · show (S (c1 :: l)).length + (S [c2]).length ≤ _; rw [S_len, S_len, List.length_cons]; show _ + 1 + 1 ≤ _; omega
    · exact ⟨l ++ [c2], _, by rw [← List.cons_append, ← S_cat (c1 :: l) [c2]]; rfl, st3.trans st4, by rw [List.length_append, hlen]; rfl, by rw [List.all_append, hal, List.all_cons, digL_ok c2 (List.mem_of_getElem? gk)]; rfl⟩
  · rintro σ H3 ⟨l, y, rfl, st3, hlen, hal⟩
    exact ⟨_, rfl, q (c1 :: l) H3 (by rw [List.length_cons]; omega) (by rw [List.all_cons, hc1.1, hal]; rfl) ⟨c1, l, rfl, hc1.2⟩ st3⟩
end
end D0
namespace D0
open PySem PySem.Spec PyProof.Rows L2 SX NumText
theorem Stp.none {b p : Addr} {H H' : Hp} (x : Stp b H H') (n : p ≠ b) (h : H' p = none) : H p = none := by
  cases e : H p with
  | none => rfl
  | some o => rw [x.keep p o n e] at h; cases h
/-- a sign of a text: written plainly, or behind a backslash -/
def unitSp : Nat × Bool → List Nat
  | (c, false) => [c]
  | (c, true) => [92, if c = 10 then 110 else c]
theorem unitSp_len : ∀ v : Nat × Bool, (unitSp v).length ≤ 2
  | (_, false) => by show 1 ≤ 2; decide
  | (_, true) => by show 2 ≤ 2; decide
theorem unitsSp_len : ∀ us : List (Nat × Bool), (us.flatMap unitSp).length ≤ 2 * us.length
  | [] => Nat.le_refl 0
  | v :: vs => by
    rw [List.flatMap_cons, List.length_append, List.length_cons]
    have := unitSp_len v
    have := unitsSp_len vs
    omega
def UnitOk (q : Nat) : Nat × Bool → Prop
  | (c, false) => rowc c = true ∧ c ≠ 92 ∧ c ≠ q
  | (c, true) => c = 10 ∨ c = 92 ∨ c = 34 ∨ c = 39
/-- the text w, spelled -/
def TextL (n : Nat) (w sp : List Nat) : Prop := ∃ (q : Nat) (us : List (Nat × Bool)), (q = 34 ∨ q = 39) ∧ w = us.map Prod.fst ∧ sp = q :: (us.flatMap unitSp ++ [q]) ∧ us.length ≤ n ∧ ∀ u ∈ us, UnitOk q u
def spInner : Sp := fun vs H Q _ => ∃ (b : Addr) (cq m : Nat), vs = [.ref b, .str (S [cq]), .int (m : Nat)] ∧ Bag H b ∧ (cq = 34 ∨ cq = 39) ∧ 1 ≤ m ∧ m ≤ 10 ∧ ∀ (us : List (Nat × Bool)) H' a, us.length < m → (∀ u ∈ us, UnitOk cq u) → Stp b H H' → H a = none → a ≠ b → H' a = some (.lst [.str (S (us.map Prod.fst)), .str (S (us.flatMap unitSp))]) → Q (.ref a) H'
theorem PS.of {X : Cx} {e : Stmt} {t t' : TS} (h : PS X e t) (f : ∀ D σ H, t' D σ H → t D σ H) : PS X e t' := ⟨fun pins s σ H D I q => h.run pins s σ H D I (f D σ H q)⟩
def okc10 (c : Nat) : Prop := rowc c = true ∨ c = 10
section
variable {P : Program} {w : World} {K : PySem.W.Frag} {mg : Str → Option Value} {base : Heap}
theorem ok__law_inner (T : Txt K w mg) (Ot : OkD P w K mg base CX0 1 "_law_take" p__law_take spTake) (Oa : OkD P w K mg base CX0 1 "_law_allowed" p__law_allowed (spConst allL)) : OkD P w K mg base CX0 2 "_law_inner" p__law_inner spInner := by
  refine T.g__law_inner.ok sc__law_inner (fun vs H Q E h => ?_) (fun f cdv A outer s H vs Q E hr h => ?_)
  · obtain ⟨b, cq, m, rfl, _⟩ := h; rfl
  obtain ⟨b, cq, m, rfl, hb, hcq, hm1, hm, q⟩ := h
  have z : Str.ofString "\"'" = S [34, 39] ∧ Str.ofString "\\n" = S [92, 110] ∧ Str.ofString "\\" = S [92] ∧ Str.ofString "\n" = S [10] ∧ Str.ofString "" = S [] ∧ Str.ofString "\\'\"\n" = S [92, 39, 34, 10] := by decide +kernel
  have hL : allL.length = 95 := by decide
  have lim : (1000 : Nat) ≤ sizeLine := by decide
  refine ⟨_, (pss_cons (ps_set (i := 3) sc__law_inner.nd rfl (.inl rfl) (pcall0 Oa hr))
      (pss_cons (ps_set (i := 4) sc__law_inner.nd rfl (.inl rfl) pe_str)
      (pss_cons (ps_set (i := 5) sc__law_inner.nd rfl (.inl rfl) pe_str)
      (pss_cons (ps_for PassesOwn.never rfl (pi_range1 rfl T.z_range (pa_cons (pcall Ot hr (pa_cons (pv 0) (pa_cons (pv 2) pa_nil))) pa_nil)) (pg_name (i := 6) sc__law_inner.nd rfl (Or.inl rfl))
    (pss_cons (ps_set (i := 7) sc__law_inner.nd rfl (.inl rfl) (pe_ix ix_str (pv 3) (pcall Ot hr (pa_cons (pv 0) (pa_cons (pe_callB call_len_str (by rfl) T.z_len PySem.boot_len (pa_cons (pv 3) pa_nil)) pa_nil))) (fun _ _ => rfl)))
      (pss_cons (PS.of (t' := fun D σ H => σ[0]? = some (some (V.ref b)) ∧ Bag H b ∧ (∃ c, okc10 c ∧ σ.set 7 (some (V.str (S [c]))) = σ) ∧ ∀ c H', okc10 c → Stp b H H' → D.nx (σ.set 7 (some (V.str (S [c])))) H')
        (ps_if (pt_cmpR op_eq (pcall Ot hr (pa_cons (pv 0) (pa_cons pe_int pa_nil))) pe_int (nomark _)) (pss_one (ps_set (i := 7) sc__law_inner.nd rfl (.inl rfl) (pe_ix ix_str pe_str (pcall Ot hr (pa_cons (pv 0) (pa_cons pe_int pa_nil))) (fun _ _ => rfl)))) pss_nil) ?ifs)
      (pss_cons (ps_set (i := 4) sc__law_inner.nd rfl (.inl rfl) (pe_op op_add_str (pv 4) (pv 7)))
      (pss_cons (PS.of (t' := fun D σ H => σ[0]? = some (some (V.ref b)) ∧ Bag H b ∧ (∃ cq, σ[1]? = some (some (V.str (S [cq]))) ∧ (cq = 34 ∨ cq = 39) ∧ ∃ c, okc10 c ∧ σ[7]? = some (some (V.str (S [c]))) ∧ σ.set 7 (some (V.str (S [c]))) = σ ∧ ∀ u H', u.1 = c → UnitOk cq u → Stp b H H' → D.nx (σ.set 7 (some (V.str (S (unitSp u))))) H'))
        (ps_if (pt_cmpR op_eq (pv 7) pe_str (nomark _)) (pss_one (ps_set (i := 7) sc__law_inner.nd rfl (.inl rfl) pe_str)) (pss_one (ps_if (PW.pt (pw_or (pt_cmpR op_eq (pv 7) pe_str (nomark _)) (pw_or (pt_cmpR op_eq (pv 7) (pv 1) (nomark _)) (pw_or1 (PW.pt (pw_and (pt_cmpR op_in_sign (pv 7) pe_str (by rfl)) (pw_and1 (pt_cmpR op_eq (pcall Ot hr (pa_cons (pv 0) (pa_cons pe_int pa_nil))) pe_int (nomark _))))))))) (pss_one (ps_set (i := 7) sc__law_inner.nd rfl (.inl rfl) (pe_op op_add_str pe_str (pv 7)))) pss_nil))) ?ifc)
      (pss_one (ps_set (i := 5) sc__law_inner.nd rfl (.inl rfl) (pe_op op_add_str (pv 5) (pv 7)))))))))
      (pss_one (ps_ret (pe_lst (pa_cons (pv 4) (pa_cons (pv 5) pa_nil))))))))), ?_⟩
  case ifs =>
    rintro D σ H ⟨h0, hb, ⟨c, hc, hs⟩, q⟩
    refine ⟨_, h0, b, 5, rfl, hb, by decide, by decide, fun r H1 r0 r1 st => ⟨rfl, _, rfl, ite2 (fun _ => ?_) (fun _ => ?_)⟩⟩
    · refine ⟨_, h0, b, 4, rfl, st.b1, by decide, by decide, fun r H2 r0 r1 st2 => ?_⟩
      obtain ⟨k, rfl⟩ : ∃ k : Nat, r = (k : Int) := ⟨r.toNat, by omega⟩
      have gk : ([92, 39, 34, 10] : List Nat)[k]? = some (([92, 39, 34, 10] : List Nat)[k]'(by simp; omega)) := List.getElem?_eq_getElem (by simp; omega)
      generalize ([92, 39, 34, 10] : List Nat)[k]'_ = c3 at gk
      have hc3 : okc10 c3 := by
        have h4 : ∀ x ∈ ([92, 39, 34, 10] : List Nat), rowc x = true ∨ x = 10 := by decide
        exact h4 c3 (List.mem_of_getElem? gk)
      exact ⟨S [92, 39, 34, 10], _, c3, by rw [← z.2.2.2.2.2], rfl, by rw [S_len]; show 4 ≤ sizeLine; omega, at_S gk, q c3 H2 hc3 (st.trans st2)⟩
    · have := q c H1 hc st
      rw [hs] at this
      exact this
  case ifc =>
    rintro D σ H ⟨h0, hb, cq, h2, hq, c, hc, h7, hs, q⟩
    have sx : ∀ x y : Nat, (V.str (S [x]) = V.str (S [y])) → x = y := fun x y h => (List.cons.inj (S_inj (V.str.inj h))).1
    have hb0 := Stp.refl hb
    refine ⟨_, h7, rfl, _, rfl, ite2 (fun d => ?_) (fun d => ?_)⟩
    · have d := of_decide_eq_true d
      rw [z.2.2.2.1] at d
      have e := sx _ _ d
      have := q (c, true) H rfl (.inl e) hb0
      show D.nx (σ.set 7 (some (.str (Str.ofString "\\n")))) H
      rw [z.2.1]
      rw [show unitSp (c, true) = [92, 110] by show [92, if c = 10 then 110 else c] = _; rw [if_pos e]] at this
      exact this
    have n10 : c ≠ 10 := fun e => d (decide_eq_true (by rw [z.2.2.2.1, e]))
    have hrc : rowc c = true := hc.resolve_right n10
    have esc : ∀ H', (c = 92 ∨ c = 34 ∨ c = 39) → Stp b H H' → (Str.ofString "\\").length + (S [c]).length ≤ sizeLine ∧ D.nx (σ.set 7 (some (.str (Str.ofString "\\" ++ S [c])))) H' := fun H' hcc st => by
      rw [z.2.2.1, S_cat [92] [c]]
      refine ⟨by rw [S_len, S_len]; show 1 + 1 ≤ _; omega, ?_⟩
      have := q (c, true) H' rfl (.inr hcc) st
      rw [show unitSp (c, true) = [92] ++ [c] by show [92, if c = 10 then 110 else c] = _; rw [if_neg n10] <;> rfl] at this
      exact this
    have plain : ∀ H', c ≠ 92 → c ≠ cq → Stp b H H' → D.nx σ H' := fun H' h1 h3 st => by
      have := q (c, false) H' rfl ⟨hrc, h1, h3⟩ st
      rw [show unitSp (c, false) = [c] from rfl, hs] at this
      exact this
    refine ⟨_, h7, rfl, _, rfl, ite2 (fun d => ?_) (fun d => ?_)⟩
    · have d := of_decide_eq_true d
      rw [z.2.2.1] at d
      have h := esc H (.inl (sx _ _ d)) hb0
      exact iteT ⟨_, h7, _, _, rfl, rfl, h.1, h.2⟩
    have n92 : c ≠ 92 := fun e => d (decide_eq_true (by rw [z.2.2.1, e]))
    refine ⟨_, h7, _, h2, rfl, _, rfl, ite2 (fun d => ?_) (fun d => ?_)⟩
    · have d := of_decide_eq_true d
      have e := sx _ _ d
      have h := esc H (.inr (by rw [e]; exact hq)) hb0
      exact ⟨_, h7, _, _, rfl, rfl, h.1, h.2⟩
    have ncq : c ≠ cq := fun e => d (decide_eq_true (by rw [e]))
    refine ⟨_, h7, _, _, rfl, rfl, _, rfl, ite2 (fun d => ?_) (fun d => ?_)⟩
    · refine ⟨_, h0, b, 2, rfl, hb, by decide, by decide, fun r H5 _ _ st5 => ⟨rfl, _, rfl, ite2 (fun _ => ?_) (fun _ => ?_)⟩⟩
      · have hin : c = 34 ∨ c = 39 := by
          have d := of_decide_eq_true d
          rw [z.1] at d
          rcases List.mem_cons.mp d with h | h
          · exact .inl h
          · exact .inr (List.mem_singleton.mp h)
        have h := esc H5 (.inr hin) st5
        exact ⟨_, h7, _, _, rfl, rfl, h.1, h.2⟩
      · exact plain H5 n92 ncq st5
    · exact iteF (plain H n92 ncq hb0)
  refine ⟨rfl, ?_⟩
  rw [z.2.2.2.2.1]
  refine ⟨_, rfl, _, rfl, b, m, rfl, hb, by omega, by omega, fun r H2 r0 r1 st => ?_⟩
  refine ⟨r, rfl, by omega, by omega, ?_⟩
  refine for_range (lo := 0) (n := r.toNat) (fun i σ H' => ∃ (us : List (Nat × Bool)) (y y2 : Option V), σ = [some (.ref b), some (.str (S [cq])), some (.int (m : Nat)), some (.str (S allL)), some (.str (S (us.map Prod.fst))), some (.str (S (us.flatMap unitSp))), y, y2] ∧ Stp b H H' ∧ us.length = i ∧ ∀ u ∈ us, UnitOk cq u) ⟨[], none, none, rfl, st, rfl, fun u hu => by cases hu⟩ ?_ ?_
  · rintro i σ H3 hi ⟨us, y, y2, rfl, st3, hlen, hok⟩
    refine ⟨_, rfl, _, rfl, _, rfl, _, rfl, by rw [S_len, hL]; omega, b, 95, by rw [S_len, hL]; rfl, st3.b1, by decide, by decide, fun r H4 r0 r1 st4 => ?_⟩
    obtain ⟨k, rfl⟩ : ∃ k : Nat, r = (k : Int) := ⟨r.toNat, by omega⟩
    have gk : allL[k]? = some (allL[k]'(by omega)) := List.getElem?_eq_getElem (by omega)
    generalize allL[k]'_ = c2 at gk
    refine ⟨S allL, _, c2, rfl, rfl, by rw [S_len, hL]; omega, at_S gk, ?_⟩
    have hc2 : okc10 c2 := by
      by_cases e : c2 = 10
      · exact .inr e
      · exact .inl (allL_ok c2 (List.mem_of_getElem? gk) e)
    refine ⟨rfl, st4.b1, ⟨c2, hc2, rfl⟩, fun c H5 hc st5 => ?_⟩
    refine ⟨_, rfl, _, rfl, _, _, rfl, rfl, by rw [S_len, S_len, List.length_map]; show _ + 1 ≤ _; omega, ?_⟩
    refine ⟨rfl, st5.b1, cq, rfl, hcq, c, hc, rfl, rfl, fun u H6 hu huo st6 => ?_⟩
    subst hu
    have hfl := unitsSp_len us
    have hul : (unitSp u).length ≤ 2 := unitSp_len u
    refine ⟨_, rfl, _, rfl, _, _, rfl, rfl, by rw [S_len, S_len]; omega, ?_⟩
    refine ⟨us ++ [u], some (.int (0 + (i : Int))), some (.str (S (unitSp u))), ?_, st3.trans (st4.trans (st5.trans st6)), by rw [List.length_append, hlen]; rfl, fun v hv => ?_⟩
    · rw [List.map_append, List.flatMap_append, List.flatMap_cons, List.flatMap_nil, List.append_nil, ← S_cat, ← S_cat]
      rfl
    · rcases List.mem_append.mp hv with h | h
      · exact hok v h
      · rw [List.mem_singleton.mp h]; exact huo
  · rintro σ H3 ⟨us, y, y2, rfl, st3, hlen, hok⟩
    refine ⟨_, rfl, _, rfl, by show 2 ≤ sizeLine; omega, fun p hp => ?_⟩
    have nb := st3.b1.ne hp
    exact q us _ p (by omega) hok (st3.trans (Stp.new st3.b1 hp)) (st3.none nb hp) nb (upd_same)
end
end D0
namespace D0
open PySem PySem.Spec PyProof.Rows L2 SX NumText
theorem Bag.ne' {b a : Addr} {H : Hp} {vs : List (List Nat)} (x : Bag H b) (h : H a = some (.lst (vs.map fun l => V.str (S l)))) : a ≠ b := by
  obtain ⟨c, t, n, e⟩ := x
  intro z
  rw [z, e] at h
  have h := HO.lst.inj (Option.some.inj h)
  cases vs with
  | nil => cases h
  | cons v vs => cases (List.cons.inj h).1
def BRL : List (List Nat) := [[40], [41], [91], [93], [123], [125]]
theorem KW_nm : ∀ s ∈ KW, s.length ≤ 30 ∧ s.all namc = true ∧ ∃ c t, s = c :: t ∧ letc c = true := by
  have h : KW.all (fun s => decide (s.length ≤ 30) && s.all namc && (match s with | c :: _ => letc c | [] => false)) = true := by decide +kernel
  intro s hs
  have := List.all_eq_true.mp h s hs
  rw [Bool.and_eq_true, Bool.and_eq_true] at this
  obtain ⟨⟨h1, h2⟩, h3⟩ := this
  refine ⟨of_decide_eq_true h1, h2, ?_⟩
  cases s with
  | nil => cases h3
  | cons c t => exact ⟨c, t, rfl, h3⟩
theorem SG_nb : (SG.filter fun s => !decide (s ∈ BRL)).length = 18 ∧ ∀ s ∈ SG.filter (fun s => !decide (s ∈ BRL)), s.length ≤ 3 := by decide
/-- the piece of kind k, of word w, spelled sp -/
def TokL (k : Kd) (w : Wd) (sp : List Nat) : Prop :=
  (NameL sp ∧ k = (if sp ∈ KW then .keyword else .name) ∧ w = .s sp) ∨ (FigL sp ∧ k = .number ∧ w = .n (digitsVal sp)) ∨ (∃ t, TextL 10 t sp ∧ k = .text ∧ w = .s t) ∨ (sp ∈ SG ∧ k = .sign ∧ w = .s sp)
/-- what stands behind a piece -/
def Gp (st : Bool) (suf : List Nat) : Prop := suf = [] ∨ (st = false ∧ suf.head? = some 32)
/-- no token begins here: the scanner's fault is n places on -/
structure BadL (sp : List Nat) (n : Nat) (st : Bool) : Prop where
  row : sp.all rowc = true
  len : sp.length ≤ 50
  hd : ∃ c t, sp = c :: t ∧ c ≠ 32 ∧ c ≠ 35 ∧ c ≠ 40 ∧ c ≠ 91 ∧ c ≠ 123
  scan : ∀ l j suf, l.drop j = sp ++ suf → Gp st suf → scanTok l j = .error (j + n + 1)
structure It where
  sp : List Nat
  k : Kd
  w : Wd
  off : Option Nat
  st : Bool
def It.vs (i : It) : List V := [.str (S i.sp), .str (S i.k.cp), (match i.off with | none => i.w.v | some _ => .non), .int (match i.off with | none => -1 | some n => (n : Nat)), .bl i.st]
def ItOk (m : Bool) (i : It) : Prop := (i.off = none ∧ TokL i.k i.w i.sp) ∨ (∃ n, i.off = some n ∧ m = false ∧ BadL i.sp n i.st)
def ItQ (m : Bool) (b : Addr) (H : Hp) (Q : VK) : Prop := ∀ (i : It) H' a, ItOk m i → Stp b H H' → a ≠ b → H a = none → H' a = some (.lst i.vs) → Q (.ref a) H'
theorem ItQ.put {m : Bool} {b p : Addr} {H H1 : Hp} {Q : VK} {vs : List V} (q : ItQ m b H Q) (st : Stp b H H1) (hp : H1 p = none) (i : It) (ho : ItOk m i) (e : vs = i.vs) : Q (.ref p) (upd H1 p (.lst vs)) :=
  q i _ p ho (st.trans (Stp.new st.b1 hp)) (st.b1.ne hp) (st.none (st.b1.ne hp) hp) (by rw [upd_same, e])
theorem ItQ.trans {m : Bool} {b : Addr} {H H1 : Hp} {Q : VK} (q : ItQ m b H Q) (st : Stp b H H1) : ItQ m b H1 Q := fun i H' a ho st2 n hn e => q i H' a ho (st.trans st2) n (st.none n hn) e
theorem ItQ.any {m : Bool} {b : Addr} {H : Hp} {Q : VK} (q : ItQ m b H Q) : ItQ true b H Q := fun i H' a ho st2 n hn e => q i H' a (ho.imp id fun ⟨n, h1, h2, h3⟩ => by cases h2) st2 n hn e
def spNamed : Sp := fun vs H Q _ => ∃ (b : Addr) (l : List Nat), vs = [.str (S l)] ∧ Bag H b ∧ NameL l ∧ ItQ true b H Q
def spGood : Sp := fun vs H Q _ => ∃ (b : Addr), vs = [.ref b] ∧ Bag H b ∧ ItQ true b H Q
theorem TokL.name {l : List Nat} (h : NameL l) : TokL (if l ∈ KW then .keyword else .name) (.s l) l := .inl ⟨h, rfl, rfl⟩
section
variable {P : Program} {w : World} {K : PySem.W.Frag} {mg : Str → Option Value} {base : Heap}
theorem ok__law_named (T : Txt K w mg) (Ok : OkD P w K mg base CX0 1 "_law_keywords" p__law_keywords (spStrs KW)) :
    OkD P w K mg base CX0 2 "_law_named" p__law_named spNamed := by
  refine T.g__law_named.ok sc__law_named (fun vs H Q E h => ?_) (fun f cdv A outer s H vs Q E hr h => ?_)
  · obtain ⟨b, l, rfl, _⟩ := h; rfl
  obtain ⟨b, l, rfl, hb, hl, q⟩ := h
  have lim : (1000 : Nat) ≤ sizeLine := by decide
  have zk : Str.ofString "keyword" = S Kd.keyword.cp ∧ Str.ofString "name" = S Kd.name.cp := by decide +kernel
  refine ⟨_, (pss_one (ps_ret (pe_lst (pa_cons (pv 0) (pa_cons (pe_ifExp (pt_cmpR op_in_seq (pv 0) (pcall0 Ok hr) (by rfl)) pe_str pe_str) (pa_cons (pv 0) (pa_cons (pe_un un_neg pe_int) (pa_cons pe_bl pa_nil)))))))), ?_⟩
  refine ⟨_, rfl, _, rfl, rfl, fun p H3 sm3 hp hpl => ?_⟩
  refine ⟨p, KW.map fun l => V.str (S l), rfl, .inl (SqL.of hpl), rfl, flat_strs KW, _, rfl, ?_⟩
  have e2 := in_strs l KW
  have st3 := Stp.same hb sm3
  by_cases c : l ∈ KW
  · refine iteT' (by show (inV _ _) = true; rw [e2, decide_eq_true c]) ?_
    refine ⟨_, rfl, _, rfl, by show 5 ≤ sizeLine; omega, fun t ht => ?_⟩
    exact q.put st3 ht ⟨l, .keyword, .s l, none, false⟩ (.inl ⟨rfl, by have := TokL.name hl; rw [if_pos c] at this; exact this⟩) (by rw [zk.1]; rfl)
  · refine iteF' (by show (inV _ _) = false; rw [e2, decide_eq_false c]) ?_
    refine ⟨_, rfl, _, rfl, by show 5 ≤ sizeLine; omega, fun t ht => ?_⟩
    exact q.put st3 ht ⟨l, .name, .s l, none, false⟩ (.inl ⟨rfl, by have := TokL.name hl; rw [if_neg c] at this; exact this⟩) (by rw [zk.2]; rfl)
theorem ok__law_good (T : Txt K w mg) (Ot : OkD P w K mg base CX0 1 "_law_take" p__law_take spTake) (Os : OkD P w K mg base CX0 1 "_law_signs" p__law_signs (spStrs SG)) (Ok : OkD P w K mg base CX0 1 "_law_keywords" p__law_keywords (spStrs KW))
    (Op : OkD P w K mg base CX0 2 "_law_spelled" p__law_spelled spSpelled) (Of : OkD P w K mg base CX0 2 "_law_figures" p__law_figures spFigs) (Oi : OkD P w K mg base CX0 2 "_law_inner" p__law_inner spInner) (On : OkD P w K mg base CX0 2 "_law_named" p__law_named spNamed) :
    OkD P w K mg base CX0 3 "_law_good" p__law_good spGood := by
  refine T.g__law_good.ok sc__law_good (fun vs H Q E h => ?_) (fun f cdv A outer s H vs Q E hr h => ?_)
  · obtain ⟨b, rfl, _⟩ := h; rfl
  obtain ⟨b, rfl, hb, q⟩ := h
  have lim : (1000 : Nat) ≤ sizeLine := by decide
  have five : 5 ≤ sizeLine := by omega
  have zb : Str.ofString "(" = S [40] ∧ Str.ofString ")" = S [41] ∧ Str.ofString "[" = S [91] ∧ Str.ofString "]" = S [93] ∧ Str.ofString "{" = S [123] ∧ Str.ofString "}" = S [125] := by decide +kernel
  have zk : Str.ofString "text" = S Kd.text.cp ∧ Str.ofString "0" = S [48] ∧ Str.ofString "number" = S Kd.number.cp ∧ Str.ofString "sign" = S Kd.sign.cp ∧ Str.ofString "\"'" = S [34, 39] := by decide +kernel
  refine ⟨_, (pss_cons (ps_set (i := 1) sc__law_good.nd rfl (.inl rfl) (pcall Ot hr (pa_cons (pv 0) (pa_cons pe_int pa_nil))))
      (pss_cons (ps_if (pt_cmpR op_lt (pv 1) pe_int (nomark _)) (pss_one (ps_ret (pcall On hr (pa_cons (pcall Op hr (pa_cons (pv 0) (pa_cons (pe_op op_add pe_int (pcall Ot hr (pa_cons (pv 0) (pa_cons pe_int pa_nil)))) (pa_cons pe_bl pa_nil)))) pa_nil)))) pss_nil)
      (pss_cons (ps_if (pt_cmpR op_eq (pv 1) pe_int (nomark _)) (pss_one (ps_ret (pcall On hr (pa_cons (pcall Op hr (pa_cons (pv 0) (pa_cons (pe_op op_add pe_int (pcall Ot hr (pa_cons (pv 0) (pa_cons pe_int pa_nil)))) (pa_cons pe_bl pa_nil)))) pa_nil)))) pss_nil)
      (pss_cons (ps_if (pt_cmpR op_eq (pv 1) pe_int (nomark _)) (pss_cons (ps_set (i := 2) sc__law_good.nd rfl (.inl rfl) (pcall0 Ok hr))
      (pss_one (ps_ret (pcall On hr (pa_cons (pe_ix ix_list (pv 2) (pcall Ot hr (pa_cons (pv 0) (pa_cons (pe_callB call_len_seq (by rfl) T.z_len PySem.boot_len (pa_cons (pv 2) pa_nil)) pa_nil))) (fun _ _ => rfl)) pa_nil))))) pss_nil)
      (pss_cons (ps_if (pt_cmpR op_eq (pv 1) pe_int (nomark _)) (pss_one (ps_ret (pe_lst (pa_cons pe_str (pa_cons pe_str (pa_cons pe_int (pa_cons (pe_un un_neg pe_int) (pa_cons pe_bl pa_nil)))))))) pss_nil)
      (pss_cons (ps_if (pt_cmpR op_lt (pv 1) pe_int (nomark _)) (pss_cons (ps_set (i := 3) sc__law_good.nd rfl (.inl rfl) (pcall Of hr (pa_cons (pv 0) (pa_cons (pe_ix ix_list (pe_lst (pa_cons pe_int (pa_cons pe_int (pa_cons pe_int (pa_cons pe_int (pa_cons pe_int (pa_cons pe_int pa_nil))))))) (pcall Ot hr (pa_cons (pv 0) (pa_cons pe_int pa_nil))) (fun _ _ => rfl)) pa_nil))))
      (pss_one (ps_ret (pe_lst (pa_cons (pv 3) (pa_cons pe_str (pa_cons (pe_callTy call_int_str (by rfl) T.z_int PyProof.Rows.boot_int (pa_cons (pv 3) pa_nil)) (pa_cons (pe_un un_neg pe_int) (pa_cons pe_bl pa_nil))))))))) pss_nil)
      (pss_cons (ps_if (pt_cmpR op_lt (pv 1) pe_int (nomark _)) (pss_cons (ps_set (i := 4) sc__law_good.nd rfl (.inl rfl) (pe_ix ix_str pe_str (pcall Ot hr (pa_cons (pv 0) (pa_cons pe_int pa_nil))) (fun _ _ => rfl)))
      (pss_cons (ps_set (i := 5) sc__law_good.nd rfl (.inl rfl) (pcall Oi hr (pa_cons (pv 0) (pa_cons (pv 4) (pa_cons pe_int pa_nil)))))
      (pss_one (ps_ret (pe_lst (pa_cons (pe_op op_add_str (pe_op op_add_str (pv 4) (pe_ix ix_list (pv 5) pe_int (fun _ _ => rfl))) (pv 4)) (pa_cons pe_str (pa_cons (pe_ix ix_list (pv 5) pe_int (fun _ _ => rfl)) (pa_cons (pe_un un_neg pe_int) (pa_cons pe_bl pa_nil)))))))))) pss_nil)
      (pss_cons (ps_setLc (i := 7) (own := [("sign", 6)]) (g := gName 6) (by rfl) sc__law_good.nd rfl rfl (sw_true rfl rfl rfl (by decide +kernel)) (pi_list (pcall0 Os hr)) (blkOk_by (own := [("sign", 6)]) (N := n__law_good) (sc := defScope s__law_good) (by decide +kernel))
        (fun _ _ _ _ _ => (pg_name (i := 6) sc__law_good.nd rfl (Or.inl rfl))) (fun _ _ _ _ _ => pts_one (pt_cmpR (show OpR _ _ (rIn K true) from op_notIn_seq) (pv 6) (pe_lst (pa_cons pe_str (pa_cons pe_str (pa_cons pe_str (pa_cons pe_str (pa_cons pe_str (pa_cons pe_str pa_nil))))))) (by rfl))) (fun _ _ _ _ _ => pv 6))
      (pss_cons (ps_set (i := 6) sc__law_good.nd rfl (.inl rfl) (pe_ix ix_list (pv 7) (pcall Ot hr (pa_cons (pv 0) (pa_cons (pe_callB call_len_seq (by rfl) T.z_len PySem.boot_len (pa_cons (pv 7) pa_nil)) pa_nil))) (fun _ _ => rfl)))
      (pss_one (ps_ret (pe_lst (pa_cons (pv 6) (pa_cons pe_str (pa_cons (pv 6) (pa_cons (pe_un un_neg pe_int) (pa_cons pe_bl pa_nil))))))))))))))))), ?_⟩
  refine ⟨_, rfl, b, 12, rfl, hb, by decide, by decide, fun r H1 r0 r1 st => ?_⟩
  refine ⟨_, rfl, _, _, rfl, rfl, _, rfl, ite2 (fun _ => ?_) (fun _ => ?_)⟩
  · refine ⟨_, rfl, _, rfl, b, 6, rfl, st.b1, by decide, by decide, fun r H2 r0 r1 st2 => ?_⟩
    refine ⟨_, _, rfl, rfl, b, (1 + r).toNat, true, by show [V.ref b, V.int (1 + r), V.bl true] = _; rw [show (((1 + r).toNat : Nat) : Int) = 1 + r by omega], st2.b1, by omega, fun _ => by omega, fun l H3 hl ha hh st3 => ?_⟩
    have st' := st.trans (st2.trans st3)
    exact ⟨b, l, rfl, st'.b1, ⟨by omega, ha, hh rfl⟩, q.trans st'⟩
  refine ⟨_, rfl, rfl, _, rfl, ite2 (fun _ => ?_) (fun _ => ?_)⟩
  · refine ⟨_, rfl, _, rfl, b, 2, rfl, st.b1, by decide, by decide, fun r H2 r0 r1 st2 => ?_⟩
    refine ⟨_, _, rfl, rfl, b, (29 + r).toNat, true, by show [V.ref b, V.int (29 + r), V.bl true] = _; rw [show (((29 + r).toNat : Nat) : Int) = 29 + r by omega], st2.b1, by omega, fun _ => by omega, fun l H3 hl ha hh st3 => ?_⟩
    have st' := st.trans (st2.trans st3)
    exact ⟨b, l, rfl, st'.b1, ⟨by omega, ha, hh rfl⟩, q.trans st'⟩
  refine ⟨_, rfl, rfl, _, rfl, ite2 (fun _ => ?_) (fun _ => ?_)⟩
  · refine ⟨rfl, fun p H2 sm2 hp hpl => ?_⟩
    have st2 := Stp.same st.b1 sm2
    refine ⟨_, rfl, _, rfl, _, rfl, p, _, rfl, .inl (SqL.of hpl), b, 32, by rw [List.length_map]; rfl, st2.b1, by decide, by decide, fun r H3 r0 r1 st3 => ?_⟩
    obtain ⟨k, rfl⟩ : ∃ k : Nat, r = (k : Int) := ⟨r.toNat, by omega⟩
    have hk : k < KW.length := by show k < 32; omega
    have gk : KW[k]? = some KW[k] := List.getElem?_eq_getElem hk
    have hm := List.getElem_mem hk
    generalize KW[k]'_ = wd at gk hm
    have hpl3 := st3.keep p _ (st2.b1.ne' hpl) hpl
    have st4 := st.trans (st2.trans st3)
    exact ⟨p, _, _, .str (S wd), rfl, rfl, SqL.of hpl3, atI_nat (by rw [List.getElem?_map, gk]; rfl), b, wd, rfl, st4.b1, KW_nm wd hm, q.trans st4⟩
  refine ⟨_, rfl, rfl, _, rfl, ite2 (fun _ => ?_) (fun _ => ?_)⟩
  · refine ⟨_, rfl, five, fun t ht => ?_⟩
    exact q.put st ht ⟨[48], .number, .n 0, none, false⟩ (.inl ⟨rfl, .inr (.inl ⟨⟨by decide, by decide, 48, [], rfl, fun _ => rfl⟩, rfl, rfl⟩)⟩) (by rw [zk.2.1, zk.2.2.1]; rfl)
  refine ⟨_, rfl, _, _, rfl, rfl, _, rfl, ite2 (fun _ => ?_) (fun _ => ?_)⟩
  · refine ⟨_, rfl, by show 6 ≤ sizeLine; omega, fun g hg => ?_⟩
    have st1 := st.trans (Stp.new st.b1 hg (o := .lst [.int 1, .int 2, .int 3, .int 5, .int 39, .int 40]))
    refine ⟨_, rfl, b, 6, rfl, st1.b1, by decide, by decide, fun r H2 r0 r1 st2 => ?_⟩
    obtain ⟨k, rfl⟩ : ∃ k : Nat, r = (k : Int) := ⟨r.toNat, by omega⟩
    have gb : g ≠ b := st.b1.ne hg
    have hg2 := st2.keep g _ gb (upd_same (H := H1))
    have hn : ∃ n : Nat, ([1, 2, 3, 5, 39, 40] : List Int)[k]? = some (n : Int) ∧ 1 ≤ n ∧ n ≤ 40 := by
      have : k = 0 ∨ k = 1 ∨ k = 2 ∨ k = 3 ∨ k = 4 ∨ k = 5 := by omega
      rcases this with e | e | e | e | e | e <;> subst e
      · exact ⟨1, rfl, by decide, by decide⟩
      · exact ⟨2, rfl, by decide, by decide⟩
      · exact ⟨3, rfl, by decide, by decide⟩
      · exact ⟨5, rfl, by decide, by decide⟩
      · exact ⟨39, rfl, by decide, by decide⟩
      · exact ⟨40, rfl, by decide, by decide⟩
    obtain ⟨n, hn, n1, n40⟩ := hn
    refine ⟨g, _, _, .int (n : Nat), rfl, rfl, SqL.of hg2, atI_nat (by show (([1, 2, 3, 5, 39, 40] : List Int).map V.int)[k]? = _; rw [List.getElem?_map, hn]; rfl), b, n, rfl, st2.b1, n1, by omega, fun l H3 hl hld hh st3 => ?_⟩
    obtain ⟨c0, t0, hl0, h48⟩ := hh
    have hdg : AllDigits l := fun c hc => by
      have := of_decide_eq_true (List.all_eq_true.mp hld c hc)
      omega
    have hne : l ≠ [] := by rw [hl0]; exact fun z => by cases z
    refine ⟨_, rfl, _, rfl, S l, _, rfl, intText_digits (x := S l) hdg hne (by rw [S_len]; omega), by rw [S_len]; omega, _, rfl, five, fun t ht => ?_⟩
    exact q.put (st1.trans (st2.trans st3)) ht ⟨l, .number, .n (digitsVal l), none, false⟩ (.inl ⟨rfl, .inr (.inl ⟨⟨by show l.length ≤ 40; omega, hld, c0, t0, hl0, fun e => absurd e h48⟩, rfl, rfl⟩)⟩) (by rw [zk.2.2.1]; rfl)
  refine ⟨_, rfl, _, _, rfl, rfl, _, rfl, ite2 (fun _ => ?_) (fun _ => ?_)⟩
  · refine ⟨_, rfl, b, 2, rfl, st.b1, by decide, by decide, fun r H2 r0 r1 st2 => ?_⟩
    obtain ⟨k, rfl⟩ : ∃ k : Nat, r = (k : Int) := ⟨r.toNat, by omega⟩
    have gk : ([34, 39] : List Nat)[k]? = some (([34, 39] : List Nat)[k]'(by simp; omega)) := List.getElem?_eq_getElem (by simp; omega)
    generalize ([34, 39] : List Nat)[k]'_ = cq at gk
    have hcq : cq = 34 ∨ cq = 39 := by
      have := List.mem_of_getElem? gk
      rcases List.mem_cons.mp this with h | h
      · exact .inl h
      · exact .inr (List.mem_singleton.mp h)
    refine ⟨S [34, 39], _, cq, by rw [← zk.2.2.2.2], rfl, by rw [S_len]; show 2 ≤ sizeLine; omega, at_S gk, ?_⟩
    refine ⟨_, rfl, _, rfl, b, cq, 9, rfl, st2.b1, hcq, by decide, by decide, fun us H3 p hus hok st3 hp np hpl => ?_⟩
    have hfl := unitsSp_len us
    refine ⟨_, rfl, _, rfl, p, _, 1, _, rfl, rfl, SqL.of hpl, rfl, _, _, rfl, rfl, by rw [S_len, S_len]; show 1 + _ ≤ _; omega, _, rfl, _, _, rfl, rfl, by rw [S_cat, S_len, S_len, List.length_append]; show 1 + _ + 1 ≤ _; omega, _, rfl, p, _, 0, _, rfl, rfl, SqL.of hpl, rfl, _, rfl, five, fun t ht => ?_⟩
    exact q.put (st.trans (st2.trans st3)) ht ⟨cq :: (us.flatMap unitSp ++ [cq]), .text, .s (us.map Prod.fst), none, false⟩ (.inl ⟨rfl, .inr (.inr (.inl ⟨_, ⟨cq, us, hcq, rfl, rfl, by omega, hok⟩, rfl, rfl⟩))⟩) (by rw [zk.1, S_cat, S_cat]; rfl)
  refine ⟨rfl, fun p H2 sm hp hpl => ?_⟩
  refine ⟨p, rfl, ⟨_, SqL.of hpl⟩, fun D hD => ?_⟩
  have smD : Same H1 (upd H2 D (.lst [])) := sm.trans (same_new hD _)
  refine lc_it (walk_list (xs := SG.map fun l => V.str (S l))) (fun i H' => Same H2 H' ∧ H' D = some (.lst (((SG.take i).filter fun s => !decide (s ∈ BRL)).map fun d => V.str (S d)))) ⟨same_new hD _, upd_same⟩ (fun i H' _ h => SqL.of (h.1 _ _ hpl)) ?_ ?_
  · rintro i x H3 H4 hi ⟨sm3, hl3⟩ ⟨rfl, hx⟩
    rw [List.getElem?_map] at hx
    obtain ⟨sg, hs, rfl⟩ := Option.map_eq_some_iff.mp hx
    refine ⟨rfl, ?_⟩
    have hdisp : ([.str (Str.ofString "("), .str (Str.ofString ")"), .str (Str.ofString "["), .str (Str.ofString "]"), .str (Str.ofString "{"), .str (Str.ofString "}")] : List V) = BRL.map fun l => V.str (S l) := by
      rw [zb.1, zb.2.1, zb.2.2.1, zb.2.2.2.1, zb.2.2.2.2.1, zb.2.2.2.2.2]; rfl
    refine ⟨_, rfl, by show 6 ≤ sizeLine; omega, fun g hg => ?_⟩
    refine ⟨g, BRL.map fun l => V.str (S l), rfl, .inl (SqL.of (by rw [upd_same, ← hdisp])), rfl, flat_strs BRL, _, rfl, ?_⟩
    have e2 := in_strs sg BRL
    have sm4 : Same H2 (upd H4 g (.lst [.str (Str.ofString "("), .str (Str.ofString ")"), .str (Str.ofString "["), .str (Str.ofString "]"), .str (Str.ofString "{"), .str (Str.ofString "}")])) := sm3.trans (same_new hg _)
    have hl4 := (same_new hg (.lst [.str (Str.ofString "("), .str (Str.ofString ")"), .str (Str.ofString "["), .str (Str.ofString "]"), .str (Str.ofString "{"), .str (Str.ofString "}")])) _ _ hl3
    have hf : (SG.take (i + 1)).filter (fun s => !decide (s ∈ BRL)) = (SG.take i).filter (fun s => !decide (s ∈ BRL)) ++ (if (!decide (sg ∈ BRL)) = true then [sg] else []) := by
      rw [List.take_add_one, hs, List.filter_append]
      congr 1
      show List.filter _ [sg] = _
      rw [List.filter_cons, List.filter_nil]
    by_cases c : sg ∈ BRL
    · refine iteF' (by show (!inV _ _) = false; rw [e2, decide_eq_true c]; rfl) ⟨sm4, ?_⟩
      rw [hf, if_neg (by rw [decide_eq_true c]; exact Bool.false_ne_true), List.append_nil]
      exact hl4
    · refine iteT' (by show (!inV _ _) = true; rw [e2, decide_eq_false c]; rfl) ?_
      refine ⟨_, rfl, _, hl4, ?_, same_upd sm4 hD, ?_⟩
      · rw [List.length_map]
        have h1 := List.length_filter_le (fun s => !decide (s ∈ BRL)) (SG.take i)
        have h2 := (List.take_prefix i SG).length_le
        have h3 : SG.length = 24 := rfl
        omega
      · rw [upd_same, hf, if_pos (by rw [decide_eq_false c]; rfl), List.map_append]; rfl
  · rintro H3 ⟨sm3, hl3⟩
    rw [List.length_map, List.take_length] at hl3
    have st3 : Stp b H H3 := st.trans (Stp.same st.b1 (sm.trans sm3))
    refine ⟨_, rfl, _, rfl, _, rfl, D, _, rfl, .inl (SqL.of hl3), b, 18, by rw [List.length_map, SG_nb.1]; rfl, st3.b1, by decide, by decide, fun r H4 r0 r1 st4 => ?_⟩
    obtain ⟨k, rfl⟩ : ∃ k : Nat, r = (k : Int) := ⟨r.toNat, by omega⟩
    have hk : k < (SG.filter fun s => !decide (s ∈ BRL)).length := by rw [SG_nb.1]; omega
    have gk := List.getElem?_eq_getElem hk
    have hm := List.getElem_mem hk
    generalize (SG.filter fun s => !decide (s ∈ BRL))[k]'_ = wd at gk hm
    have nD : D ≠ b := fun z => by
      obtain ⟨_, _, _, e⟩ := (Stp.same st.b1 sm).b1
      rw [z, e] at hD; cases hD
    have hpl3 := st4.keep D _ nD hl3
    refine ⟨D, _, _, .str (S wd), rfl, rfl, SqL.of hpl3, atI_nat (by rw [List.getElem?_map, gk]; rfl), ?_⟩
    refine ⟨_, rfl, _, rfl, _, rfl, five, fun t ht => ?_⟩
    exact q.put (st3.trans st4) ht ⟨wd, .sign, .s wd, none, false⟩ (.inl ⟨rfl, .inr (.inr (.inr ⟨(List.mem_filter.mp hm).1, rfl, rfl⟩))⟩) (by rw [zk.2.2.2.1]; rfl)
end
end D0
namespace D0
open PySem PySem.Spec PyProof.Rows L2 SX NumText
theorem find_max {p : List Nat → Bool} {s : List Nat} : ∀ {L : List (List Nat)}, L.Pairwise (fun a b => b.length ≤ a.length) → L.find? p = some s → ∀ g ∈ L, p g = true → g.length ≤ s.length
  | [], _, h, _, _, _ => by cases h
  | a :: r, hp, h, g, hg, pg => by
    rw [List.find?_cons] at h
    cases pa : p a with
    | true =>
      rw [pa] at h
      have : a = s := by simpa using h
      subst this
      rcases List.mem_cons.mp hg with rfl | hg
      · exact Nat.le_refl _
      · exact (List.pairwise_cons.mp hp).1 g hg
    | false =>
      rw [pa] at h
      rcases List.mem_cons.mp hg with rfl | hg
      · rw [pa] at pg; cases pg
      · exact find_max (List.pairwise_cons.mp hp).2 (by simpa using h) g hg pg
theorem SG_desc : SG.Pairwise (fun a b => b.length ≤ a.length) := by decide
/-- the word bf does not go on in suf -/
def Sf (bf suf : List Nat) : Prop := (∀ b0 c d, bf = b0 ++ [c] → namc c = true → suf.head? = some d → namc d = false) ∧ ∀ one ∈ SG, bf ≠ [] → bf.length < one.length → (bf ++ suf).take one.length ≠ one
theorem tw_app {f : Nat → Bool} : ∀ (sp suf : List Nat), sp.all f = true → (∀ d, suf.head? = some d → f d = false) → (sp ++ suf).takeWhile f = sp
  | [], suf, _, h => by
    cases suf with
    | nil => rfl
    | cons d t => rw [List.nil_append, List.takeWhile_cons, if_neg (by rw [h d rfl]; exact Bool.false_ne_true)]
  | c :: t, suf, ha, h => by
    rw [List.all_cons, Bool.and_eq_true] at ha
    rw [List.cons_append, List.takeWhile_cons, if_pos ha.1, tw_app t suf ha.2 h]
theorem dig_nam {c : Nat} (h : isDig c = true) : namc c = true := by unfold namc; rw [h, Bool.or_true]
theorem dig_let {c : Nat} (h : isDig c = true) : letc c = false := by
  have h2 := of_decide_eq_true h
  have : ∀ c, c < 58 → 48 ≤ c → letc c = false := by decide
  exact this c (by omega) h2.1
theorem lastc {sp : List Nat} (f : Nat → Bool) (h : sp.all f = true) (n : sp ≠ []) : ∃ b0 c, sp = b0 ++ [c] ∧ f c = true := by
  refine ⟨sp.dropLast, sp.getLast n, (List.dropLast_concat_getLast n).symm, List.all_eq_true.mp h _ (List.getLast_mem n)⟩
theorem scanT_units {q st : Nat} (hq : q = 34 ∨ q = 39) : ∀ (us : List (Nat × Bool)) (suf : List Nat) (a : Nat) (acc : List Nat), (∀ u ∈ us, UnitOk q u) →
    scanT q st false (us.flatMap unitSp ++ q :: suf) a acc = .ok (.text, .s (acc ++ us.map Prod.fst), a + (us.flatMap unitSp).length + 1)
  | [], suf, a, acc, _ => by
    show (if q = q then _ else _) = _
    rw [if_pos rfl]
    simp
  | (c, false) :: us, suf, a, acc, h => by
    obtain ⟨_, h2, h3⟩ := h _ List.mem_cons_self
    show (if c = q then _ else if c = 92 then _ else scanT q st false (us.flatMap unitSp ++ q :: suf) (a + 1) (acc ++ [c])) = _
    rw [if_neg h3, if_neg h2, scanT_units hq us suf (a + 1) (acc ++ [c]) (fun u hu => h u (List.mem_cons_of_mem _ hu))]
    simp [unitSp]
    omega
  | (c, true) :: us, suf, a, acc, h => by
    have ho := h _ List.mem_cons_self
    have n92 : ¬ 92 = q := by rcases hq with e | e <;> omega
    have key : escV [if c = 10 then 110 else c] = some [c] := by
      rcases ho with e | e | e | e <;> subst e <;> rfl
    show (if 92 = q then _ else if 92 = 92 then scanT q st true ((if c = 10 then 110 else c) :: (us.flatMap unitSp ++ q :: suf)) (a + 1) acc else _) = _
    rw [if_neg n92, if_pos rfl]
    show (match escV [if c = 10 then 110 else c] with
      | none => (.error (a + 1) : Except Nat Tr)
      | some m => scanT q st false (us.flatMap unitSp ++ q :: suf) (a + 1 + 1) (acc ++ m)) = _
    rw [key]
    show scanT q st false (us.flatMap unitSp ++ q :: suf) (a + 1 + 1) (acc ++ [c]) = _
    rw [scanT_units hq us suf (a + 1 + 1) (acc ++ [c]) (fun u hu => h u (List.mem_cons_of_mem _ hu))]
    simp [unitSp]
    omega
theorem SG_head : ∀ s ∈ SG, ∃ c t, s = c :: t ∧ letc c = false ∧ isDig c = false ∧ c ≠ 34 ∧ c ≠ 39 ∧ c ≠ 32 ∧ c ≠ 35 := by
  have h : SG.all (fun s => match s with | c :: _ => !letc c && !isDig c && decide (c ≠ 34) && decide (c ≠ 39) && decide (c ≠ 32) && decide (c ≠ 35) | [] => false) = true := by decide +kernel
  intro s hs
  have := List.all_eq_true.mp h s hs
  cases s with
  | nil => cases this
  | cons c t =>
    simp only [Bool.and_eq_true, Bool.not_eq_true', decide_eq_true_eq] at this
    obtain ⟨⟨⟨⟨⟨h1, h2⟩, h3⟩, h4⟩, h5⟩, h6⟩ := this
    exact ⟨c, t, rfl, h1, h2, h3, h4, h5, h6⟩
theorem scan_sign {sp suf l : List Nat} {i : Nat} (h : sp ∈ SG) (hd : l.drop i = sp ++ suf) (hs : Sf sp suf) : scanTok l i = .ok (.sign, .s sp, i + sp.length) := by
  obtain ⟨c, t, e, h1, h2, h3, h4, _, _⟩ := SG_head sp h
  have hh : (l.drop i).headD 0 = c := by rw [hd, e]; rfl
  unfold scanTok
  rw [hh, h1, h2, if_neg Bool.false_ne_true, if_neg Bool.false_ne_true, if_neg (fun z => z.elim h3 h4)]
  unfold scanSign
  have hp : (fun s : List Nat => decide ((l.drop i).take s.length = s)) sp = true := by
    show decide _ = true
    rw [hd, List.take_left]; exact decide_eq_true rfl
  cases hf : SG.find? (fun s => decide ((l.drop i).take s.length = s)) with
  | none => exact absurd hp (by have := List.find?_eq_none.mp hf sp h; exact this)
  | some s' =>
    have hmax := find_max (by decide : SG.Pairwise (fun a b => b.length ≤ a.length)) hf sp h hp
    have hs' : (l.drop i).take s'.length = s' := by
      have := List.find?_some hf
      exact of_decide_eq_true this
    have e2 : s' = sp := by
      by_cases c : sp.length < s'.length
      · exact absurd (by rw [← hd]; exact hs') (hs.2 s' (List.mem_of_find?_eq_some hf) (by rw [e]; exact fun z => by cases z) c)
      · have : s'.length = sp.length := by omega
        rw [this, hd, List.take_left] at hs'
        exact hs'.symm
    rw [e2]
theorem scan_tok {k : Kd} {w : Wd} {sp suf l : List Nat} {i : Nat} (h : TokL k w sp) (hd : l.drop i = sp ++ suf) (hs : Sf sp suf) : scanTok l i = .ok (k, w, i + sp.length) := by
  rcases h with ⟨⟨h30, hall, c, t, e, hc⟩, rfl, rfl⟩ | ⟨⟨h40, hall, c, t, e, h48⟩, rfl, rfl⟩ | ⟨w', ⟨q, us, hq, rfl, rfl, _, hok⟩, rfl, rfl⟩ | ⟨hsg, rfl, rfl⟩
  · have hne : sp ≠ [] := by rw [e]; exact fun z => by cases z
    obtain ⟨b0, cl, el, hcl⟩ := lastc namc hall hne
    have htw : (l.drop i).takeWhile namc = sp := by rw [hd]; exact tw_app sp suf hall (fun d hd2 => hs.1 b0 cl d el hcl hd2)
    have hh : (l.drop i).headD 0 = c := by rw [hd, e]; rfl
    unfold scanTok
    rw [hh, hc, if_pos rfl]
    unfold scanName
    have hj : twl namc l i = i + sp.length := by unfold twl; rw [htw]
    rw [word_tw, htw, if_neg (by omega), hj]
  · have hne : sp ≠ [] := by rw [e]; exact fun z => by cases z
    obtain ⟨b0, cl, el, hcl⟩ := lastc isDig hall hne
    have hnx : ∀ d, suf.head? = some d → namc d = false := fun d hd2 => hs.1 b0 cl d el (dig_nam hcl) hd2
    have htw : (l.drop i).takeWhile isDig = sp := by
      rw [hd]
      refine tw_app sp suf hall (fun d hd2 => ?_)
      have := hnx d hd2
      unfold namc at this
      exact (Bool.or_eq_false_iff.mp this).2
    have hcd : isDig c = true := by rw [e, List.all_cons, Bool.and_eq_true] at hall; exact hall.1
    have hh : (l.drop i).headD 0 = c := by rw [hd, e]; rfl
    unfold scanTok
    rw [hh, dig_let hcd, if_neg Bool.false_ne_true, hcd, if_pos rfl]
    unfold scanNumber
    have hj : twl isDig l i = i + sp.length := by unfold twl; rw [htw]
    have hd3 : l.drop (i + sp.length) = suf := by rw [← List.drop_drop, hd, List.drop_left]
    have nb : numBad l i = false := by
      unfold numBad
      rw [word_tw, htw, hj, hd3, decide_eq_false (by omega), Bool.false_or]
      have e1 : (decide (1 < sp.length) && decide (sp.head? = some 48)) = false := by
        rw [e]
        by_cases c48 : c = 48
        · rw [h48 c48]; rfl
        · rw [decide_eq_false (p := (c :: t).head? = some 48) (fun z => c48 (Option.some.inj z)), Bool.and_false]
      rw [e1, Bool.false_or]
      cases suf with
      | nil => rw [List.take_nil]; simp
      | cons d r =>
        have := hnx d rfl
        unfold namc at this
        have h3 := (Bool.or_eq_false_iff.mp this).1
        show (_ && ([d].any letc)) = false
        rw [List.any_cons, h3]; simp
    rw [if_neg (by rw [nb]; exact Bool.false_ne_true), word_tw, htw, hj]
  · have hh : (l.drop i).headD 0 = q := by rw [hd]; rfl
    have hl : letc q = false ∧ isDig q = false := by rcases hq with e | e <;> subst e <;> decide
    unfold scanTok
    rw [hh, hl.1, hl.2, if_neg Bool.false_ne_true, if_neg Bool.false_ne_true, if_pos hq]
    unfold scanText
    have hd3 : l.drop (i + 1) = us.flatMap unitSp ++ q :: suf := by
      rw [← List.drop_drop, hd]
      show us.flatMap unitSp ++ [q] ++ suf = _
      rw [List.append_assoc]; rfl
    rw [hh, hd3, scanT_units hq us suf (i + 1) [] hok]
    simp
    omega
  · exact scan_sign hsg hd hs
theorem Gp.head {st : Bool} {suf : List Nat} (h : Gp st suf) : ∀ d, suf.head? = some d → d = 32 := fun d e => by
  rcases h with h | ⟨_, h⟩
  · rw [h] at e; cases e
  · rw [h] at e; exact (Option.some.inj e).symm
theorem SG_no : ∀ s ∈ SG, 32 ∉ s ∧ 35 ∉ s := by decide
theorem sf_gap {bf suf : List Nat} (h : suf = [] ∨ suf.head? = some 32 ∨ suf.head? = some 35) : Sf bf suf := by
  refine ⟨fun b0 c d e hc hd => ?_, fun one ho _ hl he => ?_⟩
  · rcases h with h | h | h
    · rw [h] at hd; cases hd
    · rw [h] at hd; cases hd; decide
    · rw [h] at hd; cases hd; decide
  · cases suf with
    | nil =>
      have := congrArg List.length he
      rw [List.append_nil, List.length_take] at this
      omega
    | cons d r =>
      have hm : d ∈ one := by
        rw [← he, List.take_append]
        obtain ⟨m, hm⟩ : ∃ m, one.length - bf.length = m + 1 := ⟨one.length - bf.length - 1, by omega⟩
        rw [hm, List.take_succ_cons]
        exact List.mem_append_right _ List.mem_cons_self
      obtain ⟨h1, h2⟩ := SG_no one ho
      rcases h with h | h | h
      · cases h
      · cases h; exact h1 hm
      · cases h; exact h2 hm
theorem Gp.sf {st : Bool} {bf suf : List Nat} (h : Gp st suf) : Sf bf suf := sf_gap (h.elim .inl fun h => .inr (.inl h.2))
theorem letc_big (c : Nat) (h : 128 ≤ c) : letc c = false := by
  unfold letc
  rw [decide_eq_false (by omega), decide_eq_false (by omega), Bool.false_or, Bool.false_or]
  exact beq_eq_false_iff_ne.mpr (by omega)
theorem dig_big (c : Nat) (h : 128 ≤ c) : isDig c = false := decide_eq_false (by omega)
theorem namc_row {c : Nat} (h : namc c = true) : rowc c = true := by
  by_cases k : c < 128
  · have : ∀ c, c < 128 → namc c = true → rowc c = true := by decide
    exact this c k h
  · unfold namc at h
    rw [letc_big c (by omega), dig_big c (by omega)] at h; cases h
theorem dig_row {c : Nat} (h : isDig c = true) : rowc c = true := namc_row (dig_nam h)
theorem all_imp {f g : Nat → Bool} {l : List Nat} (h : l.all f = true) (i : ∀ c, f c = true → g c = true) : l.all g = true := List.all_eq_true.mpr fun c hc => i c (List.all_eq_true.mp h c hc)
theorem namc_ne {c : Nat} (h : namc c = true) : c ≠ 32 ∧ c ≠ 35 ∧ c ≠ 40 ∧ c ≠ 91 ∧ c ≠ 123 := by
  refine ⟨?_, ?_, ?_, ?_, ?_⟩ <;> (intro e; rw [e] at h; revert h; decide)
theorem BadL.name {l : List Nat} {st : Bool} (h : 30 < l.length) (h2 : l.length ≤ 50) (ha : l.all namc = true) (hh : ∃ c t, l = c :: t ∧ letc c = true) : BadL l 0 st := by
  obtain ⟨c, t, e, hc⟩ := hh
  refine ⟨all_imp ha fun c => namc_row, h2, ⟨c, t, e, namc_ne (namc_let hc)⟩, fun L j suf hd hg => ?_⟩
  have htw : (L.drop j).takeWhile namc = l := by rw [hd]; exact tw_app l suf ha (fun d hd2 => by rw [hg.head d hd2]; decide)
  have hx : (L.drop j).headD 0 = c := by rw [hd, e]; rfl
  unfold scanTok
  rw [hx, hc, if_pos rfl]
  unfold scanName
  rw [word_tw, htw, if_pos h]
theorem BadL.num {l x : List Nat} {st : Bool} (h1 : l.all isDig = true) (h0 : l ≠ []) (h2 : l.length + x.length ≤ 50) (hx : x.all namc = true)
    (hk : (x = [] ∧ (40 < l.length ∨ (1 < l.length ∧ l.head? = some 48))) ∨ (∃ c t, x = c :: t ∧ letc c = true)) : BadL (l ++ x) 0 st := by
  obtain ⟨c, t, e⟩ : ∃ c t, l = c :: t := by
    cases l with
    | nil => exact absurd rfl h0
    | cons a t => exact ⟨a, t, rfl⟩
  have hcd : isDig c = true := by rw [e, List.all_cons, Bool.and_eq_true] at h1; exact h1.1
  refine ⟨by rw [List.all_append, all_imp h1 fun c => dig_row, all_imp hx fun c => namc_row]; rfl, by rw [List.length_append]; exact h2, ⟨c, t ++ x, by rw [e]; rfl, namc_ne (dig_nam hcd)⟩, fun L j suf hd hg => ?_⟩
  have hd : L.drop j = l ++ (x ++ suf) := by rw [hd, List.append_assoc]
  have hnd : ∀ d, (x ++ suf).head? = some d → isDig d = false := fun d hd2 => by
    rcases hk with ⟨rfl, _⟩ | ⟨c2, t2, rfl, hc2⟩
    · rw [hg.head d hd2]; decide
    · have : c2 = d := Option.some.inj hd2
      subst this
      cases hdd : isDig c2 with
      | false => rfl
      | true => have := dig_let hdd; rw [this] at hc2; cases hc2
  have htw : (L.drop j).takeWhile isDig = l := by rw [hd]; exact tw_app l _ h1 hnd
  have hh : (L.drop j).headD 0 = c := by rw [hd, e]; rfl
  have hj : twl isDig L j = j + l.length := by unfold twl; rw [htw]
  have hd3 : L.drop (j + l.length) = x ++ suf := by rw [← List.drop_drop, hd, List.drop_left]
  unfold scanTok
  rw [hh, dig_let hcd, if_neg Bool.false_ne_true, hcd, if_pos rfl]
  unfold scanNumber
  have nb : numBad L j = true := by
    unfold numBad
    rw [word_tw, htw, hj, hd3]
    rcases hk with ⟨rfl, h | ⟨h, h'⟩⟩ | ⟨c2, t2, rfl, hc2⟩
    · rw [decide_eq_true h]; rfl
    · rw [decide_eq_true h, decide_eq_true h']; simp
    · have hl : j + l.length < L.length := by
        have := congrArg List.length hd3
        rw [List.length_drop, List.length_append, List.length_cons] at this
        omega
      rw [decide_eq_true hl]
      show (_ || (true && [c2].any letc)) = true
      rw [List.any_cons, hc2]; simp
  rw [if_pos nb]
theorem scanT_end {q st : Nat} (hq : q = 34 ∨ q = 39) : ∀ (us : List (Nat × Bool)) (r : List Nat) (a : Nat) (acc : List Nat), (∀ u ∈ us, UnitOk q u) →
    ∃ acc', scanT q st false (us.flatMap unitSp ++ r) a acc = scanT q st false r (a + (us.flatMap unitSp).length) acc'
  | [], r, a, acc, _ => ⟨acc, rfl⟩
  | (c, false) :: us, r, a, acc, h => by
    obtain ⟨_, h2, h3⟩ := h _ List.mem_cons_self
    obtain ⟨acc', ih⟩ := scanT_end hq us r (a + 1) (acc ++ [c]) (fun u hu => h u (List.mem_cons_of_mem _ hu))
    refine ⟨acc', ?_⟩
    show (if c = q then _ else if c = 92 then _ else scanT q st false (us.flatMap unitSp ++ r) (a + 1) (acc ++ [c])) = _
    rw [if_neg h3, if_neg h2, ih]
    congr 1
    simp [unitSp]
    omega
  | (c, true) :: us, r, a, acc, h => by
    have ho := h _ List.mem_cons_self
    have n92 : ¬ 92 = q := by rcases hq with e | e <;> omega
    have key : escV [if c = 10 then 110 else c] = some [c] := by
      rcases ho with e | e | e | e <;> subst e <;> rfl
    obtain ⟨acc', ih⟩ := scanT_end hq us r (a + 1 + 1) (acc ++ [c]) (fun u hu => h u (List.mem_cons_of_mem _ hu))
    refine ⟨acc', ?_⟩
    show (if 92 = q then _ else if 92 = 92 then scanT q st true ((if c = 10 then 110 else c) :: (us.flatMap unitSp ++ r)) (a + 1) acc else _) = _
    rw [if_neg n92, if_pos rfl]
    show (match escV [if c = 10 then 110 else c] with
      | none => (.error (a + 1) : Except Nat Tr)
      | some m => scanT q st false (us.flatMap unitSp ++ r) (a + 1 + 1) (acc ++ m)) = _
    rw [key]
    show scanT q st false (us.flatMap unitSp ++ r) (a + 1 + 1) (acc ++ [c]) = _
    rw [ih]
    congr 1
    simp [unitSp]
    omega
theorem units_row {q : Nat} : ∀ us : List (Nat × Bool), (∀ u ∈ us, UnitOk q u) → (us.flatMap unitSp).all rowc = true
  | [], _ => rfl
  | u :: us, h => by
    rw [List.flatMap_cons, List.all_append, units_row us fun v hv => h v (List.mem_cons_of_mem _ hv), Bool.and_true]
    have := h u List.mem_cons_self
    obtain ⟨c, e⟩ := u
    cases e with
    | false => show ([c].all rowc) = true; rw [List.all_cons, this.1]; rfl
    | true => rcases (this : c = 10 ∨ c = 92 ∨ c = 34 ∨ c = 39) with z | z | z | z <;> subst z <;> decide
theorem quo_ne {q : Nat} (hq : q = 34 ∨ q = 39) : rowc q = true ∧ q ≠ 32 ∧ q ≠ 35 ∧ q ≠ 40 ∧ q ≠ 91 ∧ q ≠ 123 := by rcases hq with z | z <;> subst z <;> decide
/-- a text's spelling up to where it is broken -/
theorem scanTok_quo {L : List Nat} {j q : Nat} {us : List (Nat × Bool)} {r : List Nat} (hq : q = 34 ∨ q = 39) (hok : ∀ u ∈ us, UnitOk q u) (hd : L.drop j = q :: (us.flatMap unitSp ++ r)) :
    ∃ acc, scanTok L j = scanT q j false r (j + 1 + (us.flatMap unitSp).length) acc := by
  have hh : (L.drop j).headD 0 = q := by rw [hd]; rfl
  have hl : letc q = false ∧ isDig q = false := by rcases hq with e | e <;> subst e <;> decide
  have hd3 : L.drop (j + 1) = us.flatMap unitSp ++ r := by rw [← List.drop_drop, hd]; rfl
  obtain ⟨acc, e⟩ := scanT_end (st := j) hq us r (j + 1) [] hok
  refine ⟨acc, ?_⟩
  unfold scanTok
  rw [hh, hl.1, hl.2, if_neg Bool.false_ne_true, if_neg Bool.false_ne_true, if_pos hq]
  unfold scanText
  rw [hh, hd3, e]
theorem BadL.open_ {q : Nat} {us : List (Nat × Bool)} {r : List Nat} (hq : q = 34 ∨ q = 39) (hok : ∀ u ∈ us, UnitOk q u) (hu : us.length ≤ 10) (hr : r = [] ∨ r = [92]) : BadL (q :: (us.flatMap unitSp ++ r)) 0 true := by
  have hfl := unitsSp_len us
  refine ⟨?_, ?_, ⟨q, _, rfl, (quo_ne hq).2⟩, fun L j suf hd hg => ?_⟩
  · rw [List.all_cons, List.all_append, (quo_ne hq).1, units_row us hok]
    rcases hr with e | e <;> subst e <;> rfl
  · rw [List.length_cons, List.length_append]
    rcases hr with e | e <;> subst e
    · show _ + 0 + 1 ≤ 50; omega
    · show _ + 1 + 1 ≤ 50; omega
  rcases hg with rfl | ⟨h, _⟩
  · rw [List.append_nil] at hd
    obtain ⟨acc, e⟩ := scanTok_quo hq hok hd
    rw [e]
    rcases hr with e | e <;> subst e
    · rfl
    · have n92 : ¬ 92 = q := by rcases hq with e | e <;> omega
      show (if 92 = q then _ else if 92 = 92 then scanT q j true [] _ acc else _) = _
      rw [if_neg n92, if_pos rfl]; rfl
  · cases h
theorem BadL.esc {q c : Nat} {us : List (Nat × Bool)} {r : List Nat} {st : Bool} (hq : q = 34 ∨ q = 39) (hok : ∀ u ∈ us, UnitOk q u) (hu : us.length ≤ 10) (hr : r.all rowc = true) (hrl : r.length ≤ 10) (hc : rowc c = true) (he : escV [c] = none) :
    BadL (q :: (us.flatMap unitSp ++ 92 :: c :: r)) (1 + (us.flatMap unitSp).length) st := by
  have hfl := unitsSp_len us
  refine ⟨?_, ?_, ⟨q, _, rfl, (quo_ne hq).2⟩, fun L j suf hd hg => ?_⟩
  · rw [List.all_cons, List.all_append, (quo_ne hq).1, units_row us hok, List.all_cons, List.all_cons, hc, hr]; rfl
  · rw [List.length_cons, List.length_append, List.length_cons, List.length_cons]; omega
  have hd : L.drop j = q :: (us.flatMap unitSp ++ (92 :: c :: (r ++ suf))) := by rw [hd]; simp
  obtain ⟨acc, e⟩ := scanTok_quo hq hok hd
  rw [e]
  have n92 : ¬ 92 = q := by rcases hq with e | e <;> omega
  show (if 92 = q then _ else if 92 = 92 then scanT q j true (c :: (r ++ suf)) (j + 1 + (us.flatMap unitSp).length + 1) acc else _) = _
  rw [if_neg n92, if_pos rfl]
  show (match escV [c] with
      | none => (.error (j + 1 + (us.flatMap unitSp).length + 1) : Except Nat Tr)
      | some m => _) = _
  rw [he]
  show Except.error (j + 1 + (us.flatMap unitSp).length + 1) = Except.error _
  congr 1
  omega
def NSG : List Nat := [33, 47, 92, 36, 38, 63, 64, 59, 94, 96, 124, 126]
theorem NSG_one : ∀ c ∈ NSG, letc c = false ∧ isDig c = false ∧ c ≠ 34 ∧ c ≠ 39 ∧ rowc c = true ∧ c ≠ 32 ∧ c ≠ 35 ∧ c ≠ 40 ∧ c ≠ 91 ∧ c ≠ 123 ∧ [c] ∉ SG := by decide
theorem SG_long : ∀ s ∈ SG, s.length ≤ 3 ∧ s ≠ [] := by decide
theorem BadL.sign {c : Nat} {st : Bool} (h : c ∈ NSG) : BadL [c] 0 st := by
  obtain ⟨h1, h2, h3, h4, h5, h6, h7, h8, h9, h10, h11⟩ := NSG_one c h
  refine ⟨by rw [List.all_cons, h5]; rfl, by show 1 ≤ 50; decide, ⟨c, [], rfl, h6, h7, h8, h9, h10⟩, fun L j suf hd hg => ?_⟩
  have hh : (L.drop j).headD 0 = c := by rw [hd]; rfl
  unfold scanTok
  rw [hh, h1, h2, if_neg Bool.false_ne_true, if_neg Bool.false_ne_true, if_neg (fun z => z.elim h3 h4)]
  unfold scanSign
  have : SG.find? (fun s => decide ((L.drop j).take s.length = s)) = none := by
    refine find_none fun s hs => decide_eq_false fun e => ?_
    have hsf : Sf [c] suf := hg.sf
    by_cases cc : 1 < s.length
    · exact hsf.2 s hs (fun z => by cases z) cc (by rw [← hd]; exact e)
    · obtain ⟨_, hne⟩ := SG_long s hs
      have h1 : s.length = 1 := by
        cases s with
        | nil => exact absurd rfl hne
        | cons a t => simp only [List.length_cons] at cc ⊢; omega
      rw [h1, hd] at e
      have e : [c] = s := e
      rw [e] at h11
      exact h11 hs
  rw [this]
end D0
namespace D0
open PySem PySem.Spec PyProof.Rows L2 SX NumText
theorem hu_of' {k : Nat} {A : Around} (hr : Room k A) : A.units + 1 < cLine := by have := hr.units; omega
def CLS : List (List Nat) := [[41], [93], [125]]
theorem OPN_SG : ∀ s ∈ OPN, s ∈ SG := by decide
theorem CLS_SG : ∀ s ∈ CLS, s ∈ SG := by decide
theorem TokL.sign {s : List Nat} (h : s ∈ SG) : TokL .sign (.s s) s := .inr (.inr (.inr ⟨h, rfl, rfl⟩))
def oddL : List Nat := [32, 33, 35, 36, 38, 40, 41, 42, 43, 44, 45, 46, 47, 48, 49, 50, 51, 52, 53, 54, 55, 56, 57, 58, 59, 60, 61, 62, 63, 64, 65, 66, 67, 68, 69, 70, 71, 72, 73, 74, 75, 76, 77, 78, 79, 80, 81, 82, 83, 84, 85, 86, 87, 88, 89, 90, 91, 93, 94, 95, 96, 97, 98, 99, 100, 101, 102, 103, 104, 105, 106, 107, 108, 109, 111, 112, 113, 114, 115, 116, 117, 118, 119, 120, 121, 122, 123, 124, 125, 126]
theorem oddL_ok : ∀ c ∈ oddL, rowc c = true ∧ escV [c] = none := by decide
/-- an item drawn by way: 1 to 3 figures, 4 to 7 texts -/
def spOddW : Sp := fun vs H Q _ => ∃ (b : Addr) (way : Int) (m : Bool), vs = [.ref b, .int way, .bl m] ∧ Bag H b ∧ ItQ m b H Q
def spOdd : Sp := fun vs H Q _ => ∃ (b : Addr) (m : Bool), vs = [.ref b, .bl m] ∧ Bag H b ∧ ItQ m b H Q
section
variable {P : Program} {w : World} {K : PySem.W.Frag} {mg : Str → Option Value} {base : Heap}
theorem ok__law_odd_figures (T : Txt K w mg) (Ot : OkD P w K mg base CX0 1 "_law_take" p__law_take spTake) (Op : OkD P w K mg base CX0 2 "_law_spelled" p__law_spelled spSpelled) (Of : OkD P w K mg base CX0 2 "_law_figures" p__law_figures spFigs) :
    OkD P w K mg base CX0 3 "_law_odd_figures" p__law_odd_figures spOddW := by
  refine T.g__law_odd_figures.ok sc__law_odd_figures (fun vs H Q E h => ?_) (fun f cdv A outer s H vs Q E hr h => ?_)
  · obtain ⟨b, way, m, rfl, _⟩ := h; rfl
  obtain ⟨b, way, m, rfl, hb, q⟩ := h
  have lim : (1000 : Nat) ≤ sizeLine := by decide
  have z : Str.ofString "0123456789" = S digL ∧ Str.ofString "0" = S [48] ∧ Str.ofString "number" = S Kd.number.cp := by decide +kernel
  have hD : digL.length = 10 := by decide
  refine ⟨_, (pss_cons (PS.of (t' := fun D σ H => σ = [some (.ref b), some (.int way), some (.bl m), none, none, none] ∧ Bag H b ∧ ∀ (sp gd : List Nat) (y : Option V) H', FigL gd → BadL sp 0 false → Stp b H H' → D.nx [some (.ref b), some (.int way), some (.bl m), some (.str (S sp)), some (.str (S gd)), y] H')
      (ps_if (pt_cmpR op_eq (pv 1) pe_int (nomark _)) (pss_cons (ps_set (i := 3) sc__law_odd_figures.nd rfl (.inl rfl) (pcall Of hr (pa_cons (pv 0) (pa_cons (pe_op op_add pe_int (pcall Ot hr (pa_cons (pv 0) (pa_cons pe_int pa_nil)))) pa_nil))))
      (pss_one (ps_set (i := 4) sc__law_odd_figures.nd rfl (.inl rfl) (pe_slice sl_str (pv 3) po_none (po_some pe_int))))) (pss_one (ps_if (pt_cmpR op_eq (pv 1) pe_int (nomark _)) (pss_cons (ps_set (i := 3) sc__law_odd_figures.nd rfl (.inl rfl) pe_str)
      (pss_cons (ps_for PassesOwn.never rfl (pi_range1 rfl T.z_range (pa_cons (pe_op op_add pe_int (pcall Ot hr (pa_cons (pv 0) (pa_cons pe_int pa_nil)))) pa_nil)) (pg_name (i := 5) sc__law_odd_figures.nd rfl (Or.inl rfl)) (pss_one (ps_set (i := 3) sc__law_odd_figures.nd rfl (.inl rfl) (pe_op op_add_str (pv 3) (pe_ix ix_str pe_str (pcall Ot hr (pa_cons (pv 0) (pa_cons pe_int pa_nil))) (fun _ _ => rfl))))))
      (pss_one (ps_set (i := 4) sc__law_odd_figures.nd rfl (.inl rfl) pe_str)))) (pss_cons (ps_set (i := 4) sc__law_odd_figures.nd rfl (.inl rfl) (pcall Of hr (pa_cons (pv 0) (pa_cons (pe_op op_add pe_int (pcall Ot hr (pa_cons (pv 0) (pa_cons pe_int pa_nil)))) pa_nil))))
      (pss_one (ps_set (i := 3) sc__law_odd_figures.nd rfl (.inl rfl) (pe_op op_add_str (pv 4) (pcall Op hr (pa_cons (pv 0) (pa_cons (pe_op op_add pe_int (pcall Ot hr (pa_cons (pv 0) (pa_cons pe_int pa_nil)))) (pa_cons pe_bl pa_nil))))))))))) ?ifs)
      (pss_cons (ps_if (pt_val (pv 2)) (pss_one (ps_ret (pe_lst (pa_cons (pv 4) (pa_cons pe_str (pa_cons (pe_callTy call_int_str (by rfl) T.z_int PyProof.Rows.boot_int (pa_cons (pv 4) pa_nil)) (pa_cons (pe_un un_neg pe_int) (pa_cons pe_bl pa_nil)))))))) pss_nil)
      (pss_one (ps_ret (pe_lst (pa_cons (pv 3) (pa_cons pe_str (pa_cons pe_non (pa_cons pe_int (pa_cons pe_bl pa_nil)))))))))), ?_⟩
  case ifs =>
    rintro D σ H ⟨rfl, hb, q⟩
    refine ⟨_, rfl, rfl, _, rfl, ite2 (fun _ => ?_) (fun _ => ?_)⟩
    · refine ⟨_, rfl, _, rfl, b, 3, rfl, hb, by decide, by decide, fun r H1 r0 r1 st => ⟨_, _, rfl, rfl, b, (41 + r).toNat, by show [V.ref b, V.int (41 + r)] = _; rw [show (((41 + r).toNat : Nat) : Int) = 41 + r by omega], st.b1, by omega, by omega, fun l H2 hl ha hh st2 => ?_⟩⟩
      obtain ⟨c, t, e, hc⟩ := hh
      refine ⟨_, rfl, 40, rfl, _, rfl, by rw [S_len]; omega, ?_⟩
      rw [show cutS (S l) none (some 40) = S (l.take 40) from cut_0 l 40]
      refine q l (l.take 40) none H2 ⟨by rw [List.length_take]; omega, List.all_eq_true.mpr fun x hx => List.all_eq_true.mp ha x (List.mem_of_mem_take hx), c, t.take 39, by rw [e]; rfl, fun z => absurd z hc⟩ ?_ (st.trans st2)
      have := BadL.num (st := false) (x := []) ha (by rw [e]; exact fun z => by cases z) (by show l.length + 0 ≤ 50; omega) rfl (.inl ⟨rfl, .inl (by omega)⟩)
      rw [List.append_nil] at this; exact this
    refine ⟨_, rfl, rfl, _, rfl, ite2 (fun _ => ?_) (fun _ => ?_)⟩
    · rw [z.2.1]
      refine ⟨_, rfl, b, 3, rfl, hb, by decide, by decide, fun r H1 r0 r1 st => ?_⟩
      refine ⟨_, _, rfl, rfl, ((1 + r).toNat : Int), by show [V.int _] = [V.int _]; congr 2; omega, by omega, by omega, ?_⟩
      refine for_range (lo := 0) (n := (((1 + r).toNat : Int)).toNat) (fun i σ H' => ∃ (l : List Nat) (y : Option V), σ = [some (.ref b), some (.int way), some (.bl m), some (.str (S (48 :: l))), none, y] ∧ Stp b H H' ∧ l.length = i ∧ l.all isDig = true) ⟨[], none, rfl, st, rfl, rfl⟩ ?_ ?_
      · rintro i σ H3 hi ⟨l, y, rfl, st3, hlen, hal⟩
        refine ⟨_, rfl, _, rfl, b, 10, rfl, st3.b1, by decide, by decide, fun r H4 r0 r1 st4 => ?_⟩
        obtain ⟨k, rfl⟩ : ∃ k : Nat, r = (k : Int) := ⟨r.toNat, by omega⟩
        have gk : digL[k]? = some (digL[k]'(by omega)) := List.getElem?_eq_getElem (by omega)
        generalize digL[k]'_ = c2 at gk
        refine ⟨S digL, _, c2, by rw [← z.1], rfl, by rw [S_len, hD]; omega, at_S gk, ?_⟩
        refine ⟨_, _, rfl, rfl, ?_, ?_⟩
        · show (S (48 :: l)).length + (S [c2]).length ≤ _; rw [S_len, S_len, List.length_cons]; show _ + 1 + 1 ≤ _; omega
        · exact ⟨l ++ [c2], _, by rw [← List.cons_append, ← S_cat (48 :: l) [c2]]; rfl, st3.trans st4, by rw [List.length_append, hlen]; rfl, by rw [List.all_append, hal, List.all_cons, digL_ok c2 (List.mem_of_getElem? gk)]; rfl⟩
      · rintro σ H3 ⟨l, y, rfl, st3, hlen, hal⟩
        show D.nx [_, _, _, _, some (.str (Str.ofString "0")), _] H3
        rw [z.2.1]
        refine q (48 :: l) [48] y H3 ⟨by decide, by decide, 48, [], rfl, fun _ => rfl⟩ ?_ st3
        have := BadL.num (st := false) (l := 48 :: l) (x := []) (by rw [List.all_cons, hal]; rfl) (fun z => by cases z) (by rw [List.length_cons]; show _ + 1 + 0 ≤ 50; omega) rfl (.inl ⟨rfl, .inr ⟨by rw [List.length_cons]; omega, rfl⟩⟩)
        rw [List.append_nil] at this; exact this
    · refine ⟨_, rfl, _, rfl, b, 4, rfl, hb, by decide, by decide, fun r H1 r0 r1 st => ⟨_, _, rfl, rfl, b, (1 + r).toNat, by show [V.ref b, V.int (1 + r)] = _; rw [show (((1 + r).toNat : Nat) : Int) = 1 + r by omega], st.b1, by omega, by omega, fun l H2 hl ha hh st2 => ?_⟩⟩
      obtain ⟨c, t, e, hc⟩ := hh
      refine ⟨_, rfl, _, rfl, _, rfl, b, 3, rfl, st2.b1, by decide, by decide, fun r H3 r0 r1 st3 => ⟨_, _, rfl, rfl, b, (1 + r).toNat, true, by show [V.ref b, V.int (1 + r), V.bl true] = _; rw [show (((1 + r).toNat : Nat) : Int) = 1 + r by omega], st3.b1, by omega, fun _ => by omega, fun l2 H4 hl2 ha2 hh2 st4 => ?_⟩⟩
      refine ⟨_, _, rfl, rfl, by rw [S_len, S_len]; omega, ?_⟩
      rw [S_cat]
      exact q (l ++ l2) l none H4 ⟨by omega, ha, c, t, e, fun z => absurd z hc⟩ (BadL.num ha (by rw [e]; exact fun z => by cases z) (by omega) ha2 (.inr (hh2 rfl))) (st.trans (st2.trans (st3.trans st4)))
  refine ⟨rfl, hb, fun sp gd y H1 hg hbd st => ?_⟩
  refine ⟨_, rfl, m, rfl, ?_⟩
  cases m with
  | true =>
    refine iteT ?_
    obtain ⟨hl40, hld, c0, t0, hl0, h0⟩ := hg
    have hdg : AllDigits gd := fun c hc => by
      have := of_decide_eq_true (List.all_eq_true.mp hld c hc)
      omega
    have hne : gd ≠ [] := by rw [hl0]; exact fun z => by cases z
    refine ⟨_, rfl, _, rfl, S gd, _, rfl, intText_digits (x := S gd) hdg hne (by rw [S_len]; omega), by rw [S_len]; omega, _, rfl, by show 5 ≤ sizeLine; omega, fun t ht => ?_⟩
    exact q.put st ht ⟨gd, .number, .n (digitsVal gd), none, false⟩ (.inl ⟨rfl, .inr (.inl ⟨⟨hl40, hld, c0, t0, hl0, h0⟩, rfl, rfl⟩)⟩) (by rw [z.2.2]; rfl)
  | false =>
    refine iteF ?_
    refine ⟨_, rfl, by show 5 ≤ sizeLine; omega, fun t ht => ?_⟩
    exact q.put st ht ⟨sp, .number, .n 0, some 0, false⟩ (.inr ⟨0, rfl, rfl, hbd⟩) (by rw [z.2.2]; rfl)
end
end D0
namespace D0
open PySem PySem.Spec PyProof.Rows L2 SX NumText
def pl (l : List Nat) : List (Nat × Bool) := l.map fun c => (c, false)
theorem pl_sp : ∀ l : List Nat, (pl l).flatMap unitSp = l
  | [] => rfl
  | c :: t => by show [c] ++ (pl t).flatMap unitSp = _; rw [pl_sp t]; rfl
theorem pl_fst (l : List Nat) : (pl l).map Prod.fst = l := by unfold pl; rw [List.map_map]; exact List.map_id l
theorem pl_ok {q : Nat} (hq : q = 34 ∨ q = 39) {l : List Nat} (h : l.all namc = true) : ∀ u ∈ pl l, UnitOk q u := fun u hu => by
  obtain ⟨c, hc, rfl⟩ := List.mem_map.mp hu
  have hn := List.all_eq_true.mp h c hc
  refine ⟨namc_row hn, fun z => ?_, fun z => ?_⟩
  · rw [z] at hn; revert hn; decide
  · rw [z] at hn
    rcases hq with e | e <;> (rw [e] at hn; revert hn; decide)
section
variable {P : Program} {w : World} {K : PySem.W.Frag} {mg : Str → Option Value} {base : Heap}
theorem ok__law_odd_text (T : Txt K w mg) (Ot : OkD P w K mg base CX0 1 "_law_take" p__law_take spTake) (Op : OkD P w K mg base CX0 2 "_law_spelled" p__law_spelled spSpelled) (Oi : OkD P w K mg base CX0 2 "_law_inner" p__law_inner spInner) :
    OkD P w K mg base CX0 3 "_law_odd_text" p__law_odd_text spOddW := by
  refine T.g__law_odd_text.ok sc__law_odd_text (fun vs H Q E h => ?_) (fun f cdv A outer s H vs Q E hr h => ?_)
  · obtain ⟨b, way, m, rfl, _⟩ := h; rfl
  obtain ⟨b, way, m, rfl, hb, q⟩ := h
  have lim : (1000 : Nat) ≤ sizeLine := by decide
  have five : 5 ≤ sizeLine := by omega
  have z : Str.ofString "\"'" = S [34, 39] ∧ Str.ofString "\\n" = S [92, 110] ∧ Str.ofString "\\" = S [92] ∧ Str.ofString "\n" = S [10] ∧ Str.ofString "" = S [] ∧ Str.ofString "\\\\" = S [92, 92] := by decide +kernel
  have zk : Str.ofString "text" = S Kd.text.cp := by decide +kernel
  have zo : Str.ofString " !#$&()*+,-./0123456789:;<=>?@ABCDEFGHIJKLMNOPQRSTUVWXYZ[]^_`abcdefghijklmopqrstuvwxyz{|}~" = S oddL := by decide +kernel
  have hO : oddL.length = 90 := by decide
  refine split_at 5 (fun t => ∀ (cq c : Nat) (us : List (Nat × Bool)) (bh : List Nat) (p : Addr) H1, (cq = 34 ∨ cq = 39) → us.length < 7 → (∀ u ∈ us, UnitOk cq u) → rowc c = true → escV [c] = none → bh.length ≤ 3 → bh.all namc = true → Stp b H H1 → H1 p = some (.lst [.str (S (us.map Prod.fst)), .str (S (us.flatMap unitSp))]) →
      t { nx := fun _ H' => Q .non H', rt := Q } [some (.ref b), some (.int way), some (.bl m), some (.str (S [cq])), some (.ref p), some (.str (S oddL)), some (.str (S [c])), some (.str (S bh)), none] H1) ?_ (fun t ht hg => ?_)
  rotate_left
  · refine ⟨_, pss_cons (ps_set (i := 3) sc__law_odd_text.nd rfl (.inl rfl) (pe_ix ix_str pe_str (pcall Ot hr (pa_cons (pv 0) (pa_cons pe_int pa_nil))) (fun _ _ => rfl))) (pss_cons (ps_set (i := 4) sc__law_odd_text.nd rfl (.inl rfl) (pcall Oi hr (pa_cons (pv 0) (pa_cons (pv 3) (pa_cons pe_int pa_nil))))) (pss_cons (ps_set (i := 5) sc__law_odd_text.nd rfl (.inl rfl) pe_str) (pss_cons (ps_set (i := 6) sc__law_odd_text.nd rfl (.inl rfl) (pe_ix ix_str (pv 5) (pcall Ot hr (pa_cons (pv 0) (pa_cons (pe_callB call_len_str (by rfl) T.z_len PySem.boot_len (pa_cons (pv 5) pa_nil)) pa_nil))) (fun _ _ => rfl)))
      (pss_cons (ps_set (i := 7) sc__law_odd_text.nd rfl (.inl rfl) (pcall Op hr (pa_cons (pv 0) (pa_cons (pcall Ot hr (pa_cons (pv 0) (pa_cons pe_int pa_nil))) (pa_cons pe_bl pa_nil))))) ht)))), ?_⟩
    refine ⟨_, rfl, b, 2, rfl, hb, by decide, by decide, fun r H2 r0 r1 st2 => ?_⟩
    obtain ⟨k, rfl⟩ : ∃ k : Nat, r = (k : Int) := ⟨r.toNat, by omega⟩
    have gk : ([34, 39] : List Nat)[k]? = some (([34, 39] : List Nat)[k]'(by simp; omega)) := List.getElem?_eq_getElem (by simp; omega)
    generalize ([34, 39] : List Nat)[k]'_ = cq at gk
    have hcq : cq = 34 ∨ cq = 39 := by
      have := List.mem_of_getElem? gk
      rcases List.mem_cons.mp this with h | h
      · exact .inl h
      · exact .inr (List.mem_singleton.mp h)
    refine ⟨S [34, 39], _, cq, by rw [← z.1], rfl, by rw [S_len]; show 2 ≤ sizeLine; omega, at_S gk, ?_⟩
    refine ⟨_, rfl, _, rfl, b, cq, 7, rfl, st2.b1, hcq, by decide, by decide, fun us H3 p hus hok st3 hp np hpl => ?_⟩
    rw [zo]
    refine ⟨_, rfl, _, rfl, _, rfl, _, rfl, by rw [S_len, hO]; omega, b, 90, by rw [S_len, hO]; rfl, st3.b1, by decide, by decide, fun r H4 r0 r1 st4 => ?_⟩
    obtain ⟨k, rfl⟩ : ∃ k : Nat, r = (k : Int) := ⟨r.toNat, by omega⟩
    have gk : oddL[k]? = some (oddL[k]'(by omega)) := List.getElem?_eq_getElem (by omega)
    generalize oddL[k]'_ = c at gk
    obtain ⟨o1, o2⟩ := oddL_ok c (List.mem_of_getElem? gk)
    refine ⟨S oddL, _, c, rfl, rfl, by rw [S_len, hO]; omega, at_S gk, ?_⟩
    refine ⟨_, rfl, _, rfl, b, 4, rfl, st4.b1, by decide, by decide, fun r H5 r0 r1 st5 => ?_⟩
    obtain ⟨k, rfl⟩ : ∃ k : Nat, r = (k : Int) := ⟨r.toNat, by omega⟩
    refine ⟨b, k, false, rfl, st5.b1, by omega, (fun z => by cases z), fun l H6 hl ha _ st6 => ?_⟩
    exact hg cq c us l p H6 hcq hus hok o1 o2 (by omega) ha (st2.trans (st3.trans (st4.trans (st5.trans st6)))) (st6.keep _ _ np (st5.keep _ _ np (st4.keep _ _ np hpl)))
  refine ⟨_, (pss_cons (ps_if (pt_cmpR op_eq (pv 1) pe_int (nomark _)) (pss_cons (ps_if (pt_val (pv 2)) (pss_one (ps_ret (pe_lst (pa_cons (pe_op op_add_str (pe_op op_add_str (pv 3) (pe_ix ix_list (pv 4) pe_int (fun _ _ => rfl))) (pv 3)) (pa_cons pe_str (pa_cons (pe_ix ix_list (pv 4) pe_int (fun _ _ => rfl)) (pa_cons (pe_un un_neg pe_int) (pa_cons pe_bl pa_nil)))))))) pss_nil)
      (pss_one (ps_ret (pe_lst (pa_cons (pe_op op_add_str (pv 3) (pe_ix ix_list (pv 4) pe_int (fun _ _ => rfl))) (pa_cons pe_str (pa_cons pe_non (pa_cons pe_int (pa_cons pe_bl pa_nil))))))))) pss_nil)
      (pss_cons (ps_if (pt_cmpR op_eq (pv 1) pe_int (nomark _)) (pss_cons (ps_if (pt_val (pv 2)) (pss_one (ps_ret (pe_lst (pa_cons (pe_op op_add_str (pe_op op_add_str (pe_op op_add_str (pv 3) (pe_ix ix_list (pv 4) pe_int (fun _ _ => rfl))) pe_str) (pv 3)) (pa_cons pe_str (pa_cons (pe_op op_add_str (pe_ix ix_list (pv 4) pe_int (fun _ _ => rfl)) pe_str) (pa_cons (pe_un un_neg pe_int) (pa_cons pe_bl pa_nil)))))))) pss_nil)
      (pss_one (ps_ret (pe_lst (pa_cons (pe_op op_add_str (pe_op op_add_str (pv 3) (pe_ix ix_list (pv 4) pe_int (fun _ _ => rfl))) pe_str) (pa_cons pe_str (pa_cons pe_non (pa_cons pe_int (pa_cons pe_bl pa_nil))))))))) pss_nil)
      (pss_cons (ps_if (pt_val (pv 2)) (pss_one (ps_ret (pe_lst (pa_cons (pe_op op_add_str (pe_op op_add_str (pe_op op_add_str (pe_op op_add_str (pv 3) (pe_ix ix_list (pv 4) pe_int (fun _ _ => rfl))) pe_str) (pv 7)) (pv 3)) (pa_cons pe_str (pa_cons (pe_op op_add_str (pe_op op_add_str (pe_ix ix_list (pv 4) pe_int (fun _ _ => rfl)) pe_str) (pv 7)) (pa_cons (pe_un un_neg pe_int) (pa_cons (pe_cmpR op_eq (pv 1) pe_int (nomark _)) pa_nil)))))))) pss_nil)
      (pss_cons (ps_set (i := 8) sc__law_odd_text.nd rfl (.inl rfl) (pe_op op_add_str (pe_op op_add_str (pe_op op_add_str (pe_op op_add_str (pv 3) (pe_ix ix_list (pv 4) pe_int (fun _ _ => rfl))) pe_str) (pv 6)) (pv 7)))
      (pss_one (ps_ret (pe_lst (pa_cons (pe_op op_add_str (pv 8) (PE.of (t' := fun σ H Q => σ[1]? = some (some (V.int way)) ∧ ∃ cq, σ[3]? = some (some (V.str (S [cq]))) ∧ ∀ x : List Nat, (x = [] ∨ x = [cq]) → (way = 5 → x = []) → (way ≠ 5 → x = [cq]) → Q (.str (S x)) H) (pe_ifExp (pt_cmpR op_eq (pv 1) pe_int (nomark _)) pe_str (pv 3)) ?ife)) (pa_cons pe_str (pa_cons pe_non (pa_cons (pe_op op_add pe_int (pe_callB call_len_str (by rfl) T.z_len PySem.boot_len (pa_cons (pe_ix ix_list (pv 4) pe_int (fun _ _ => rfl)) pa_nil))) (pa_cons (pe_cmpR op_eq (pv 1) pe_int (nomark _)) pa_nil)))))))))))), ?_⟩
  case ife =>
    rintro σ H Q ⟨h1, cq, h3, h2⟩
    refine ⟨_, h1, rfl, _, rfl, ite2 (fun c => ?_) (fun c => ?_)⟩
    · have c : V.int way = V.int 5 := of_decide_eq_true c
      have c := V.int.inj c
      show Q (.str (Str.ofString "")) H
      rw [z.2.2.2.2.1]; exact h2 [] (.inl rfl) (fun _ => rfl) (fun n => absurd c n)
    · have c : way ≠ 5 := fun e => c (decide_eq_true (by rw [e]))
      exact ⟨_, h3, h2 [cq] (.inr rfl) (fun n => absurd n c) (fun _ => rfl)⟩
  intro cq c us bh p H1 hcq hus hok o1 o2 hbl hba st hpl
  have hfl := unitsSp_len us
  have L1 : (S [cq]).length + (S (us.flatMap unitSp)).length ≤ sizeLine := by rw [S_len, S_len]; show 1 + _ ≤ _; omega
  have ix1 : ∀ x : Str, atI ([.str (S (us.map Prod.fst)), .str x] : List V) (1 : Int) = some (.str x) := fun x => rfl
  refine ⟨_, rfl, rfl, _, rfl, ite2 (fun _ => ?_) (fun _ => ?_)⟩
  · refine ⟨_, rfl, m, rfl, ?_⟩
    cases m with
    | true =>
      refine iteT ?_
      refine ⟨_, rfl, _, rfl, p, _, 1, _, rfl, rfl, SqL.of hpl, rfl, _, _, rfl, rfl, L1, _, rfl, _, _, rfl, rfl, by rw [S_cat, S_len, S_len, List.length_append]; show 1 + _ + 1 ≤ _; omega, _, rfl, p, _, 0, _, rfl, rfl, SqL.of hpl, rfl, _, rfl, five, fun t ht => ?_⟩
      exact q.put st ht ⟨cq :: (us.flatMap unitSp ++ [cq]), .text, .s (us.map Prod.fst), none, true⟩ (.inl ⟨rfl, .inr (.inr (.inl ⟨_, ⟨cq, us, hcq, rfl, rfl, by omega, hok⟩, rfl, rfl⟩))⟩) (by rw [zk, S_cat, S_cat]; rfl)
    | false =>
      refine iteF ?_
      refine ⟨_, rfl, _, rfl, p, _, 1, _, rfl, rfl, SqL.of hpl, rfl, _, _, rfl, rfl, L1, five, fun t ht => ?_⟩
      refine q.put st ht ⟨cq :: us.flatMap unitSp, .text, .n 0, some 0, true⟩ (.inr ⟨0, rfl, rfl, ?_⟩) (by rw [zk, S_cat]; rfl)
      have := BadL.open_ (r := []) hcq hok (by omega) (.inl rfl)
      rw [List.append_nil] at this; exact this
  refine ⟨_, rfl, rfl, _, rfl, ite2 (fun _ => ?_) (fun _ => ?_)⟩
  · refine ⟨_, rfl, m, rfl, ?_⟩
    cases m with
    | true =>
      refine iteT ?_
      refine ⟨_, rfl, _, rfl, p, _, 1, _, rfl, rfl, SqL.of hpl, rfl, _, _, rfl, rfl, L1, _, _, rfl, rfl, by rw [S_cat, z.2.2.2.2.2, S_len, S_len, List.length_append]; show 1 + _ + 2 ≤ _; omega, _, rfl, _, _, rfl, rfl, by rw [S_cat, z.2.2.2.2.2, S_cat, S_len, S_len, List.length_append, List.length_append]; show 1 + _ + 2 + 1 ≤ _; omega, _, rfl, p, _, 0, _, rfl, rfl, SqL.of hpl, rfl, _, _, rfl, rfl, by rw [z.2.2.1, S_len, S_len, List.length_map]; show _ + 1 ≤ _; omega, _, rfl, five, fun t ht => ?_⟩
      refine q.put st ht ⟨cq :: ((us ++ [(92, true)]).flatMap unitSp ++ [cq]), .text, .s ((us ++ [(92, true)]).map Prod.fst), none, true⟩ (.inl ⟨rfl, .inr (.inr (.inl ⟨_, ⟨cq, us ++ [(92, true)], hcq, rfl, rfl, by rw [List.length_append]; show _ + 1 ≤ 10; omega, fun u hu => ?_⟩, rfl, rfl⟩))⟩) ?_
      · rcases List.mem_append.mp hu with h | h
        · exact hok u h
        · rw [List.mem_singleton.mp h]; exact .inr (.inl rfl)
      · rw [zk, z.2.2.2.2.2, z.2.2.1, S_cat, S_cat, S_cat, S_cat, List.map_append, List.flatMap_append]; rfl
    | false =>
      refine iteF ?_
      refine ⟨_, rfl, _, rfl, p, _, 1, _, rfl, rfl, SqL.of hpl, rfl, _, _, rfl, rfl, L1, _, _, rfl, rfl, by rw [S_cat, z.2.2.1, S_len, S_len, List.length_append]; show 1 + _ + 1 ≤ _; omega, five, fun t ht => ?_⟩
      exact q.put st ht ⟨cq :: (us.flatMap unitSp ++ [92]), .text, .n 0, some 0, true⟩ (.inr ⟨0, rfl, rfl, BadL.open_ hcq hok (by omega) (.inr rfl)⟩) (by rw [zk, z.2.2.1, S_cat, S_cat]; rfl)
  refine ⟨_, rfl, m, rfl, ?_⟩
  cases m with
  | true =>
    refine iteT ?_
    refine ⟨_, rfl, _, rfl, p, _, 1, _, rfl, rfl, SqL.of hpl, rfl, _, _, rfl, rfl, L1, _, _, rfl, rfl, by rw [S_cat, z.2.1, S_len, S_len, List.length_append]; show 1 + _ + 2 ≤ _; omega, ?_⟩
    rw [z.2.1, S_cat, S_cat]
    refine ⟨_, rfl, _, _, rfl, rfl, by rw [S_len, S_len, List.length_append, List.length_append]; show 1 + _ + 2 + _ ≤ _; omega, ?_⟩
    rw [S_cat]
    refine ⟨_, rfl, _, _, rfl, rfl, by rw [S_len, S_len, List.length_append, List.length_append, List.length_append]; show 1 + _ + 2 + _ + 1 ≤ _; omega, ?_⟩
    rw [S_cat]
    refine ⟨_, rfl, p, _, 0, _, rfl, rfl, SqL.of hpl, rfl, _, _, rfl, rfl, by rw [z.2.2.2.1, S_len, S_len, List.length_map]; show _ + 1 ≤ _; omega, ?_⟩
    rw [z.2.2.2.1, S_cat]
    refine ⟨_, rfl, _, _, rfl, rfl, by rw [S_len, S_len, List.length_append, List.length_map]; show _ + 1 + _ ≤ _; omega, ?_⟩
    rw [S_cat]
    refine ⟨_, rfl, _, rfl, rfl, five, fun t ht => ?_⟩
    refine q.put st ht ⟨cq :: ((us ++ (10, true) :: pl bh).flatMap unitSp ++ [cq]), .text, .s ((us ++ (10, true) :: pl bh).map Prod.fst), none, decide (way = 5)⟩ (.inl ⟨rfl, .inr (.inr (.inl ⟨_, ⟨cq, us ++ (10, true) :: pl bh, hcq, rfl, rfl, ?_, fun u hu => ?_⟩, rfl, rfl⟩))⟩) ?_
    · rw [List.length_append, List.length_cons]; unfold pl; rw [List.length_map]; omega
    · rcases List.mem_append.mp hu with h | h
      · exact hok u h
      · rcases List.mem_cons.mp h with h | h
        · rw [h]; exact .inl rfl
        · exact pl_ok hcq hba u h
    · rw [zk, List.map_append, List.flatMap_append, List.map_cons, List.flatMap_cons, pl_sp, pl_fst]
      simp [It.vs, unitSp, Wd.v]
  | false =>
    refine iteF ?_
    refine ⟨_, rfl, _, rfl, p, _, 1, _, rfl, rfl, SqL.of hpl, rfl, _, _, rfl, rfl, L1, _, _, rfl, rfl, by rw [S_cat, z.2.2.1, S_len, S_len, List.length_append]; show 1 + _ + 1 ≤ _; omega, ?_⟩
    rw [z.2.2.1, S_cat, S_cat]
    refine ⟨_, rfl, _, _, rfl, rfl, by rw [S_len, S_len, List.length_append, List.length_append]; show 1 + _ + 1 + 1 ≤ _; omega, ?_⟩
    rw [S_cat]
    refine ⟨_, rfl, _, _, rfl, rfl, by rw [S_len, S_len, List.length_append, List.length_append, List.length_append]; show 1 + _ + 1 + 1 + _ ≤ _; omega, ?_⟩
    rw [S_cat]
    refine ⟨_, rfl, rfl, cq, rfl, fun x hx x5 xn => ?_⟩
    have hxl : x.length ≤ 1 := by rcases hx with e | e <;> (rw [e]; simp)
    refine ⟨_, _, rfl, rfl, by rw [S_len, S_len, List.length_append, List.length_append, List.length_append, List.length_append]; show 1 + _ + 1 + 1 + _ + _ ≤ _; omega, ?_⟩
    refine ⟨_, rfl, p, _, 1, _, rfl, rfl, SqL.of hpl, rfl, _, rfl, by rw [S_len]; omega, _, _, rfl, rfl, _, rfl, rfl, five, fun t ht => ?_⟩
    refine q.put st ht ⟨cq :: (us.flatMap unitSp ++ 92 :: c :: (bh ++ x)), .text, .n 0, some (1 + (us.flatMap unitSp).length), decide (way = 5)⟩ (.inr ⟨_, rfl, rfl, BadL.esc hcq hok (by omega) ?_ (by rw [List.length_append]; omega) o1 o2⟩) ?_
    · rw [List.all_append, all_imp hba fun c => namc_row]
      rcases hx with e | e
      · rw [e]; rfl
      · rw [e, List.all_cons, (quo_ne hcq).1]; rfl
    · rw [zk, S_cat]
      simp [It.vs, S_len]
end
end D0
namespace D0
open PySem PySem.Spec PyProof.Rows L2 SX NumText
def dS (ls : List (List Nat)) : List PyData := ls.map fun l => .str (S l)
theorem dS_dp {K : PySem.W.Frag} {H : Hp} : ∀ ls : List (List Nat), DpAll K H (ls.map fun l => V.str (S l)) (dS ls)
  | [] => .nil
  | n :: r => .cons (.str _) (dS_dp r)
theorem dS_sh : ∀ ns : List (List Nat), (∀ l ∈ ns, PyData.strOk (S l) = true) → PyData.canLayAll0 (dS ns) = true ∧ PyData.depthAll (dS ns) ≤ 2
  | [], _ => ⟨rfl, by decide⟩
  | n :: r, h => by
    obtain ⟨a, b⟩ := dS_sh r fun l hl => h l (List.mem_cons_of_mem _ hl)
    unfold dS at a b ⊢
    refine ⟨?_, ?_⟩
    · rw [List.map_cons, PyData.canLayAll0, a, Bool.and_true, PyData.canLay0]; exact h n List.mem_cons_self
    · rw [List.map_cons, PyData.depthAll]
      exact Nat.max_le.mpr ⟨by show PyData.depth (.str _) ≤ 2; unfold PyData.depth; decide, b⟩
theorem dS_shaped (ns : List (List Nat)) (h : ∀ l ∈ ns, PyData.strOk (S l) = true) : SeqAt.shaped (.list (dS ns)) = true := by
  obtain ⟨a, b⟩ := dS_sh ns h
  unfold SeqAt.shaped
  rw [PyData.canLay0, a, PyData.depth]
  exact decide_eq_true (by omega)
theorem dS_nil (ns : List (List Nat)) : PyData.eqv (.list (dS ns)) (.list []) = decide (ns = []) := by
  cases ns with
  | nil => rfl
  | cons d r => rfl
theorem CLS_str : ∀ s ∈ CLS, PyData.strOk (S s) = true := by decide +kernel
/-- the closers that are due stand at ca -/
structure ClA (H : Hp) (ca : Addr) (cl : List (List Nat)) : Prop where
  at_ : H ca = some (.lst (cl.map fun l => V.str (S l)))
  ok : ∀ c ∈ cl, c ∈ CLS
  len : cl.length ≤ 500
theorem ClA.dp {K : PySem.W.Frag} {H : Hp} {ca : Addr} {cl : List (List Nat)} (x : ClA H ca cl) : Dp K H (.ref ca) (.list (dS cl)) := .lst (SqL.of x.at_) (dS_dp cl)
theorem ClA.shaped {H : Hp} {ca : Addr} {cl : List (List Nat)} (x : ClA H ca cl) : SeqAt.shaped (.list (dS cl)) = true := dS_shaped cl fun l hl => CLS_str l (x.ok l hl)
theorem ClA.keep {H H' : Hp} {ca : Addr} {cl : List (List Nat)} (x : ClA H ca cl) (k : ∀ o, H ca = some o → H' ca = some o) : ClA H' ca cl := ⟨k _ x.at_, x.ok, x.len⟩
theorem ClA.ne {H : Hp} {b ca : Addr} {cl : List (List Nat)} (x : ClA H ca cl) (hb : Bag H b) : ca ≠ b := hb.ne' x.at_
theorem NSG_add : ∀ c ∈ NSG, ∀ v ∈ [[33, 61], [47, 47], [46]], v ∈ SG := by decide
def spItem : Sp := fun vs H Q _ => ∃ (b ca : Addr) (bends : Int) (m : Bool) (cl : List (List Nat)), vs = [.ref b, .int bends, .bl m, .ref ca] ∧ Bag H b ∧ ClA H ca cl ∧ 0 ≤ bends ∧ bends ≤ 1000 ∧ ItQ m b H Q
section
variable {P : Program} {w : World} {K : PySem.W.Frag} {mg : Str → Option Value} {base : Heap}
theorem ok__law_odd (T : Txt K w mg) (Ot : OkD P w K mg base CX0 1 "_law_take" p__law_take spTake) (Op : OkD P w K mg base CX0 2 "_law_spelled" p__law_spelled spSpelled) (On : OkD P w K mg base CX0 2 "_law_named" p__law_named spNamed)
    (Of : OkD P w K mg base CX0 3 "_law_odd_figures" p__law_odd_figures spOddW) (Ox : OkD P w K mg base CX0 3 "_law_odd_text" p__law_odd_text spOddW) :
    OkD P w K mg base CX0 4 "_law_odd" p__law_odd spOdd := by
  refine T.g__law_odd.ok sc__law_odd (fun vs H Q E h => ?_) (fun f cdv A outer s H vs Q E hr h => ?_)
  · obtain ⟨b, m, rfl, _⟩ := h; rfl
  obtain ⟨b, m, rfl, hb, q⟩ := h
  have lim : (1000 : Nat) ≤ sizeLine := by decide
  have five : 5 ≤ sizeLine := by omega
  have zk : Str.ofString "name" = S Kd.name.cp ∧ Str.ofString "sign" = S Kd.sign.cp ∧ Str.ofString "," = S [44] ∧ Str.ofString ")]}" = S [41, 93, 125] := by decide +kernel
  have zs : ([.str (Str.ofString "!"), .str (Str.ofString "/"), .str (Str.ofString "\\"), .str (Str.ofString "$"), .str (Str.ofString "&"), .str (Str.ofString "?"), .str (Str.ofString "@"), .str (Str.ofString ";"), .str (Str.ofString "^"), .str (Str.ofString "`"), .str (Str.ofString "|"), .str (Str.ofString "~")] : List V) = NSG.map fun c => V.str (S [c]) := by decide +kernel
  have zv : Str.ofString "!=" = S [33, 61] ∧ Str.ofString "//" = S [47, 47] ∧ Str.ofString "." = S [46] := by decide +kernel
  have hN : NSG.length = 12 := by decide
  refine ⟨_, (pss_cons (ps_set (i := 2) sc__law_odd.nd rfl (.inl rfl) (pcall Ot hr (pa_cons (pv 0) (pa_cons pe_int pa_nil))))
      (pss_cons (ps_if (pt_cmpR op_eq (pv 2) pe_int (nomark _)) (pss_cons (ps_set (i := 3) sc__law_odd.nd rfl (.inl rfl) (pcall Op hr (pa_cons (pv 0) (pa_cons (pe_op op_add pe_int (pcall Ot hr (pa_cons (pv 0) (pa_cons pe_int pa_nil)))) (pa_cons pe_bl pa_nil)))))
      (pss_cons (ps_if (pt_val (pv 1)) (pss_one (ps_ret (pcall On hr (pa_cons (pe_slice sl_str (pv 3) po_none (po_some pe_int)) pa_nil)))) pss_nil)
      (pss_one (ps_ret (pe_lst (pa_cons (pv 3) (pa_cons pe_str (pa_cons pe_non (pa_cons pe_int (pa_cons pe_bl pa_nil)))))))))) pss_nil)
      (pss_cons (ps_if (pt_cmpR op_lt (pv 2) pe_int (nomark _)) (pss_one (ps_ret (pcall Of hr (pa_cons (pv 0) (pa_cons (pv 2) (pa_cons (pv 1) pa_nil)))))) pss_nil)
      (pss_cons (ps_if (pt_cmpR op_lt (pv 2) pe_int (nomark _)) (pss_one (ps_ret (pcall Ox hr (pa_cons (pv 0) (pa_cons (pv 2) (pa_cons (pv 1) pa_nil)))))) pss_nil)
      (pss_cons (ps_if (pt_cmpR op_lt (pv 2) pe_int (nomark _)) (pss_cons (ps_set (i := 4) sc__law_odd.nd rfl (.inl rfl) (pe_lst (pa_cons pe_str (pa_cons pe_str (pa_cons pe_str (pa_cons pe_str (pa_cons pe_str (pa_cons pe_str (pa_cons pe_str (pa_cons pe_str (pa_cons pe_str (pa_cons pe_str (pa_cons pe_str (pa_cons pe_str pa_nil))))))))))))))
      (pss_cons (ps_set (i := 5) sc__law_odd.nd rfl (.inl rfl) (pe_ix ix_list (pv 4) (pcall Ot hr (pa_cons (pv 0) (pa_cons (pe_callB call_len_seq (by rfl) T.z_len PySem.boot_len (pa_cons (pv 4) pa_nil)) pa_nil))) (fun _ _ => rfl)))
      (pss_cons (ps_if (pt_val (pv 1)) (pss_cons (ps_set (i := 5) sc__law_odd.nd rfl (.inl rfl) (pe_dget2 (hu_of' hr) (pe_disp (pps_cons pe_str pe_str (pps_cons pe_str pe_str pps_nil)) rfl rfl (by intro z; cases z) (by decide)) (pv 5) pe_str ⟨rfl, rfl, rfl, rfl⟩))
      (pss_one (ps_ret (pe_lst (pa_cons (pv 5) (pa_cons pe_str (pa_cons (pv 5) (pa_cons (pe_un un_neg pe_int) (pa_cons pe_bl pa_nil))))))))) pss_nil)
      (pss_one (ps_ret (pe_lst (pa_cons (pv 5) (pa_cons pe_str (pa_cons pe_non (pa_cons pe_int (pa_cons pe_bl pa_nil))))))))))) pss_nil)
      (pss_cons (ps_set (i := 5) sc__law_odd.nd rfl (.inl rfl) (pe_ix ix_str pe_str (pcall Ot hr (pa_cons (pv 0) (pa_cons pe_int pa_nil))) (fun _ _ => rfl)))
      (pss_cons (ps_if (pt_val (pv 1)) (pss_one (ps_set (i := 5) sc__law_odd.nd rfl (.inl rfl) pe_str)) pss_nil)
      (pss_one (ps_ret (pe_lst (pa_cons (pv 5) (pa_cons pe_str (pa_cons (pv 5) (pa_cons (pe_un un_neg pe_int) (pa_cons pe_bl pa_nil))))))))))))))), ?_⟩
  refine ⟨_, rfl, b, 12, rfl, hb, by decide, by decide, fun r H1 r0 r1 st => ?_⟩
  refine ⟨_, rfl, rfl, _, rfl, ite2 (fun _ => ?_) (fun _ => ?_)⟩
  · refine ⟨_, rfl, _, rfl, b, 3, rfl, st.b1, by decide, by decide, fun r H2 r0 r1 st2 => ?_⟩
    refine ⟨_, _, rfl, rfl, b, (31 + r).toNat, true, by show [V.ref b, V.int (31 + r), V.bl true] = _; rw [show (((31 + r).toNat : Nat) : Int) = 31 + r by omega], st2.b1, by omega, fun _ => by omega, fun l H3 hl ha hh st3 => ?_⟩
    have st' := st.trans (st2.trans st3)
    refine ⟨_, rfl, m, rfl, ?_⟩
    cases m with
    | true =>
      refine iteT ?_
      refine ⟨_, rfl, 30, rfl, _, rfl, by rw [S_len]; omega, ?_⟩
      rw [show cutS (S l) none (some 30) = S (l.take 30) from cut_0 l 30]
      obtain ⟨c, t, e, hc⟩ := hh rfl
      exact ⟨b, l.take 30, rfl, st'.b1, ⟨by rw [List.length_take]; omega, List.all_eq_true.mpr fun x hx => List.all_eq_true.mp ha x (List.mem_of_mem_take hx), c, t.take 29, by rw [e]; rfl, hc⟩, q.trans st'⟩
    | false =>
      refine iteF ?_
      refine ⟨_, rfl, five, fun t ht => ?_⟩
      exact q.put st' ht ⟨l, .name, .n 0, some 0, false⟩ (.inr ⟨0, rfl, rfl, BadL.name (by show 30 < l.length; omega) (by show l.length ≤ 50; omega) ha (hh rfl)⟩) (by rw [zk.1]; rfl)
  refine ⟨_, rfl, _, _, rfl, rfl, _, rfl, ite2 (fun _ => ?_) (fun _ => ?_)⟩
  · exact ⟨_, rfl, _, rfl, _, rfl, b, r, m, rfl, st.b1, q.trans st⟩
  refine ⟨_, rfl, _, _, rfl, rfl, _, rfl, ite2 (fun _ => ?_) (fun _ => ?_)⟩
  · exact ⟨_, rfl, _, rfl, _, rfl, b, r, m, rfl, st.b1, q.trans st⟩
  refine ⟨_, rfl, _, _, rfl, rfl, _, rfl, ite2 (fun _ => ?_) (fun _ => ?_)⟩
  · refine ⟨by show 12 ≤ sizeLine; omega, fun g hg => ?_⟩
    rw [zs]
    have st1 := st.trans (Stp.new st.b1 hg (o := .lst (NSG.map fun c => V.str (S [c]))))
    have gb : g ≠ b := st.b1.ne hg
    refine ⟨_, rfl, _, rfl, _, rfl, g, _, rfl, .inl (SqL.of upd_same), b, 12, by rw [List.length_map, hN]; rfl, st1.b1, by decide, by decide, fun r H2 r0 r1 st2 => ?_⟩
    obtain ⟨k, rfl⟩ : ∃ k : Nat, r = (k : Int) := ⟨r.toNat, by omega⟩
    have gk : NSG[k]? = some (NSG[k]'(by omega)) := List.getElem?_eq_getElem (by omega)
    generalize NSG[k]'_ = c at gk
    have hm := List.mem_of_getElem? gk
    have hg2 := st2.keep g _ gb (upd_same (H := H1))
    refine ⟨g, _, _, .str (S [c]), rfl, rfl, SqL.of hg2, atI_nat (by rw [List.getElem?_map, gk]; rfl), ?_⟩
    have st' := st1.trans st2
    refine ⟨_, rfl, m, rfl, ?_⟩
    cases m with
    | true =>
      refine iteT ?_
      intro d hd
      refine ⟨upd_same, [(.inr (Str.ofString "!"), .str (Str.ofString "!=")), (.inr (Str.ofString "/"), .str (Str.ofString "//"))], rfl, by decide, ?_⟩
      rw [upd_upd]
      generalize hH3 : upd H2 d _ = H3
      have s3 : Same H2 H3 := by rw [← hH3]; exact same_new hd _
      have hd3 : H3 d = some (.dK (mergeK [] [(.inr (Str.ofString "!"), .str (Str.ofString "!=")), (.inr (Str.ofString "/"), .str (Str.ofString "//"))])) := by rw [← hH3]; exact upd_same
      refine ⟨d, rfl, .inl ⟨_, .inl hd3⟩, _, rfl, _, .inl ⟨_, .inr (S [c]), .inl hd3, rfl, rfl⟩, ?_⟩
      have hv : ∃ v, (valV (mergeK [] [(.inr (Str.ofString "!"), .str (Str.ofString "!=")), (.inr (Str.ofString "/"), .str (Str.ofString "//"))]) (.inr (S [c]) : Key)).getD (.str (Str.ofString ".")) = .str (S v) ∧ v ∈ SG := by
        have : ∀ x ∈ NSG, ∃ v, (valV (mergeK [] [(.inr (Str.ofString "!"), .str (Str.ofString "!=")), (.inr (Str.ofString "/"), .str (Str.ofString "//"))]) (.inr (S [x]) : Key)).getD (.str (Str.ofString ".")) = .str (S v) ∧ v ∈ SG := by
          have h : ∀ x ∈ NSG, (valV (mergeK [] [(.inr (Str.ofString "!"), .str (Str.ofString "!=")), (.inr (Str.ofString "/"), .str (Str.ofString "//"))]) (.inr (S [x]) : Key)).getD (.str (Str.ofString ".")) ∈ ([.str (S [33, 61]), .str (S [47, 47]), .str (S [46])] : List V) := by decide +kernel
          intro x hx
          have h := h x hx
          rcases List.mem_cons.mp h with e | h
          · exact ⟨_, e, by decide⟩
          rcases List.mem_cons.mp h with e | h
          · exact ⟨_, e, by decide⟩
          exact ⟨_, List.mem_singleton.mp h, by decide⟩
        exact this c hm
      obtain ⟨v, e, hv⟩ := hv
      rw [e]
      refine ⟨_, rfl, _, rfl, _, rfl, five, fun t ht => ?_⟩
      exact q.put (st'.trans (Stp.same st'.b1 s3)) ht ⟨v, .sign, .s v, none, false⟩ (.inl ⟨rfl, TokL.sign hv⟩) (by rw [zk.2.1]; rfl)
    | false =>
      refine iteF ?_
      refine ⟨_, rfl, five, fun t ht => ?_⟩
      exact q.put st' ht ⟨[c], .sign, .n 0, some 0, false⟩ (.inr ⟨0, rfl, rfl, BadL.sign hm⟩) (by rw [zk.2.1]; rfl)
  refine ⟨_, rfl, b, 3, rfl, st.b1, by decide, by decide, fun r H2 r0 r1 st2 => ?_⟩
  obtain ⟨k, rfl⟩ : ∃ k : Nat, r = (k : Int) := ⟨r.toNat, by omega⟩
  have gk : ([41, 93, 125] : List Nat)[k]? = some (([41, 93, 125] : List Nat)[k]'(by simp; omega)) := List.getElem?_eq_getElem (by simp; omega)
  generalize ([41, 93, 125] : List Nat)[k]'_ = c at gk
  have hc : [c] ∈ SG := by
    have : ∀ x ∈ ([41, 93, 125] : List Nat), [x] ∈ SG := by decide
    exact this c (List.mem_of_getElem? gk)
  refine ⟨S [41, 93, 125], _, c, by rw [← zk.2.2.2], rfl, by rw [S_len]; show 3 ≤ sizeLine; omega, at_S gk, ?_⟩
  have st' := st.trans st2
  refine ⟨_, rfl, m, rfl, ?_⟩
  cases m with
  | true =>
    refine iteT ?_
    refine ⟨_, rfl, _, rfl, _, rfl, five, fun t ht => ?_⟩
    exact q.put st' ht ⟨[44], .sign, .s [44], none, false⟩ (.inl ⟨rfl, .inr (.inr (.inr ⟨by decide, rfl, rfl⟩))⟩) (by rw [zk.2.1, zk.2.2.1]; rfl)
  | false =>
    refine iteF ?_
    refine ⟨_, rfl, _, rfl, _, rfl, five, fun t ht => ?_⟩
    exact q.put st' ht ⟨[c], .sign, .s [c], none, false⟩ (.inl ⟨rfl, .inr (.inr (.inr ⟨hc, rfl, rfl⟩))⟩) (by rw [zk.2.1]; rfl)
theorem ok__law_item (T : Txt K w mg) (Ot : OkD P w K mg base CX0 1 "_law_take" p__law_take spTake) (Oo : OkD P w K mg base CX0 4 "_law_odd" p__law_odd spOdd) (Og : OkD P w K mg base CX0 3 "_law_good" p__law_good spGood) :
    OkD P w K mg base CX0 5 "_law_item" p__law_item spItem := by
  refine T.g__law_item.ok sc__law_item (fun vs H Q E h => ?_) (fun f cdv A outer s H vs Q E hr h => ?_)
  · obtain ⟨b, ca, bends, m, cl, rfl, _⟩ := h; rfl
  obtain ⟨b, ca, bends, m, cl, rfl, hb, hcl, b0, b1, q⟩ := h
  have lim : (1000 : Nat) ≤ sizeLine := by decide
  have five : 5 ≤ sizeLine := by omega
  have zk : Str.ofString "sign" = S Kd.sign.cp ∧ Str.ofString "([{" = S [40, 91, 123] := by decide +kernel
  refine ⟨_, (pss_cons (ps_set (i := 4) sc__law_item.nd rfl (.inl rfl) (pcall Ot hr (pa_cons (pv 0) (pa_cons pe_int pa_nil))))
      (pss_cons (PS.of (t' := fun D σ H => (∃ y, σ = [some (.ref b), some (.int bends), some (.bl m), some (.ref ca), some (.int y), none]) ∧ Bag H b ∧ ClA H ca cl ∧ ItQ m b H D.rt ∧ D.nx σ H)
      (ps_if (PW.pt (pw_and (pt_cmpR op_eq (pv 4) pe_int (nomark _)) (pw_and1 (pt_cmpR op_lt (pe_callB call_len_seq (by rfl) T.z_len PySem.boot_len (pa_cons (pv 3) pa_nil)) pe_int (nomark _))))) (pss_cons (ps_set (i := 5) sc__law_item.nd rfl (.inl rfl) (pe_ix ix_str pe_str (pcall Ot hr (pa_cons (pv 0) (pa_cons pe_int pa_nil))) (fun _ _ => rfl)))
      (pss_one (ps_ret (pe_lst (pa_cons (pv 5) (pa_cons pe_str (pa_cons (pv 5) (pa_cons (pe_un un_neg pe_int) (pa_cons pe_bl pa_nil))))))))) pss_nil) ?if1)
      (pss_cons (PS.of (t' := fun D σ H => (∃ y, σ = [some (.ref b), some (.int bends), some (.bl m), some (.ref ca), some (.int y), none]) ∧ Bag H b ∧ ClA H ca cl ∧ ItQ m b H D.rt ∧ ∀ H', Same H H' → D.nx σ H')
      (ps_if (PW.pt (pw_and (pt_cmpR op_eq (pv 4) pe_int (nomark _)) (pw_and1 (pt_cmpR (op_neD hr.units) (pv 3) (pe_lst pa_nil) (nomark _))))) (pss_one (ps_ret (pe_lst (pa_cons (pe_ix ix_list (pv 3) (pe_un un_neg pe_int) (fun _ _ => rfl)) (pa_cons pe_str (pa_cons (pe_ix ix_list (pv 3) (pe_un un_neg pe_int) (fun _ _ => rfl)) (pa_cons (pe_un un_neg pe_int) (pa_cons pe_bl pa_nil)))))))) pss_nil) ?if2)
      (pss_cons (ps_if (PW.pt (pw_and (pt_cmpR op_gt (pv 1) pe_int (nomark _)) (pw_and1 (pt_cmpR op_eq (pcall Ot hr (pa_cons (pv 0) (pa_cons (pv 1) pa_nil))) pe_int (nomark _))))) (pss_one (ps_ret (pcall Oo hr (pa_cons (pv 0) (pa_cons (pv 2) pa_nil))))) pss_nil)
      (pss_one (ps_ret (pcall Og hr (pa_cons (pv 0) pa_nil)))))))), ?_⟩
  case if1 =>
    rintro D σ H ⟨⟨y, rfl⟩, hb, hc, q, qn⟩
    refine ⟨_, rfl, rfl, _, rfl, ite2 (fun _ => ?_) (fun _ => iteF qn)⟩
    refine ⟨_, rfl, ca, _, rfl, .inl (SqL.of hc.at_), _, _, rfl, rfl, _, rfl, ite2 (fun _ => ?_) (fun _ => qn)⟩
    refine ⟨_, rfl, b, 3, rfl, hb, by decide, by decide, fun r H2 r0 r1 st2 => ?_⟩
    obtain ⟨k, rfl⟩ : ∃ k : Nat, r = (k : Int) := ⟨r.toNat, by omega⟩
    have gk : ([40, 91, 123] : List Nat)[k]? = some (([40, 91, 123] : List Nat)[k]'(by simp; omega)) := List.getElem?_eq_getElem (by simp; omega)
    generalize ([40, 91, 123] : List Nat)[k]'_ = c at gk
    have hc : [c] ∈ SG := by
      have : ∀ x ∈ ([40, 91, 123] : List Nat), [x] ∈ SG := by decide
      exact this c (List.mem_of_getElem? gk)
    refine ⟨S [40, 91, 123], _, c, by rw [← zk.2], rfl, by rw [S_len]; show 3 ≤ sizeLine; omega, at_S gk, ?_⟩
    refine ⟨_, rfl, _, rfl, _, rfl, five, fun t ht => ?_⟩
    exact q.put st2 ht ⟨[c], .sign, .s [c], none, false⟩ (.inl ⟨rfl, TokL.sign hc⟩) (by rw [zk.1]; rfl)
  case if2 =>
    rintro D σ H ⟨⟨y, rfl⟩, hb, hc, q, qn⟩
    refine ⟨_, rfl, rfl, _, rfl, ite2 (fun _ => ?_) (fun _ => iteF (qn H (Same.refl _)))⟩
    refine ⟨_, rfl, by show 0 ≤ sizeLine; omega, fun g hg => ?_⟩
    have s1 := same_new hg (.lst [])
    have hc1 := hc.keep (s1 ca)
    refine ⟨_, _, hc1.dp, .lst (SqL.of upd_same) .nil, hc1.shaped, by decide, _, rfl, ?_⟩
    rw [dS_nil]
    by_cases e : cl = []
    · rw [decide_eq_true e]
      exact iteF (qn _ s1)
    · rw [decide_eq_false e]
      refine iteT ?_
      obtain ⟨c0, cx, rfl⟩ : ∃ c0 cx, cl = c0 ++ [cx] := ⟨_, _, (List.dropLast_concat_getLast e).symm⟩
      have hx := hc1.ok cx (List.mem_append_right _ List.mem_cons_self)
      have at1 : atI ((c0 ++ [cx]).map fun l => V.str (S l)) (-1) = some (.str (S cx)) := by rw [List.map_append]; exact atI_last _ _
      refine ⟨_, rfl, _, rfl, ca, _, _, _, rfl, rfl, SqL.of hc1.at_, at1, _, rfl, _, rfl, ca, _, _, _, rfl, rfl, SqL.of hc1.at_, at1, _, rfl, five, fun t ht => ?_⟩
      exact q.put (Stp.same hb s1) ht ⟨cx, .sign, .s cx, none, false⟩ (.inl ⟨rfl, TokL.sign (CLS_SG cx hx)⟩) (by rw [zk.1]; rfl)
  refine ⟨_, rfl, b, 10, rfl, hb, by decide, by decide, fun r H1 r0 r1 st => ?_⟩
  have hc1 := hcl.keep fun o e => st.keep ca o (hcl.ne hb) e
  have q1 := q.trans st
  refine ⟨⟨_, rfl⟩, st.b1, hc1, q1, ⟨_, rfl⟩, st.b1, hc1, q1, fun H2 s2 => ?_⟩
  have st2 := Stp.same st.b1 s2
  refine ⟨_, rfl, _, _, rfl, rfl, _, rfl, ite2 (fun d => ?_) (fun _ => iteF ?_)⟩
  · have d : (0 : Int) < bends := of_decide_eq_true d
    refine ⟨_, rfl, _, rfl, b, bends, rfl, st2.b1, d, by omega, fun r H3 r0 r1 st3 => ⟨rfl, _, rfl, ite2 (fun _ => ?_) (fun _ => ?_)⟩⟩
    · exact ⟨_, rfl, _, rfl, b, m, rfl, st3.b1, q1.trans (st2.trans st3)⟩
    · exact ⟨_, rfl, b, rfl, st3.b1, (q1.trans (st2.trans st3)).any⟩
  · exact ⟨_, rfl, b, rfl, st2.b1, (q1.trans st2).any⟩
end
end D0
namespace D0
open PySem PySem.Spec PyProof.Rows L2 SX NumText
abbrev spn (g : Nat) : List Nat := List.replicate g 32
theorem op_mulS {X : Cx} : OpR X (binaryOp .Mult) (fun x y H Q => ∃ z n, x = .str z ∧ y = .int n ∧ MulOk z n ∧ Q (.str (Txt.mul z n)) H) := by
  intro pins s σ H x y v u Q I rx ry h
  obtain ⟨z, n, rfl, rfl, hok, q⟩ := h
  obtain ⟨t, rfl⟩ := rx
  obtain ⟨t2, rfl⟩ := ry
  exact PySem.SB.mul hok fun t' k => ⟨.str (Txt.mul z n), H, I.tok k, ⟨t', rfl⟩, q⟩
theorem mul_ok {z : Str} {n : Int} (hz : z.length = 1) (h0 : -10 ≤ n) (h1 : n ≤ 10000) : MulOk z n := by
  refine ⟨?_, fun a _ => ?_, fun _ _ => ?_⟩
  · rw [Bool.or_eq_false_iff]
    exact ⟨decide_eq_false (by omega), decide_eq_false (by omega)⟩
  · rw [hz]
    have : (1 : Int) ≤ (2 ^ 63 - 1) / n := (Int.le_ediv_iff_mul_le (by omega)).mpr (by omega)
    omega
  · rw [hz]
    show decide (1 * n.toNat > sizeLine) = false
    refine decide_eq_false ?_
    have : sizeLine = 16777216 := sizeLine_eq
    omega
theorem rep_eq {c : Nat} : ∀ (m : Nat) (acc : Array Nat), (List.replicate m #[c]).foldl (· ++ ·) acc = acc ++ (List.replicate m c).toArray
  | 0, acc => by simp
  | m + 1, acc => by
    rw [List.replicate_succ, List.foldl_cons, rep_eq m]
    apply Array.ext'
    simp [List.replicate_succ]
theorem mulC {c n : Nat} : Txt.mul (S [c]) (n : Int) = S (List.replicate n c) := by
  unfold Txt.mul
  split
  · have : n = 0 := by omega
    subst this; rfl
  · split
    · rename_i h
      have : n = 1 := by
        rcases (Bool.or_eq_true _ _).mp h with h | h
        · have := eq_of_beq h; omega
        · exact absurd h (by intro z; cases z)
      subst this; rfl
    · show (⟨(List.replicate (n : Int).toNat #[c]).foldl (· ++ ·) #[]⟩ : Str) = _
      rw [Int.toNat_natCast, rep_eq]
      simp [S]
structure Pc where
  a : Nat
  it : It
def Pc.vs (p : Pc) : List V := .int (p.a : Nat) :: p.it.vs
structure LR where
  txt : List Nat
  ps : List Pc
/-- a row on the heap: the list, the list of its pieces, the pieces -/
structure RE where
  a : Addr
  pl : Addr
  pa : List Addr
  r : LR
def RE.F (e : RE) : List Addr := e.a :: e.pl :: e.pa
structure RowA (H : Hp) (e : RE) : Prop where
  at_ : H e.a = some (.lst [.str (S e.r.txt), .ref e.pl])
  pl : H e.pl = some (.lst (e.pa.map V.ref))
  len : e.pa.length = e.r.ps.length
  ps : ∀ (i : Nat) (p : Pc), e.r.ps[i]? = some p → ∃ x : Addr, e.pa[i]? = some x ∧ H x = some (.lst p.vs)
  nd : e.pa.Nodup
theorem RowA.keep {H H' : Hp} {e : RE} (x : RowA H e) (k : ∀ a ∈ e.F, ∀ o, H a = some o → H' a = some o) : RowA H' e :=
  ⟨k _ List.mem_cons_self _ x.at_, k _ (List.mem_cons_of_mem _ List.mem_cons_self) _ x.pl, x.len, fun i p h => by
    obtain ⟨y, h1, h2⟩ := x.ps i p h
    exact ⟨y, h1, k _ (List.mem_cons_of_mem _ (List.mem_cons_of_mem _ (List.mem_of_getElem? h1))) _ h2⟩, x.nd⟩
theorem RowA.same {H H' : Hp} {e : RE} (x : RowA H e) (s : Same H H') : RowA H' e := x.keep fun a _ o h => s a o h
theorem RowA.live {H : Hp} {e : RE} (x : RowA H e) : ∀ a ∈ e.F, ∃ o, H a = some o := fun a ha => by
  rcases List.mem_cons.mp ha with h | ha
  · rw [h]; exact ⟨_, x.at_⟩
  rcases List.mem_cons.mp ha with h | ha
  · rw [h]; exact ⟨_, x.pl⟩
  obtain ⟨i, hi, e1⟩ := List.mem_iff_getElem.mp ha
  have hl : i < e.r.ps.length := by rw [← x.len]; exact hi
  obtain ⟨y, h1, h2⟩ := x.ps i _ (List.getElem?_eq_getElem hl)
  rw [List.getElem?_eq_getElem hi, e1] at h1
  cases h1
  exact ⟨_, h2⟩
theorem RowA.a_pl {H : Hp} {e : RE} (x : RowA H e) : e.a ≠ e.pl := fun z => by
  have := x.at_
  rw [z, x.pl] at this
  have := HO.lst.inj (Option.some.inj this)
  cases h : e.pa with
  | nil => rw [h] at this; cases this
  | cons p t => rw [h] at this; cases (List.cons.inj this).1
theorem RowA.pa_at {H : Hp} {e : RE} (x : RowA H e) {y : Addr} (hy : y ∈ e.pa) : ∃ p : Pc, H y = some (.lst p.vs) := by
  obtain ⟨i, hi, e1⟩ := List.mem_iff_getElem.mp hy
  have hl : i < e.r.ps.length := by rw [← x.len]; exact hi
  obtain ⟨z, h1, h2⟩ := x.ps i _ (List.getElem?_eq_getElem hl)
  rw [List.getElem?_eq_getElem hi, e1] at h1
  cases h1
  exact ⟨_, h2⟩
theorem RowA.pa_ne {H : Hp} {e : RE} (x : RowA H e) {y : Addr} (hy : y ∈ e.pa) : y ≠ e.a ∧ y ≠ e.pl := by
  obtain ⟨p, hp⟩ := x.pa_at hy
  refine ⟨fun z => ?_, fun z => ?_⟩
  · rw [z, x.at_] at hp
    have := HO.lst.inj (Option.some.inj hp)
    cases (List.cons.inj this).1
  · rw [z, x.pl] at hp
    have := HO.lst.inj (Option.some.inj hp)
    cases h : e.pa with
    | nil => rw [h] at this; cases this
    | cons p t => rw [h] at this; cases (List.cons.inj this).1
theorem RowA.ne_bag {H : Hp} {b : Addr} {e : RE} (x : RowA H e) (hb : Bag H b) : b ∉ e.F := fun h => by
  obtain ⟨c, s, n, hb⟩ := hb
  rcases List.mem_cons.mp h with h | h
  · rw [h, x.at_] at hb
    have := HO.lst.inj (Option.some.inj hb)
    cases this
  rcases List.mem_cons.mp h with h | h
  · rw [h, x.pl] at hb
    have := HO.lst.inj (Option.some.inj hb)
    cases h : e.pa with
    | nil => rw [h] at this; cases this
    | cons p t => rw [h] at this; cases (List.cons.inj this).1
  obtain ⟨p, hp⟩ := x.pa_at h
  rw [hb] at hp
  have := congrArg List.length (HO.lst.inj (Option.some.inj hp))
  cases this
theorem It.ne_strs {it : It} {cl : List (List Nat)} : it.vs ≠ cl.map fun l => V.str (S l) := fun e => by
  have := congrArg (fun l => l[3]?) e
  unfold It.vs at this
  simp only [List.getElem?_map] at this
  cases h : cl[3]? with
  | none => rw [h] at this; cases this
  | some z => rw [h] at this; cases this
theorem ClA.ne_it {H : Hp} {ca ia : Addr} {cl : List (List Nat)} {it : It} (x : ClA H ca cl) (h : H ia = some (.lst it.vs)) : ia ≠ ca := fun z => by
  rw [z, x.at_] at h
  exact It.ne_strs (HO.lst.inj (Option.some.inj h)).symm
theorem ClA.ne_a {H : Hp} {ca : Addr} {cl : List (List Nat)} {e : RE} (x : ClA H ca cl) (r : RowA H e) : e.a ≠ ca ∧ ∀ y ∈ e.pa, y ≠ ca := by
  refine ⟨fun z => ?_, fun y hy z => ?_⟩
  · have h := r.at_
    rw [z, x.at_] at h
    have := congrArg (fun l => l[1]?) (HO.lst.inj (Option.some.inj h))
    simp only [List.getElem?_map] at this
    cases h : cl[1]? with
    | none => rw [h] at this; cases this
    | some z => rw [h] at this; cases this
  · obtain ⟨p, hp⟩ := r.pa_at hy
    rw [z, x.at_] at hp
    have := HO.lst.inj (Option.some.inj hp)
    cases h : cl with
    | nil => rw [h] at this; cases this
    | cons p t => rw [h] at this; cases (List.cons.inj this).1
def RE.add (e : RE) (x : Addr) (g : Nat) (it : It) : RE := ⟨e.a, e.pl, e.pa ++ [x], ⟨e.r.txt ++ spn g ++ it.sp, e.r.ps ++ [⟨e.r.txt.length + g, it⟩]⟩⟩
def spAddItem : Sp := fun vs H Q _ => ∃ (ia ca : Addr) (e : RE) (it : It) (g : Nat) (cl : List (List Nat)), vs = [.ref e.a, .ref ia, .int (g : Nat), .ref ca] ∧ RowA H e ∧ H ia = some (.lst it.vs) ∧ ClA H ca cl ∧ ca ≠ e.pl ∧ g ≤ 1000 ∧ it.sp.length ≤ 50 ∧
  e.r.txt.length ≤ 20000 ∧ e.r.ps.length ≤ 500 ∧ cl.length ≤ 400 ∧ ∀ x H' cl', H x = none → RowA H' (e.add x g it) → ClA H' ca cl' → cl'.length ≤ cl.length + 1 → (it.sp ∉ OPN → cl'.length ≤ cl.length) → (∀ a o, a ≠ e.a → a ≠ e.pl → a ≠ ca → H a = some o → H' a = some o) → Q .non H'
theorem opn_at : ∀ sp ∈ OPN, ∃ (i c : Nat), Builtin.Str.occurrences (S [40, 91, 123]) (S sp) 0 (S [40, 91, 123]).length 1 = [i] ∧ ([41, 93, 125] : List Nat)[i]? = some c ∧ [c] ∈ CLS ∧ cloV [c] = some sp := by
  intro sp h
  rcases List.mem_cons.mp h with h | h
  · subst h; exact ⟨0, 41, by decide +kernel, rfl, by decide, rfl⟩
  rcases List.mem_cons.mp h with h | h
  · subst h; exact ⟨1, 93, by decide +kernel, rfl, by decide, rfl⟩
  rw [List.mem_singleton.mp h]
  exact ⟨2, 125, by decide +kernel, rfl, by decide, rfl⟩
section
variable {P : Program} {w : World} {K : PySem.W.Frag} {mg : Str → Option Value} {base : Heap}
theorem ok__law_add_item (T : Txt K w mg) : OkD P w K mg base CX0 1 "_law_add_item" p__law_add_item spAddItem := by
  refine T.g__law_add_item.ok sc__law_add_item (fun vs H Q E h => ?_) (fun f cdv A outer s H vs Q E hr h => ?_)
  · obtain ⟨ia, ca, e, it, g, cl, rfl, _⟩ := h; rfl
  obtain ⟨ia, ca, e, it, g, cl, rfl, x, hia, hcl, ncp, hg, hsp, htl, hpl, hcll, q⟩ := h
  have lim : (1100000 : Nat) ≤ sizeLine := by decide
  have z : Str.ofString " " = S [32] ∧ Str.ofString "([{" = S [40, 91, 123] ∧ Str.ofString ")]}" = S [41, 93, 125] := by decide +kernel
  have zb : Str.ofString "(" = S [40] ∧ Str.ofString "[" = S [91] ∧ Str.ofString "{" = S [123] := by decide +kernel
  refine ⟨_, (pss_cons (ps_asg (pe_op op_add_str (pe_ix ix_list (pv 0) pe_int (fun _ _ => rfl)) (pe_op op_mulS pe_str (pv 2))) (pg_sub (pv 0) pe_int set_list))
      (pss_cons (ps_expr (pe_bm PySem.F.plainAttrs_list PySem.F.slot_list_append PySem.F.type_list_append mt_append (pe_ix ix_list (pv 0) pe_int (fun _ _ => rfl)) (pa_cons (pe_op op_cat (pe_lst (pa_cons (pe_callB call_len_str (by rfl) T.z_len PySem.boot_len (pa_cons (pe_ix ix_list (pv 0) pe_int (fun _ _ => rfl)) pa_nil)) pa_nil)) (pv 1)) pa_nil)))
      (pss_cons (ps_asg (pe_op op_add_str (pe_ix ix_list (pv 0) pe_int (fun _ _ => rfl)) (pe_ix ix_list (pv 1) pe_int (fun _ _ => rfl))) (pg_sub (pv 0) pe_int set_list))
      (pss_cons (PS.of (t' := fun D σ H => σ = [some (.ref e.a), some (.ref ia), some (.int (g : Nat)), some (.ref ca)] ∧ H ia = some (.lst it.vs) ∧ ClA H ca cl ∧ ∀ H' cl', ClA H' ca cl' → cl'.length ≤ cl.length + 1 → (it.sp ∉ OPN → cl'.length ≤ cl.length) → (∀ a o, a ≠ ca → H a = some o → H' a = some o) → D.nx σ H')
    (ps_if (pt_cmpR (show OpR _ _ (rIn K false) from op_in_seq) (pe_ix ix_list (pv 1) pe_int (fun _ _ => rfl)) (pe_lst (pa_cons pe_str (pa_cons pe_str (pa_cons pe_str pa_nil)))) (by rfl)) (pss_one (ps_expr (pe_bm PySem.F.plainAttrs_list PySem.F.slot_list_append PySem.F.type_list_append mt_append (pv 3) (pa_cons (pe_ix ix_str pe_str (pe_bm PySem.F.plainAttrs_str PySem.F.slot_str_index PySem.F.type_str_index mt_sindex pe_str (pa_cons (pe_ix ix_list (pv 1) pe_int (fun _ _ => rfl)) pa_nil)) (fun _ _ => rfl)) pa_nil)))) pss_nil) ?ifo)
      (pss_one (ps_if (PW.pt (pw_and (pt_cmpR (op_neD hr.units) (pv 3) (pe_lst pa_nil) (nomark _)) (pw_and1 (pt_cmpR op_eq (pe_ix ix_list (pv 1) pe_int (fun _ _ => rfl)) (pe_ix ix_list (pv 3) (pe_un un_neg pe_int) (fun _ _ => rfl)) (nomark _))))) (pss_one (ps_expr (pe_bm0 PySem.F.plainAttrs_list PySem.F.slot_list_pop PySem.F.type_list_pop mt_pop (pv 3)))) pss_nil)))))), ?_⟩
  case ifo =>
    rintro D σ H ⟨rfl, hia, hcl, q⟩
    have ix0 : atI it.vs (0 : Int) = some (.str (S it.sp)) := rfl
    refine ⟨_, rfl, ia, _, 0, _, rfl, rfl, SqL.of hia, ix0, by show 3 ≤ sizeLine; omega, fun g hg => ?_⟩
    have hd : ([.str (Str.ofString "("), .str (Str.ofString "["), .str (Str.ofString "{")] : List V) = OPN.map fun l => V.str (S l) := by rw [zb.1, zb.2.1, zb.2.2]; rfl
    have s1 := same_new hg (.lst [.str (Str.ofString "("), .str (Str.ofString "["), .str (Str.ofString "{")])
    refine ⟨g, OPN.map fun l => V.str (S l), rfl, .inl (SqL.of (by rw [upd_same, ← hd])), rfl, flat_strs OPN, _, rfl, ?_⟩
    have e2 := in_strs it.sp OPN
    have hcl1 := hcl.keep (s1 ca)
    have hia1 := s1 _ _ hia
    by_cases c : it.sp ∈ OPN
    · refine iteT' (by show (if false = true then !inV _ _ else inV _ _) = true; rw [if_neg Bool.false_ne_true, e2, decide_eq_true c]) ?_
      obtain ⟨i, c1, o1, o2, o3, o4⟩ := opn_at it.sp c
      rw [z.2.1, z.2.2]
      refine ⟨_, rfl, .inl ⟨rfl, _, SqL.of hcl1.at_⟩, ?_⟩
      refine ⟨rfl, _, rfl, ia, _, 0, _, rfl, rfl, SqL.of hia1, ix0, S [40, 91, 123], S it.sp, i, [], rfl, rfl, o1, S [41, 93, 125], i, c1, rfl, rfl, by rw [S_len]; show 3 ≤ sizeLine; omega, at_S o2, ?_⟩
      refine ⟨ca, _, _, rfl, rfl, hcl1.at_, by rw [List.length_map]; omega, ?_⟩
      refine q _ (cl ++ [[c1]]) ⟨by rw [upd_same, List.map_append]; rfl, fun y hy => ?_, by rw [List.length_append]; show _ + 1 ≤ 500; omega⟩ (by rw [List.length_append]; exact Nat.le_refl _) (fun n => absurd c n) (fun a o n e => by rw [upd_ne n]; exact s1 a o e)
      rcases List.mem_append.mp hy with h | h
      · exact hcl.ok y h
      · rw [List.mem_singleton.mp h]; exact o3
    · refine iteF' (by show (if false = true then !inV _ _ else inV _ _) = false; rw [if_neg Bool.false_ne_true, e2, decide_eq_false c]) ?_
      exact q _ cl hcl1 (Nat.le_succ _) (fun _ => Nat.le_refl _) (fun a o _ e => s1 a o e)
  have ix0 : atI it.vs (0 : Int) = some (.str (S it.sp)) := rfl
  have hne := x.a_pl
  have nia : ia ≠ ca := hcl.ne_it hia
  have nia2 : ia ≠ e.a := fun y => by
    rw [y, x.at_] at hia
    have := congrArg List.length (HO.lst.inj (Option.some.inj hia))
    cases this
  have nia3 : ia ≠ e.pl := fun y => by
    rw [y, x.pl] at hia
    have := HO.lst.inj (Option.some.inj hia)
    cases h : e.pa with
    | nil => rw [h] at this; cases this
    | cons p t => rw [h] at this; cases (List.cons.inj this).1
  obtain ⟨nca, ncpa⟩ := hcl.ne_a x
  refine ⟨_, rfl, e.a, _, 0, _, rfl, rfl, SqL.of x.at_, rfl, _, rfl, _, _, rfl, rfl, mul_ok (by decide +kernel) (by omega) (by omega), ?_⟩
  rw [z.1, mulC]
  refine ⟨_, _, rfl, rfl, by rw [S_len, S_len, List.length_replicate]; omega, ?_⟩
  rw [S_cat]
  refine ⟨_, rfl, e.a, _, 0, 0, rfl, rfl, x.at_, rfl, ?_⟩
  generalize hH1 : upd H e.a _ = H1
  have k1 : ∀ a o, a ≠ e.a → H a = some o → H1 a = some o := fun a o n e => by rw [← hH1, upd_ne n]; exact e
  have r1 : H1 e.a = some (.lst [.str (S (e.r.txt ++ spn g)), .ref e.pl]) := by rw [← hH1]; exact upd_same
  have p1 := k1 _ _ hne.symm x.pl
  refine ⟨_, rfl, e.a, _, 1, _, rfl, rfl, SqL.of r1, rfl, ?_⟩
  refine ⟨.inl ⟨rfl, _, SqL.of p1⟩, ?_⟩
  refine ⟨_, rfl, e.a, _, 0, _, rfl, rfl, SqL.of r1, rfl, _, rfl, by rw [S_len, List.length_append, List.length_replicate]; omega, by show 1 ≤ sizeLine; omega, fun t ht => ?_⟩
  have s2 := same_new ht (.lst [.int ((S (e.r.txt ++ spn g)).length : Nat)])
  have hia1 := k1 _ _ nia2 hia
  have nt : ia ≠ t := ne_of_none hia1 ht
  refine ⟨_, rfl, t, ia, _, _, rfl, rfl, upd_same, s2 _ _ hia1, by show 1 + 5 ≤ sizeLine; omega, fun u hu => ?_⟩
  generalize hH2 : upd (upd H1 t _) u _ = H2
  have s3 : Same H1 H2 := by rw [← hH2]; exact s2.trans (same_new hu _)
  have u2 : H2 u = some (.lst (Pc.vs ⟨e.r.txt.length + g, it⟩)) := by
    rw [← hH2, upd_same, S_len, List.length_append, List.length_replicate]; rfl
  have hu1 : H1 u = none := s2.free hu
  have hu0 : H u = none := by
    cases h : H u with
    | none => rfl
    | some o =>
      by_cases c : u = e.a
      · rw [c, r1] at hu1; cases hu1
      · rw [k1 _ _ c h] at hu1; cases hu1
  have p2 := s3 _ _ p1
  refine ⟨e.pl, _, _, rfl, rfl, p2, by rw [List.length_map, x.len]; omega, ?_⟩
  generalize hH3 : upd H2 e.pl _ = H3
  have k3 : ∀ a o, a ≠ e.pl → H2 a = some o → H3 a = some o := fun a o n e => by rw [← hH3, upd_ne n]; exact e
  have p3 : H3 e.pl = some (.lst ((e.pa ++ [u]).map V.ref)) := by rw [← hH3, upd_same, List.map_append]; rfl
  have r3 := k3 _ _ hne (s3 _ _ r1)
  have hia3 := k3 _ _ nia3 (s3 _ _ hia1)
  refine ⟨_, rfl, e.a, _, 0, _, rfl, rfl, SqL.of r3, rfl, _, rfl, ia, _, 0, _, rfl, rfl, SqL.of hia3, ix0, _, _, rfl, rfl, by rw [S_len, S_len, List.length_append, List.length_replicate]; omega, ?_⟩
  rw [S_cat]
  refine ⟨_, rfl, e.a, _, 0, 0, rfl, rfl, r3, rfl, ?_⟩
  generalize hH4 : upd H3 e.a _ = H4
  have k4 : ∀ a o, a ≠ e.a → H3 a = some o → H4 a = some o := fun a o n e => by rw [← hH4, upd_ne n]; exact e
  have kk : ∀ a o, a ≠ e.a → a ≠ e.pl → H a = some o → H4 a = some o := fun a o n m e => k4 _ _ n (k3 _ _ m (s3 _ _ (k1 _ _ n e)))
  have nu1 : u ≠ e.a := fun y => by rw [y, r1] at hu1; cases hu1
  have nu2 : u ≠ e.pl := fun y => by rw [y, p1] at hu1; cases hu1
  have x4 : RowA H4 (e.add u g it) := by
    refine ⟨by rw [← hH4]; exact upd_same, k4 _ _ hne.symm p3, ?_, fun i p h => ?_, ?_⟩
    · show (e.pa ++ [u]).length = (e.r.ps ++ [_]).length
      rw [List.length_append, List.length_append, x.len]; rfl
    · have h : (e.r.ps ++ [⟨e.r.txt.length + g, it⟩])[i]? = some p := h
      show ∃ y, (e.pa ++ [u])[i]? = some y ∧ _
      by_cases c : i < e.r.ps.length
      · rw [List.getElem?_append_left c] at h
        obtain ⟨y, h1, h2⟩ := x.ps i p h
        obtain ⟨n1, n2⟩ := x.pa_ne (List.mem_of_getElem? h1)
        exact ⟨y, by rw [List.getElem?_append_left (by rw [x.len]; exact c)]; exact h1, kk _ _ n1 n2 h2⟩
      · have hi := (List.getElem?_eq_some_iff.mp h).1
        rw [List.length_append] at hi
        have hi : i < e.r.ps.length + 1 := hi
        have ei : i = e.r.ps.length := by omega
        rw [ei, List.getElem?_append_right (Nat.le_refl _), Nat.sub_self] at h
        cases h
        exact ⟨u, by rw [ei, ← x.len, List.getElem?_append_right (Nat.le_refl _), Nat.sub_self]; rfl, k4 _ _ nu1 (k3 _ _ nu2 u2)⟩
    · show (e.pa ++ [u]).Nodup
      rw [List.nodup_append]
      refine ⟨x.nd, List.nodup_cons.mpr ⟨List.not_mem_nil, List.nodup_nil⟩, fun y hy v hv => ?_⟩
      rw [List.mem_singleton.mp hv]
      obtain ⟨p, hp⟩ := x.pa_at hy
      exact fun z => by rw [z, hu0] at hp; cases hp
  have hcl4 := hcl.keep fun o h => kk ca o nca.symm ncp h
  refine ⟨rfl, kk _ _ nia2 nia3 hia, hcl4, fun H5 cl5 hcl5 hl5 ho5 kp5 => ?_⟩
  have hia5 := kp5 _ _ nia (kk _ _ nia2 nia3 hia)
  have x5 : RowA H5 (e.add u g it) := x4.keep fun a ha o h => kp5 a o (fun y => by
    rcases List.mem_cons.mp ha with h | ha
    · exact nca (h.symm.trans y)
    rcases List.mem_cons.mp ha with h | ha
    · exact ncp (y.symm.trans h)
    rcases List.mem_append.mp (show a ∈ e.pa ++ [u] from ha) with h | h
    · exact ncpa a h y
    · rw [List.mem_singleton.mp h] at y; rw [y, hcl.at_] at hu0; cases hu0) h
  refine ⟨_, rfl, by show 0 ≤ sizeLine; omega, fun p hp => ?_⟩
  have s6 := same_new hp (.lst [])
  have x6 := x5.same s6
  have hcl6 := hcl5.keep (s6 ca)
  have fin : ∀ H7 cl7, ClA H7 ca cl7 → cl7.length ≤ cl5.length → (∀ a o, a ≠ ca → upd H5 p (.lst []) a = some o → H7 a = some o) → Q .non H7 := fun H7 cl7 c7 l7 kp7 => by
    refine q u H7 cl7 hu0 (x6.keep fun a ha o h => kp7 a o (fun y => ?_) h) c7 (by omega) (fun n => Nat.le_trans l7 (ho5 n)) (fun a o n1 n2 n3 h => kp7 a o n3 (s6 _ _ (kp5 a o n3 (kk a o n1 n2 h))))
    rcases List.mem_cons.mp ha with h | ha
    · exact nca (h.symm.trans y)
    rcases List.mem_cons.mp ha with h | ha
    · exact ncp (y.symm.trans h)
    rcases List.mem_append.mp (show a ∈ e.pa ++ [u] from ha) with h | h
    · exact ncpa a h y
    · rw [List.mem_singleton.mp h] at y; rw [y, hcl.at_] at hu0; cases hu0
  have same7 := fin _ cl5 hcl6 (Nat.le_refl _) (fun a o _ h => h)
  refine ⟨_, _, hcl6.dp, .lst (SqL.of upd_same) .nil, hcl6.shaped, by decide, _, rfl, ?_⟩
  rw [dS_nil]
  by_cases ec : cl5 = []
  · rw [decide_eq_true ec]
    exact iteF (iteF same7)
  · rw [decide_eq_false ec]
    refine iteT ?_
    obtain ⟨c0, cx, rfl⟩ : ∃ c0 cx, cl5 = c0 ++ [cx] := ⟨_, _, (List.dropLast_concat_getLast ec).symm⟩
    have at1 : atI ((c0 ++ [cx]).map fun l => V.str (S l)) (-1) = some (.str (S cx)) := by rw [List.map_append]; exact atI_last _ _
    refine ⟨_, rfl, ia, _, 0, _, rfl, rfl, SqL.of (s6 _ _ hia5), ix0, _, rfl, _, rfl, ca, _, _, _, rfl, rfl, SqL.of hcl6.at_, at1, rfl, _, rfl, ite2 (fun _ => ?_) (fun _ => same7)⟩
    refine ⟨_, rfl, .inl ⟨rfl, _, SqL.of hcl6.at_⟩, ?_⟩
    refine ⟨ca, _, .str (S cx), rfl, rfl, hcl6.at_, by rw [List.length_map, List.length_append, List.getElem?_map, show c0.length + [cx].length - 1 = c0.length from rfl, List.getElem?_append_right (Nat.le_refl _), Nat.sub_self]; rfl, ?_⟩
    refine fin _ c0 ⟨by rw [upd_same, List.map_append]; show some (HO.lst (List.dropLast (_ ++ [V.str (S cx)]))) = _; rw [List.dropLast_concat], fun y hy => hcl5.ok y (List.mem_append_left _ hy), by have := hcl5.len; rw [List.length_append] at this; omega⟩ (by rw [List.length_append]; omega) (fun a o n h => by rw [upd_ne n]; exact h)
end
end D0
namespace D0
open PySem PySem.Spec PyProof.Rows L2 SX NumText
/-- a row as it is laid: pieces with spaces between -/
inductive Lay (m : Bool) : List Nat → List Pc → Prop
  | nil (w : Nat) : Lay m (spn w) []
  | cons {t : List Nat} {ps : List Pc} (g : Nat) (it : It) : Lay m t ps → ItOk m it → (ps ≠ [] → 1 ≤ g) → (∀ p, ps.getLast? = some p → p.it.off = none ∨ p.it.st = false) → Lay m (t ++ spn g ++ it.sp) (ps ++ [⟨t.length + g, it⟩])
theorem TokL.len {k : Kd} {w : Wd} {sp : List Nat} (h : TokL k w sp) : sp.length ≤ 40 := by
  rcases h with ⟨⟨h30, _⟩, _⟩ | ⟨⟨h40, _⟩, _⟩ | ⟨w', ⟨q, us, hq, _, e, hu, hok⟩, _⟩ | ⟨hsg, _⟩
  · omega
  · exact h40
  · have := unitsSp_len us
    rw [e, List.length_cons, List.length_append]; show _ + 1 + 1 ≤ 40; omega
  · have := (SG_long sp hsg).1; omega
theorem ItOk.len {m : Bool} {it : It} (h : ItOk m it) : it.sp.length ≤ 50 := by
  rcases h with ⟨_, h⟩ | ⟨n, _, _, h⟩
  · have := h.len; omega
  · exact h.len
/-- the word's signs are signs -/
def WOk : Wd → Prop
  | .s l => ∀ c ∈ l, c < 1114112
  | .n _ => True
theorem strOk_of {l : List Nat} (h : ∀ c ∈ l, c < 1114112) : PyData.strOk (S l) = true := by
  show l.toArray.all _ = true
  rw [List.all_toArray]
  exact List.all_eq_true.mpr fun c hc => decide_eq_true (h c hc)
theorem rowc_lt {c : Nat} (h : rowc c = true) : c < 1114112 := by
  by_cases k : c < 1114112
  · exact k
  · exfalso
    revert h
    unfold rowc
    simp
    omega
theorem units_fst {q : Nat} : ∀ us : List (Nat × Bool), (∀ u ∈ us, UnitOk q u) → ∀ c ∈ us.map Prod.fst, c < 1114112 := fun us h c hc => by
  obtain ⟨u, hu, rfl⟩ := List.mem_map.mp hc
  have := h u hu
  obtain ⟨c, e⟩ := u
  cases e with
  | false => exact rowc_lt this.1
  | true => rcases (this : c = 10 ∨ c = 92 ∨ c = 34 ∨ c = 39) with z | z | z | z <;> (show c < _; omega)
theorem SG_row : ∀ s ∈ SG, s.all rowc = true := by decide
theorem TokL.row {k : Kd} {w : Wd} {sp : List Nat} (h : TokL k w sp) : sp.all rowc = true := by
  rcases h with ⟨⟨h30, hall, _⟩, _, _⟩ | ⟨⟨h40, hall, _⟩, _, _⟩ | ⟨w', ⟨q, us, hq, _, e, hu, hok⟩, _, _⟩ | ⟨hsg, _, _⟩
  · exact all_imp hall fun c => namc_row
  · exact all_imp hall fun c => dig_row
  · rw [e, List.all_cons, List.all_append, List.all_cons, (quo_ne hq).1, units_row us hok]; rfl
  · exact SG_row sp hsg
theorem ItOk.row {m : Bool} {it : It} (h : ItOk m it) : it.sp.all rowc = true := by
  rcases h with ⟨_, h⟩ | ⟨n, _, _, h⟩
  · exact h.row
  · exact h.row
theorem TokL.wok {k : Kd} {w : Wd} {sp : List Nat} (h : TokL k w sp) : WOk w := by
  have hr : ∀ c ∈ sp, c < 1114112 := fun c hc => rowc_lt (List.all_eq_true.mp h.row c hc)
  rcases h with ⟨_, _, rfl⟩ | ⟨_, _, rfl⟩ | ⟨w', ⟨q, us, hq, e1, e, hu, hok⟩, _, rfl⟩ | ⟨hsg, _, rfl⟩
  · exact hr
  · trivial
  · rw [e1]; exact units_fst us hok
  · exact hr
theorem cp_ok (k : Kd) : ∀ c ∈ k.cp, c < 1114112 := by cases k <;> decide
/-- pieces as data -/
def dW : Wd → PyData
  | .s l => .str (S l)
  | .n k => .int (k : Nat)
def dP (p : Pc) : PyData := .list [.int (p.a : Nat), .str (S p.it.sp), .str (S p.it.k.cp), (match p.it.off with | none => dW p.it.w | some _ => .none), .int (match p.it.off with | none => -1 | some n => (n : Nat)), .bool p.it.st]
theorem dP_dp {K : PySem.W.Frag} {H : Hp} {a : Addr} {p : Pc} (h : H a = some (.lst p.vs)) : Dp K H (.ref a) (dP p) := by
  refine .lst (SqL.of h) ?_
  unfold Pc.vs It.vs
  refine .cons (.int _) (.cons (.str _) (.cons (.str _) (.cons ?_ (.cons (.int _) (.cons (.bl _) .nil)))))
  cases p.it.off with
  | none =>
    show Dp K H p.it.w.v (dW p.it.w)
    cases p.it.w with
    | s l => exact .str _
    | n k => exact .int _
  | some n => exact .non
theorem dP_ok {m : Bool} {p : Pc} (h : ItOk m p.it) : (dP p).canLay0 = true ∧ (dP p).depth ≤ 5 := by
  have h1 := strOk_of (cp_ok p.it.k)
  have h0 := strOk_of fun c hc => rowc_lt (List.all_eq_true.mp h.row c hc)
  have h2 : (match p.it.off with | none => dW p.it.w | some _ => PyData.none).canLay0 = true ∧ (match p.it.off with | none => dW p.it.w | some _ => PyData.none).depth ≤ 2 := by
    rcases h with ⟨ho, h⟩ | ⟨n, ho, _, h⟩
    · rw [ho]
      have hw := h.wok
      cases e : p.it.w with
      | s l => rw [e] at hw; exact ⟨by show PyData.canLay0 (.str _) = true; rw [PyData.canLay0]; exact strOk_of hw, by show PyData.depth (.str _) ≤ 2; unfold PyData.depth; decide⟩
      | n k => exact ⟨by show PyData.canLay0 (.int _) = true; rw [PyData.canLay0], by show PyData.depth (.int _) ≤ 2; unfold PyData.depth; decide⟩
    · rw [ho]; exact ⟨by show PyData.canLay0 .none = true; rw [PyData.canLay0], by show PyData.depth .none ≤ 2; unfold PyData.depth; decide⟩
  unfold dP
  refine ⟨?_, ?_⟩
  · simp only [PyData.canLay0, PyData.canLayAll0, h0, h1, h2.1, Bool.and_true]
  · simp only [PyData.depth, PyData.depthAll]
    have := h2.2
    omega
theorem dPs_ok {m : Bool} : ∀ {ps : List Pc}, (∀ p ∈ ps, ItOk m p.it) → PyData.canLayAll0 (ps.map dP) = true ∧ PyData.depthAll (ps.map dP) ≤ 5
  | [], _ => ⟨rfl, by decide⟩
  | p :: r, h => by
    obtain ⟨a, b⟩ := dPs_ok (ps := r) fun x hx => h x (List.mem_cons_of_mem _ hx)
    obtain ⟨c, d⟩ := dP_ok (h p List.mem_cons_self)
    refine ⟨by rw [List.map_cons, PyData.canLayAll0, a, c]; rfl, ?_⟩
    rw [List.map_cons, PyData.depthAll]
    exact Nat.max_le.mpr ⟨d, b⟩
theorem dPs_shaped {m : Bool} {ps : List Pc} (h : ∀ p ∈ ps, ItOk m p.it) : SeqAt.shaped (.list (ps.map dP)) = true := by
  obtain ⟨a, b⟩ := dPs_ok h
  unfold SeqAt.shaped
  rw [PyData.canLay0, a, PyData.depth]
  exact decide_eq_true (by omega)
theorem dPs_nil (ps : List Pc) : PyData.eqv (.list (ps.map dP)) (.list []) = decide (ps = []) := by
  cases ps with
  | nil => rfl
  | cons d r => rfl
theorem dPs_dp {K : PySem.W.Frag} {H : Hp} : ∀ {as : List Addr} {ps : List Pc}, as.length = ps.length → (∀ (i : Nat) (p : Pc), ps[i]? = some p → ∃ x : Addr, as[i]? = some x ∧ H x = some (.lst p.vs)) → DpAll K H (as.map V.ref) (ps.map dP)
  | [], [], _, _ => .nil
  | [], p :: ps, h, _ => by cases h
  | a :: as, [], h, _ => by cases h
  | a :: as, p :: ps, h, h2 => by
    obtain ⟨x, e1, e2⟩ := h2 0 p rfl
    cases e1
    exact .cons (dP_dp e2) (dPs_dp (Nat.succ.inj h) fun i q hq => h2 (i + 1) q hq)
theorem RowA.dp {K : PySem.W.Frag} {H : Hp} {e : RE} (x : RowA H e) : Dp K H (.ref e.pl) (.list (e.r.ps.map dP)) := .lst (SqL.of x.pl) (dPs_dp x.len x.ps)
theorem Lay.ok {m : Bool} {t : List Nat} {ps : List Pc} (h : Lay m t ps) : ∀ p ∈ ps, ItOk m p.it := by
  induction h with
  | nil w => intro p hp; cases hp
  | cons g it _ h1 _ _ ih =>
    intro p hp
    rcases List.mem_append.mp hp with h | h
    · exact ih p h
    · rw [List.mem_singleton.mp h]; exact h1
/-- a row under way -/
structure RS (m : Bool) (b ca : Addr) (H H' : Hp) (e : RE) (cl : List (List Nat)) : Prop where
  bag : Bag H' b
  row : RowA H' e
  fr : ∀ a ∈ e.F, H a = none
  lay : Lay m e.r.txt e.r.ps
  cl : ClA H' ca cl
  kp : ∀ a o, a ≠ b → a ≠ ca → H a = some o → H' a = some o
  hb : ∃ o, H b = some o
  hc : ∃ o, H ca = some o
theorem RS.ncp {m : Bool} {b ca : Addr} {H H' : Hp} {e : RE} {cl : List (List Nat)} (x : RS m b ca H H' e cl) : ca ∉ e.F ∧ b ∉ e.F := by
  refine ⟨fun h => ?_, fun h => ?_⟩
  · obtain ⟨o, ho⟩ := x.hc
    have := x.fr _ h
    rw [ho] at this; cases this
  · obtain ⟨o, ho⟩ := x.hb
    have := x.fr _ h
    rw [ho] at this; cases this
theorem RS.nn {m : Bool} {b ca : Addr} {H H' : Hp} {e : RE} {cl : List (List Nat)} (x : RS m b ca H H' e cl) {y : Addr} (h : H' y = none) : H y = none := by
  cases hy : H y with
  | none => rfl
  | some o =>
    by_cases c1 : y = b
    · obtain ⟨_, _, _, hb⟩ := x.bag
      rw [c1, hb] at h; cases h
    by_cases c2 : y = ca
    · rw [c2, x.cl.at_] at h; cases h
    rw [x.kp y o c1 c2 hy] at h; cases h
theorem RS.stp {m : Bool} {b ca : Addr} {H H' H2 : Hp} {e : RE} {cl : List (List Nat)} (x : RS m b ca H H' e cl) (st : Stp b H' H2) : RS m b ca H H2 e cl :=
  ⟨st.b1, x.row.keep fun a ha o h => st.keep a o (fun z => x.ncp.2 (z ▸ ha)) h, x.fr, x.lay, x.cl.keep fun o h => st.keep ca o (x.cl.ne x.bag) h, fun a o n1 n2 h => st.keep a o n1 (x.kp a o n1 n2 h), x.hb, x.hc⟩
theorem RS.same {m : Bool} {b ca : Addr} {H H' H2 : Hp} {e : RE} {cl : List (List Nat)} (x : RS m b ca H H' e cl) (s : Same H' H2) : RS m b ca H H2 e cl := x.stp (Stp.same x.bag s)
theorem RS.add {m : Bool} {b ca y : Addr} {H H' H2 : Hp} {e : RE} {cl cl2 : List (List Nat)} {g : Nat} {it : It} (x : RS m b ca H H' e cl) (hy : H' y = none) (ho : ItOk m it) (hr : RowA H2 (e.add y g it)) (hc : ClA H2 ca cl2)
    (kp : ∀ a o, a ≠ e.a → a ≠ e.pl → a ≠ ca → H' a = some o → H2 a = some o) (g1 : e.r.ps ≠ [] → 1 ≤ g) (hl : ∀ p, e.r.ps.getLast? = some p → p.it.off = .none ∨ p.it.st = false) : RS m b ca H H2 (e.add y g it) cl2 := by
  obtain ⟨_, _, _, hb⟩ := x.bag
  have nb : b ≠ e.a ∧ b ≠ e.pl := ⟨fun z => x.ncp.2 (z ▸ List.mem_cons_self), fun z => x.ncp.2 (z ▸ List.mem_cons_of_mem _ List.mem_cons_self)⟩
  refine ⟨⟨_, _, _, kp _ _ nb.1 nb.2 (x.cl.ne x.bag).symm hb⟩, hr, fun a ha => ?_, Lay.cons g it x.lay ho g1 hl, hc, fun a o n1 n2 h => ?_, x.hb, x.hc⟩
  · rcases List.mem_cons.mp ha with h | ha
    · exact x.fr a (by rw [h]; exact List.mem_cons_self)
    rcases List.mem_cons.mp ha with h | ha
    · exact x.fr a (by rw [h]; exact List.mem_cons_of_mem _ List.mem_cons_self)
    rcases List.mem_append.mp (show a ∈ e.pa ++ [y] from ha) with h | h
    · exact x.fr a (List.mem_cons_of_mem _ (List.mem_cons_of_mem _ h))
    · rw [List.mem_singleton.mp h]; exact x.nn hy
  · refine kp a o (fun z => ?_) (fun z => ?_) n2 (x.kp a o n1 n2 h)
    · rw [z, x.fr _ List.mem_cons_self] at h; cases h
    · rw [z, x.fr _ (List.mem_cons_of_mem _ List.mem_cons_self)] at h; cases h
theorem RowA.ne_it {H : Hp} {e : RE} {ia : Addr} {it : It} (x : RowA H e) (hia : H ia = some (.lst it.vs)) : ia ≠ e.a ∧ ia ≠ e.pl := by
  refine ⟨fun y => ?_, fun y => ?_⟩
  · rw [y, x.at_] at hia
    have := congrArg List.length (HO.lst.inj (Option.some.inj hia))
    cases this
  · rw [y, x.pl] at hia
    have := HO.lst.inj (Option.some.inj hia)
    cases h : e.pa with
    | nil => rw [h] at this; cases this
    | cons p t => rw [h] at this; cases (List.cons.inj this).1
/-- the last piece -/
theorem RowA.last {H : Hp} {e : RE} (x : RowA H e) (h : e.r.ps ≠ []) : ∃ (y : Addr) (p : Pc), e.r.ps.getLast? = some p ∧ e.pa.getLast? = some y ∧ H y = some (.lst p.vs) ∧ atI (e.pa.map V.ref) (-1) = some (.ref y) := by
  have hne : e.pa ≠ [] := fun z => h (List.length_eq_zero_iff.mp (by rw [← x.len, z]; rfl))
  have hl : e.r.ps.length - 1 < e.r.ps.length := by
    have := List.length_pos_iff.mpr h
    omega
  obtain ⟨y, h1, h2⟩ := x.ps _ _ (List.getElem?_eq_getElem hl)
  refine ⟨y, _, by rw [List.getLast?_eq_getElem?]; exact List.getElem?_eq_getElem hl, by rw [List.getLast?_eq_getElem?, x.len]; exact h1, h2, ?_⟩
  have e1 : e.pa = e.pa.dropLast ++ [y] := by
    have h3 := List.dropLast_concat_getLast hne
    have h4 : e.pa.getLast hne = y := by
      have : e.pa.getLast? = some y := by rw [List.getLast?_eq_getElem?, x.len]; exact h1
      rw [List.getLast?_eq_some_getLast hne] at this
      exact Option.some.inj this
    rw [h4] at h3; exact h3.symm
  rw [e1, List.map_append]; exact atI_last _ _
theorem Lay.last {t : List Nat} {ps : List Pc} {m : Bool} (h : Lay m t ps) : ∀ p, ps.getLast? = some p → ItOk m p.it := fun p hp => h.ok p (List.mem_of_getLast? hp)
def spRow : Sp := fun vs H Q _ => ∃ (b ca : Addr) (wd : Nat) (bends : Int) (m fin : Bool) (cl : List (List Nat)), vs = [.ref b, .int (wd : Nat), .int bends, .bl m, .ref ca, .bl fin] ∧ Bag H b ∧ ClA H ca cl ∧ cl.length ≤ 150 ∧ wd ≤ 44 ∧ 0 ≤ bends ∧ bends ≤ 1000 ∧
  ∀ e H' cl', RS m b ca H H' e cl' → e.r.ps ≠ [] → e.r.txt.length ≤ 1000 → e.r.ps.length ≤ 300 → cl'.length ≤ cl.length + 7 → Q (.ref e.a) H'
section
variable {P : Program} {w : World} {K : PySem.W.Frag} {mg : Str → Option Value} {base : Heap}
theorem ok__law_row (T : Txt K w mg) (Ot : OkD P w K mg base CX0 1 "_law_take" p__law_take spTake) (Oi : OkD P w K mg base CX0 5 "_law_item" p__law_item spItem) (Oa : OkD P w K mg base CX0 1 "_law_add_item" p__law_add_item spAddItem) :
    OkD P w K mg base CX0 6 "_law_row" p__law_row spRow := by
  refine T.g__law_row.ok sc__law_row (fun vs H Q E h => ?_) (fun f cdv A outer s H vs Q E hr h => ?_)
  · obtain ⟨b, ca, wd, bends, m, fin, cl, rfl, _⟩ := h; rfl
  obtain ⟨b, ca, wd, bends, m, fin, cl, rfl, hb, hcl, hcll, hwd, b0, b1, q⟩ := h
  have lim : (1100000 : Nat) ≤ sizeLine := by decide
  have z : Str.ofString " " = S [32] ∧ Str.ofString "sign" = S Kd.sign.cp := by decide +kernel
  refine split_at 4 (fun t => ∀ (e : RE) (cl' : List (List Nat)) H1 (k : V) (lv : Bool) (y9 y10 y11 y12 : Option V), RS m b ca H H1 e cl' → e.r.ps ≠ [] → e.r.txt.length ≤ 100 → e.r.ps.length ≤ 7 → cl'.length ≤ cl.length + 7 →
    t { nx := fun _ H' => Q .non H', rt := Q } [some (.ref b), some (.int (wd : Nat)), some (.int bends), some (.bl m), some (.ref ca), some (.bl fin), some (.ref e.a), some k, some (.bl lv), y9, y10, y11, y12] H1) ?_ (fun t ht hg => ?_)
  rotate_left
  · refine ⟨_, pss_cons (ps_set (i := 6) sc__law_row.nd rfl (.inl rfl) (pe_lst (pa_cons (pe_op op_mulS pe_str (pv 1)) (pa_cons (pe_lst pa_nil) pa_nil)))) (pss_cons (ps_set (i := 7) sc__law_row.nd rfl (.inl rfl) (pe_op op_add pe_int (pcall Ot hr (pa_cons (pv 0) (pa_cons pe_int pa_nil))))) (pss_cons (ps_set (i := 8) sc__law_row.nd rfl (.inl rfl) (pe_cmpR op_eq (pcall Ot hr (pa_cons (pv 0) (pa_cons pe_int pa_nil))) pe_int (nomark _))) (pss_cons
      (ps_for PassesOwn.never rfl (pi_range1 rfl T.z_range (pa_cons (pv 7) pa_nil)) (pg_name (i := 9) sc__law_row.nd rfl (Or.inl rfl)) (pss_cons (ps_set (i := 10) sc__law_row.nd rfl (.inl rfl) (pcall Oi hr (pa_cons (pv 0) (pa_cons (pv 2) (pa_cons (pv 3) (pa_cons (pv 4) pa_nil))))))
      (pss_cons (ps_set (i := 11) sc__law_row.nd rfl (.inl rfl) (pe_op op_add pe_int (pcall Ot hr (pa_cons (pv 0) (pa_cons pe_int pa_nil)))))
      (pss_cons (ps_if (pt_cmpR op_gt (pe_op op_add (pe_op op_add (pe_callB call_len_str (by rfl) T.z_len PySem.boot_len (pa_cons (pe_ix ix_list (pv 6) pe_int (fun _ _ => rfl)) pa_nil)) (pe_callB call_len_str (by rfl) T.z_len PySem.boot_len (pa_cons (pe_ix ix_list (pv 10) pe_int (fun _ _ => rfl)) pa_nil))) (pv 11)) pe_int (nomark _)) (pss_one ps_break) pss_nil)
      (pss_cons (ps_expr (pcall Oa hr (pa_cons (pv 6) (pa_cons (pv 10) (pa_cons (pe_ifExp (pt_cmpR (op_neD hr.units) (pe_ix ix_list (pv 6) pe_int (fun _ _ => rfl)) (pe_lst pa_nil) (nomark _)) (pv 11) pe_int) (pa_cons (pv 4) pa_nil))))))
      (pss_one (ps_if (pt_val (pe_ix ix_list (pv 10) pe_int (fun _ _ => rfl))) (pss_one ps_break) pss_nil))))))) ht))), ?_⟩
    refine ⟨_, rfl, _, _, rfl, rfl, mul_ok (by decide +kernel) (by omega) (by omega), ?_⟩
    rw [z.1, mulC]
    refine ⟨by show 0 ≤ sizeLine; omega, fun p hp => ⟨by show 2 ≤ sizeLine; omega, fun a ha => ?_⟩⟩
    generalize hH1 : upd (upd H p _) a _ = H1
    have s1 : Same H H1 := by rw [← hH1]; exact (same_new hp _).trans (same_new ha _)
    have a0 : H a = none := (same_new hp _).free ha
    have nap : a ≠ p := fun z => by rw [z, upd_same] at ha; cases ha
    have R0 : RS m b ca H H1 ⟨a, p, [], ⟨spn wd, []⟩⟩ cl := by
      refine ⟨hb.same s1, ⟨by rw [← hH1]; exact upd_same, by rw [← hH1, upd_ne nap.symm]; exact upd_same, rfl, (fun i p h => by cases h), List.nodup_nil⟩, fun x hx => ?_, .nil wd, hcl.keep (s1 ca), fun a o _ _ h => s1 a o h, ?_, ⟨_, hcl.at_⟩⟩
      · rcases List.mem_cons.mp hx with h | hx
        · rw [h]; exact a0
        · rw [List.mem_singleton.mp hx]; exact hp
      · obtain ⟨_, _, _, h⟩ := hb; exact ⟨_, h⟩
    refine ⟨_, rfl, b, 7, rfl, R0.bag, by decide, by decide, fun r H2 r0 r1 st2 => ⟨_, _, rfl, rfl, ?_⟩⟩
    refine ⟨_, rfl, b, 4, rfl, st2.b1, by decide, by decide, fun r' H3 _ _ st3 => ⟨rfl, ?_⟩⟩
    have R3 := (R0.stp st2).stp st3
    refine ⟨_, rfl, 1 + r, rfl, by omega, by omega, ?_⟩
    refine for_range (lo := 0) (n := (1 + r).toNat) (fun i σ H' => ∃ (e : RE) (cl' : List (List Nat)) (y9 y10 y11 : Option V), σ = [some (.ref b), some (.int (wd : Nat)), some (.int bends), some (.bl m), some (.ref ca), some (.bl fin), some (.ref e.a), some (.int (1 + r)), some (.bl (decide (V.int r' = V.int 0))), y9, y10, y11, none] ∧
      RS m b ca H H' e cl' ∧ e.r.ps.length = i ∧ (i = 0 → e.r.txt.length ≤ 44) ∧ e.r.txt.length ≤ 100 ∧ cl'.length ≤ cl.length + i ∧ ∀ p, e.r.ps.getLast? = some p → p.it.st = false) ⟨⟨a, p, [], ⟨spn wd, []⟩⟩, cl, none, none, none, rfl, R3, rfl, fun _ => by show (spn wd).length ≤ 44; rw [List.length_replicate]; exact hwd, by show (spn wd).length ≤ 100; rw [List.length_replicate]; omega, Nat.le_refl _, (fun p h => by cases h)⟩ ?_ ?_
    · rintro i σ H4 hi ⟨e, cl4, y9, y10, y11, rfl, R4, hi4, h44, h100, hcl4, hst4⟩
      refine ⟨_, rfl, _, rfl, _, rfl, _, rfl, b, ca, bends, m, cl4, rfl, R4.bag, R4.cl, b0, b1, fun it H5 ia hok st5 nab hna hia => ?_⟩
      have R5 := R4.stp st5
      refine ⟨_, rfl, b, 2, rfl, R5.bag, by decide, by decide, fun r5 H6 r50 r51 st6 => ⟨_, _, rfl, rfl, ?_⟩⟩
      have R6 := R5.stp st6
      have hia6 := st6.keep _ _ nab hia
      have hlen := hok.len
      have ix0 : atI it.vs (0 : Int) = some (.str (S it.sp)) := rfl
      refine ⟨_, rfl, e.a, _, 0, _, rfl, rfl, SqL.of R6.row.at_, rfl, _, rfl, by rw [S_len]; omega, _, rfl, ia, _, 0, _, rfl, rfl, SqL.of hia6, ix0, _, rfl, by rw [S_len]; omega, _, _, rfl, rfl, _, rfl, _, _, rfl, rfl, _, _, rfl, rfl, _, rfl, ite2 (fun c => ?_) (fun c => ?_)⟩
      · have c : (100 : Int) < ((S e.r.txt).length : Nat) + ((S it.sp).length : Nat) + (1 + r5) := of_decide_eq_true c
        rw [S_len, S_len] at c
        refine hg e cl4 H6 _ _ _ _ _ _ R6 (fun z => ?_) h100 (by omega) (by omega)
        have h0 : i = 0 := by rw [← hi4, z]; rfl
        have := h44 h0
        omega
      have c : e.r.txt.length + it.sp.length + (1 + r5).toNat ≤ 100 := by
        refine Nat.le_of_not_lt fun z => c (decide_eq_true ?_)
        rw [S_len, S_len]; omega
      have go : ∀ (g : Nat) H7 Q' E', Same H6 H7 → g ≤ (1 + r5).toNat → (e.r.ps = [] → g = 0) → (e.r.ps ≠ [] → 1 ≤ g) → (∀ x cl8 H8, RS m b ca H H8 (e.add x g it) cl8 → cl8.length ≤ cl4.length + 1 → H8 ia = some (.lst it.vs) → Q' .non H8) → spAddItem [.ref e.a, .ref ia, .int (g : Nat), .ref ca] H7 Q' E' := fun g H7 Q' E' s7 hgl g0 g1 q' => by
        have R7 := R6.same s7
        have hia7 := s7 _ _ hia6
        refine ⟨ia, ca, e, it, g, cl4, rfl, R7.row, hia7, R7.cl, fun z => R7.ncp.1 (z ▸ List.mem_cons_of_mem _ List.mem_cons_self), by omega, hlen, by omega, by omega, by omega, fun x H8 cl8 hx hrow hcl8 hl8 ho8 kp8 => q' x cl8 H8 (R7.add hx hok hrow hcl8 kp8 g1 (fun p hp => .inr (hst4 p hp))) hl8 ?_⟩
        obtain ⟨n1, n2⟩ := R7.row.ne_it hia7
        exact kp8 _ _ n1 n2 (R7.cl.ne_it hia7) hia7
      have aft : ∀ (g : Nat) x cl8 H8, g ≤ (1 + r5).toNat → RS m b ca H H8 (e.add x g it) cl8 → cl8.length ≤ cl4.length + 1 → (e.add x g it).r.ps ≠ [] ∧ (e.add x g it).r.txt.length ≤ 100 ∧ (e.add x g it).r.ps.length = i + 1 ∧ cl8.length ≤ cl.length + (i + 1) ∧ ∀ p, (e.add x g it).r.ps.getLast? = some p → p.it = it := fun g x cl8 H8 hgl R8 hl8 => by
        refine ⟨?_, ?_, ?_, by omega, fun p hp => ?_⟩
        · show e.r.ps ++ [_] ≠ []
          exact fun z => by have := congrArg List.length z; rw [List.length_append] at this; cases this
        · show (e.r.txt ++ spn g ++ it.sp).length ≤ 100
          rw [List.length_append, List.length_append, List.length_replicate]; omega
        · show (e.r.ps ++ [_]).length = i + 1
          rw [List.length_append, hi4]; rfl
        · have hp : (e.r.ps ++ [(⟨e.r.txt.length + g, it⟩ : Pc)]).getLast? = some p := hp
          rw [List.getLast?_concat] at hp
          rw [← Option.some.inj hp]
      refine ⟨_, rfl, _, rfl, _, rfl, e.a, _, 1, _, rfl, rfl, SqL.of R6.row.at_, rfl, by show 0 ≤ sizeLine; omega, fun g0 hg0 => ?_⟩
      have s7 := same_new hg0 (.lst [])
      refine ⟨_, _, (R6.row.same s7).dp, .lst (SqL.of upd_same) .nil, dPs_shaped R6.lay.ok, by decide, _, rfl, ?_⟩
      rw [dPs_nil]
      by_cases ep : e.r.ps = []
      · rw [decide_eq_true ep]
        refine iteF ⟨_, rfl, ?_⟩
        unfold tNil
        show spAddItem [.ref e.a, .ref ia, .int ((0 : Nat) : Int), .ref ca] _ _ _
        refine go 0 _ _ _ s7 (by omega) (fun _ => rfl) (fun n => absurd ep n) fun x cl8 H8 R8 hl8 hia8 => ?_
        obtain ⟨a1, a2, a3, a4, a5⟩ := aft 0 x cl8 H8 (by omega) R8 hl8
        refine ⟨_, rfl, ia, _, 4, .bl it.st, rfl, rfl, SqL.of hia8, rfl, it.st, rfl, ?_⟩
        cases hst : it.st with
        | true => exact iteT (hg (e.add x 0 it) cl8 H8 _ _ _ _ _ _ R8 a1 a2 (by omega) (by omega))
        | false => exact iteF ⟨e.add x 0 it, cl8, _, _, _, rfl, R8, a3, fun z => absurd z (by omega), a2, a4, fun p hp => by rw [a5 p hp]; exact hst⟩
      · rw [decide_eq_false ep]
        have hg5 : (((1 + r5).toNat : Nat) : Int) = 1 + r5 := by omega
        refine iteT ⟨_, rfl, _, rfl, ?_⟩
        unfold tNil
        show spAddItem [.ref e.a, .ref ia, .int (1 + r5), .ref ca] _ _ _
        rw [← hg5]
        refine go (1 + r5).toNat _ _ _ s7 (Nat.le_refl _) (fun n => absurd n ep) (fun _ => by omega) fun x cl8 H8 R8 hl8 hia8 => ?_
        obtain ⟨a1, a2, a3, a4, a5⟩ := aft _ x cl8 H8 (Nat.le_refl _) R8 hl8
        refine ⟨_, rfl, ia, _, 4, .bl it.st, rfl, rfl, SqL.of hia8, rfl, it.st, rfl, ?_⟩
        cases hst : it.st with
        | true => exact iteT (hg (e.add x (1 + r5).toNat it) cl8 H8 _ _ _ _ _ _ R8 a1 a2 (by omega) (by omega))
        | false => exact iteF ⟨e.add x (1 + r5).toNat it, cl8, _, _, _, rfl, R8, a3, fun z => absurd z (by omega), a2, a4, fun p hp => by rw [a5 p hp]; exact hst⟩
    · rintro σ H4 ⟨e, cl4, y9, y10, y11, rfl, R4, hi4, _, h100, hcl4, hst4⟩
      exact hg e cl4 H4 _ _ _ _ _ _ R4 (fun z => by rw [z] at hi4; have : 0 = (1 + r).toNat := hi4; omega) h100 (by omega) (by omega)
  · refine ⟨_, (pss_cons (PS.of (t' := fun D σ H => ∃ (e : RE) (k : V) (lv : Bool) (y9 y10 y11 y12 : Option V) (y : Addr) (p : Pc), σ = [some (.ref b), some (.int (wd : Nat)), some (.int bends), some (.bl m), some (.ref ca), some (.bl fin), some (.ref e.a), some k, some (.bl lv), y9, y10, y11, y12] ∧ RowA H e ∧ atI (e.pa.map V.ref) (-1) = some (.ref y) ∧ H y = some (.lst p.vs) ∧ D.rt (.ref e.a) H ∧ ((p.it.st = true → m = true) → D.nx σ H))
      (ps_if (PW.pt (pw_or (PW.pt (pw_and (pt_val (pe_ix ix_list (pe_ix ix_list (pe_ix ix_list (pv 6) pe_int (fun _ _ => rfl)) (pe_un un_neg pe_int) (fun _ _ => rfl)) pe_int (fun _ _ => rfl))) (pw_and1 (pt_not (pt_val (pv 3)))))) (pw_or1 (PW.pt (pw_and (pt_val (pv 8)) (pw_and1 (pt_not (PW.pt (pw_and (pt_val (pv 3)) (pw_and1 (pt_val (pv 5)))))))))))) (pss_one (ps_ret (pv 6))) pss_nil) ?ifr)
      (pss_cons (ps_for PassesOwn.never rfl (pi_reversed (by rfl) T.z_reversed (pa_cons (pe_callTy call_list_of (by rfl) T.z_list PyProof.Rows.boot_list (pa_cons (pv 4) pa_nil)) pa_nil)) (pg_name (i := 12) sc__law_row.nd rfl (Or.inl rfl)) (pss_one (ps_expr (pcall Oa hr (pa_cons (pv 6) (pa_cons (pe_lst (pa_cons (pv 12) (pa_cons pe_str (pa_cons (pv 12) (pa_cons (pe_un un_neg pe_int) (pa_cons pe_bl pa_nil)))))) (pa_cons pe_int (pa_cons (pv 4) pa_nil))))))))
      (pss_one (ps_ret (pv 6))))), ?_⟩
    case ifr =>
      rintro D σ H ⟨e, k, lv, y9, y10, y11, y12, y, p, rfl, hrow, hat, hpy, qr, qn⟩
      refine ⟨_, rfl, e.a, _, 1, _, rfl, rfl, SqL.of hrow.at_, rfl, _, rfl, e.pl, _, _, _, rfl, rfl, SqL.of hrow.pl, hat, y, _, 5, .bl p.it.st, rfl, rfl, SqL.of hpy, rfl, p.it.st, rfl, ?_⟩
      generalize p.it.st = sv at qn
      cases sv <;> cases m <;> cases lv <;> cases fin
      all_goals (repeat (first | exact ⟨_, rfl, qr⟩ | exact qn (fun z => z) | exact qn (fun _ => rfl) | exact qn (fun z => by cases z) | refine ⟨_, rfl, _, rfl, ?_⟩ | refine iteT ?_ | refine iteF ?_))
    intro e cl1 H1 k lv y9 y10 y11 y12 R1 hne h100 hps hcl1
    obtain ⟨y, p, hp, hy, hpy, hat⟩ := R1.row.last hne
    refine ⟨e, k, lv, y9, y10, y11, y12, y, p, rfl, R1.row, hat, hpy, q e H1 cl1 R1 hne (by omega) (by omega) hcl1, fun hst => ?_⟩
    have hlast : ∀ p, e.r.ps.getLast? = some p → p.it.off = none ∨ p.it.st = false := fun p' hp' => by
      rw [hp] at hp'
      cases hp'
      rcases R1.lay.last p hp with ⟨ho, _⟩ | ⟨n, ho, hm, _⟩
      · exact .inl ho
      · refine .inr ?_
        cases h : p.it.st with
        | false => rfl
        | true => have := hst h; rw [hm] at this; cases this
    refine ⟨_, rfl, ca, _, rfl, .inl (SqL.of R1.cl.at_), fun D hD => ?_⟩
    have s2 := same_new hD (.lst (cl1.map fun l => V.str (S l)))
    refine ⟨D, _, rfl, SqL.of upd_same, ?_⟩
    refine for_it (walk_rev (xs := cl1.map fun l => V.str (S l))) (fun i σ H' => ∃ (e' : RE) (cl' : List (List Nat)) (y12 : Option V), σ = [some (.ref b), some (.int (wd : Nat)), some (.int bends), some (.bl m), some (.ref ca), some (.bl fin), some (.ref e'.a), some k, some (.bl lv), y9, y10, y11, y12] ∧
      RS m b ca H H' e' cl' ∧ e'.r.ps ≠ [] ∧ e'.r.txt.length ≤ 100 + 2 * i ∧ e'.r.ps.length ≤ 7 + i ∧ cl'.length ≤ cl1.length ∧ H' D = some (.lst (cl1.map fun l => V.str (S l))) ∧ D ≠ e'.a ∧ D ≠ e'.pl ∧ ∀ p, e'.r.ps.getLast? = some p → p.it.off = none ∨ p.it.st = false) ⟨e, cl1, _, rfl, R1.same s2, hne, h100, hps, Nat.le_refl _, upd_same, ?_, ?_, hlast⟩ (fun i σ H' _ h => by obtain ⟨_, _, _, _, _, _, _, _, _, h, _⟩ := h; exact SqL.of h) ?_ ?_
    · exact fun z => by rw [z, R1.row.at_] at hD; cases hD
    · exact fun z => by rw [z, R1.row.pl] at hD; cases hD
    · rintro j x σ H3 H4 hj ⟨e', cl3, y12', rfl, R3, hne3, ht3, hp3, hc3, hD3, nd1, nd2, hl3⟩ ⟨rfl, hx⟩
      rw [List.length_map] at hj
      rw [List.getElem?_map] at hx
      obtain ⟨c, hc, rfl⟩ := Option.map_eq_some_iff.mp hx
      have hcC := R1.cl.ok c (List.mem_of_getElem? hc)
      have hcO : c ∉ OPN := by
        have : ∀ x ∈ CLS, x ∉ OPN := by decide
        exact this c hcC
      refine ⟨_, rfl, _, rfl, _, rfl, _, rfl, by show 5 ≤ sizeLine; omega, fun ia hia => ?_⟩
      have s4 := same_new hia (.lst [.str (S c), .str (Str.ofString "sign"), .str (S c), .int (-1), .bl false])
      have R4 := R3.same s4
      have hit : upd H4 ia (.lst [.str (S c), .str (Str.ofString "sign"), .str (S c), .int (-1), .bl false]) ia = some (.lst (It.vs ⟨c, .sign, .s c, none, false⟩)) := by rw [upd_same, z.2]; rfl
      refine ⟨_, rfl, ia, ca, e', ⟨c, .sign, .s c, none, false⟩, 1, cl3, rfl, R4.row, hit, R4.cl, fun z => R4.ncp.1 (z ▸ List.mem_cons_of_mem _ List.mem_cons_self), by omega, ?_, by omega, by omega, by omega, fun x H8 cl8 hx hrow hcl8 hl8 ho8 kp8 => ?_⟩
      · show c.length ≤ 50
        have := (SG_long c (CLS_SG c hcC)).1
        omega
      have ho : ItOk m ⟨c, .sign, .s c, none, false⟩ := .inl ⟨rfl, TokL.sign (CLS_SG c hcC)⟩
      have hcl1 : c.length ≤ 1 := by
        have : ∀ x ∈ CLS, x.length ≤ 1 := by decide
        exact this c hcC
      have nDc : D ≠ ca := fun z => by rw [z, R1.cl.at_] at hD; cases hD
      refine ⟨e'.add x 1 ⟨c, .sign, .s c, none, false⟩, cl8, _, rfl, R4.add hx ho hrow hcl8 kp8 (fun _ => Nat.le_refl _) hl3, ?_, ?_, ?_, Nat.le_trans (ho8 hcO) hc3, kp8 _ _ nd1 nd2 nDc (s4 _ _ hD3), nd1, nd2, fun p hp => .inl ?_⟩
      · show e'.r.ps ++ [_] ≠ []
        exact fun z => by have := congrArg List.length z; rw [List.length_append] at this; cases this
      · show (e'.r.txt ++ spn 1 ++ c).length ≤ _
        rw [List.length_append, List.length_append, List.length_replicate]; omega
      · show (e'.r.ps ++ [_]).length ≤ _
        rw [List.length_append]; show _ + 1 ≤ _; omega
      · have hp : (e'.r.ps ++ [(⟨e'.r.txt.length + 1, ⟨c, .sign, .s c, none, false⟩⟩ : Pc)]).getLast? = some p := hp
        rw [List.getLast?_concat] at hp
        rw [← Option.some.inj hp]
    · rintro σ H3 ⟨e', cl3, y12', rfl, R3, hne3, ht3, hp3, hc3, hD3, nd1, nd2, hl3⟩
      rw [List.length_map] at ht3 hp3
      exact ⟨_, rfl, q e' H3 cl3 R3 hne3 (by omega) (by omega) (by omega)⟩
end
end D0
namespace D0
open PySem PySem.Spec PyProof.Rows L2 SX NumText
abbrev nats (ws : List Nat) : List V := ws.map fun n => V.int (n : Nat)
structure Wid (m : Bool) (ws : List Nat) (M : Nat) : Prop where
  ne : ws ≠ []
  len : ws.length ≤ M
  le : ∀ n ∈ ws, n ≤ M
  z : m = true → 0 ∈ ws
theorem iteB {α : Prop} {p : Prop} [Decidable p] {t e : Prop} (h1 : p → t) (h2 : ¬ p → e) : if (decide p) = true then t else e := by
  by_cases c : p
  · rw [if_pos (decide_eq_true c)]; exact h1 c
  · rw [if_neg (by rw [decide_eq_false c]; exact Bool.false_ne_true)]; exact h2 c
def spWidth : Sp := fun vs H Q _ => ∃ (b wa : Addr) (bends : Int) (m rise : Bool) (ws : List Nat) (M : Nat), vs = [.ref b, .ref wa, .int bends, .bl m, .bl rise] ∧ Bag H b ∧ H wa = some (.lst (nats ws)) ∧ Wid m ws M ∧ wa ≠ b ∧ 8 ≤ M ∧ M ≤ 1000 ∧
  ∀ (w : Nat) (ws' : List Nat) H', w ≤ M + 3 → Bag H' b → H' wa = some (.lst (nats ws')) → Wid m ws' (M + 3) → (∀ a o, a ≠ b → a ≠ wa → H a = some o → H' a = some o) → Q (.int (w : Nat)) H'
theorem filt_snoc {ws : List Nat} {f : Nat → Bool} {i n : Nat} (h : ws[i]? = some n) : (ws.take (i + 1)).filter f = (ws.take i).filter f ++ (if f n = true then [n] else []) := by
  rw [List.take_add_one, h, List.filter_append]
  congr 1
  show List.filter _ [n] = _
  rw [List.filter_cons, List.filter_nil]
section
variable {P : Program} {w : World} {K : PySem.W.Frag} {mg : Str → Option Value} {base : Heap}
theorem ok__law_width (T : Txt K w mg) (Ot : OkD P w K mg base CX0 1 "_law_take" p__law_take spTake) : OkD P w K mg base CX0 2 "_law_width" p__law_width spWidth := by
  refine T.g__law_width.ok sc__law_width (fun vs H Q E h => ?_) (fun f cdv A outer s H vs Q E hr h => ?_)
  · obtain ⟨b, wa, bends, m, rise, ws, M, rfl, _⟩ := h; rfl
  obtain ⟨b, wa, bends, m, rise, ws, M, rfl, hb, hwa, W, nwb, h8, hM, q⟩ := h
  have lim : (1100000 : Nat) ≤ sizeLine := by decide
  obtain ⟨ys, yl, eys⟩ : ∃ ys y, ws = ys ++ [y] := ⟨_, _, (List.dropLast_concat_getLast W.ne).symm⟩
  have hyl : yl ≤ M := W.le _ (by rw [eys]; exact List.mem_append_right _ List.mem_cons_self)
  have at1 : atI (nats ws) (-1) = some (.int (yl : Nat)) := by rw [eys]; unfold nats; rw [List.map_append]; exact atI_last _ _
  have hlen : (nats ws).length = ws.length := List.length_map _
  have hwl := W.len
  refine ⟨_, (pss_cons (ps_set (i := 5) sc__law_width.nd rfl (.inl rfl) (pcall Ot hr (pa_cons (pv 0) (pa_cons pe_int pa_nil))))
      (pss_cons (ps_set (i := 6) sc__law_width.nd rfl (.inl rfl) (pcall Ot hr (pa_cons (pv 0) (pa_cons pe_int pa_nil))))
      (pss_cons (ps_set (i := 7) sc__law_width.nd rfl (.inl rfl) (pe_op op_add pe_int (pcall Ot hr (pa_cons (pv 0) (pa_cons pe_int pa_nil)))))
      (pss_cons (ps_set (i := 8) sc__law_width.nd rfl (.inr rfl) (pe_ix ix_list (pv 1) (pe_un un_neg pe_int) (fun _ _ => rfl)))
      (pss_cons (PS.of (t' := fun D σ H => ∃ (way : Int) (fr mo w : Nat), σ = [some (.ref b), some (.ref wa), some (.int bends), some (.bl m), some (.bl rise), some (.int way), some (.int (fr : Nat)), some (.int (mo : Nat)), some (.int (w : Nat)), none, none] ∧ H wa = some (.lst (nats ws)) ∧ fr ≤ 8 ∧ mo ≤ 3 ∧ w ≤ M ∧
        ∀ w' : Nat, w' ≤ M + 3 → D.nx [some (.ref b), some (.ref wa), some (.int bends), some (.bl m), some (.bl rise), some (.int way), some (.int (fr : Nat)), some (.int (mo : Nat)), some (.int (w' : Nat)), none, none] H)
      (ps_if (PW.pt (pw_and (pt_cmpR op_gt (pv 5) pe_int (nomark _)) (pw_and1 (pt_cmpR op_gt (pv 2) pe_int (nomark _))))) (pss_one (ps_set (i := 8) sc__law_width.nd rfl (.inr rfl) (pv 6))) (pss_one (PS.of (t' := fun D σ H => ∃ (way : Int) (fr mo w : Nat), σ = [some (.ref b), some (.ref wa), some (.int bends), some (.bl m), some (.bl rise), some (.int way), some (.int (fr : Nat)), some (.int (mo : Nat)), some (.int (w : Nat)), none, none] ∧ H wa = some (.lst (nats ws)) ∧ fr ≤ 8 ∧ mo ≤ 3 ∧ w ≤ M ∧
        ∀ w' : Nat, w' ≤ M + 3 → D.nx [some (.ref b), some (.ref wa), some (.int bends), some (.bl m), some (.bl rise), some (.int way), some (.int (fr : Nat)), some (.int (mo : Nat)), some (.int (w' : Nat)), none, none] H)
(ps_if (PW.pt (pw_and (pt_cmpR op_gt (pv 5) pe_int (nomark _)) (pw_and1 (pt_not (pt_val (pv 4)))))) (pss_one (ps_set (i := 8) sc__law_width.nd rfl (.inr rfl) (pe_ix ix_list (pv 1) (pe_op op_mod (pe_callTy call_int1 (by rfl) T.z_int PyProof.Rows.boot_int (pa_cons (pv 6) pa_nil)) (pe_callB call_len_seq (by rfl) T.z_len PySem.boot_len (pa_cons (pv 1) pa_nil))) (fun _ _ => rfl)))) (pss_one (PS.of (t' := fun D σ H => ∃ (way : Int) (fr mo w : Nat), σ = [some (.ref b), some (.ref wa), some (.int bends), some (.bl m), some (.bl rise), some (.int way), some (.int (fr : Nat)), some (.int (mo : Nat)), some (.int (w : Nat)), none, none] ∧ H wa = some (.lst (nats ws)) ∧ fr ≤ 8 ∧ mo ≤ 3 ∧ w ≤ M ∧
        ∀ w' : Nat, w' ≤ M + 3 → D.nx [some (.ref b), some (.ref wa), some (.int bends), some (.bl m), some (.bl rise), some (.int way), some (.int (fr : Nat)), some (.int (mo : Nat)), some (.int (w' : Nat)), none, none] H)
(ps_if (PW.pt (pw_or (pt_cmpR op_gt (pv 5) pe_int (nomark _)) (pw_or1 (pt_val (pv 4))))) (pss_one (ps_set (i := 8) sc__law_width.nd rfl (.inr rfl) (pe_op op_add (pv 8) (pv 7)))) pss_nil) ?if1c))) ?if1b))) ?if1)
      (pss_cons (PS.of (t' := fun D σ H => ∃ (way : Int) (fr mo w : Nat), σ = [some (.ref b), some (.ref wa), some (.int bends), some (.bl m), some (.bl rise), some (.int way), some (.int (fr : Nat)), some (.int (mo : Nat)), some (.int (w : Nat)), none, none] ∧ H wa = some (.lst (nats ws)) ∧ w ≤ M + 3 ∧
        ∀ (w' : Nat) H', w' ≤ M + 3 → Same H H' → D.nx [some (.ref b), some (.ref wa), some (.int bends), some (.bl m), some (.bl rise), some (.int way), some (.int (fr : Nat)), some (.int (mo : Nat)), some (.int (w' : Nat)), none, none] H')
      (ps_if (PW.pt (pw_and (pt_val (pv 3)) (pw_and1 (pt_cmpR op_lt (pv 8) (pe_ix ix_list (pv 1) (pe_un un_neg pe_int) (fun _ _ => rfl)) (nomark _))))) (pss_one (ps_set (i := 8) sc__law_width.nd rfl (.inr rfl) (pe_callB (cr_max rfl) (by rfl) T.z_max (by decide +kernel) (pa_cons (pe_lc (own := [("one", 10)]) (g := gName 10) (by rfl) sc__law_width.nd (pi_list (pv 1)) (blkOk_by (own := [("one", 10)]) (N := n__law_width) (sc := defScope s__law_width) (by decide +kernel))
          (fun _ _ _ _ _ => (pg_name (i := 10) sc__law_width.nd rfl (Or.inl rfl))) (fun _ _ _ _ _ => pts_one (pt_cmpR op_le (pv 10) (pv 8) (nomark _))) (fun _ _ _ _ _ => pv 10)) pa_nil)))) pss_nil) ?if2)
      (pss_cons (PS.of (t' := fun D σ H => ∃ (way : Int) (fr mo w : Nat), σ = [some (.ref b), some (.ref wa), some (.int bends), some (.bl m), some (.bl rise), some (.int way), some (.int (fr : Nat)), some (.int (mo : Nat)), some (.int (w : Nat)), none, none] ∧ H wa = some (.lst (nats ws)) ∧ w ≤ M + 3 ∧
        ∀ (w' : Nat), w' ≤ M + 3 → D.nx [some (.ref b), some (.ref wa), some (.int bends), some (.bl m), some (.bl rise), some (.int way), some (.int (fr : Nat)), some (.int (mo : Nat)), some (.int (w' : Nat)), none, none] H)
      (ps_if (PW.pt (pw_and (pt_val (pv 3)) (pw_and (pt_cmpR op_gt (pv 8) (pe_ix ix_list (pv 1) (pe_un un_neg pe_int) (fun _ _ => rfl)) (nomark _)) (pw_and1 (pt_cmpR op_gt (pe_callB call_len_seq (by rfl) T.z_len PySem.boot_len (pa_cons (pv 1) pa_nil)) pe_int (nomark _)))))) (pss_one (ps_set (i := 8) sc__law_width.nd rfl (.inr rfl) (pe_ix ix_list (pv 1) (pe_un un_neg pe_int) (fun _ _ => rfl)))) pss_nil) ?if3)
      (pss_cons (ps_set (i := 9) sc__law_width.nd rfl (.inl rfl) (pe_op op_cat (pe_lc (own := [("one", 10)]) (g := gName 10) (by rfl) sc__law_width.nd (pi_list (pv 1)) (blkOk_by (own := [("one", 10)]) (N := n__law_width) (sc := defScope s__law_width) (by decide +kernel))
          (fun _ _ _ _ _ => (pg_name (i := 10) sc__law_width.nd rfl (Or.inl rfl))) (fun _ _ _ _ _ => pts_one (pt_cmpR op_lt (pv 10) (pv 8) (nomark _))) (fun _ _ _ _ _ => pv 10)) (pe_lst (pa_cons (pv 8) pa_nil))))
      (pss_cons (ps_expr (pe_bm0 PySem.F.plainAttrs_list PySem.F.slot_list_clear PySem.F.type_list_clear mt_clear (pv 1)))
      (pss_cons (ps_expr (pe_bm PySem.F.plainAttrs_list PySem.F.slot_list_extend PySem.F.type_list_extend mt_extend (pv 1) (pa_cons (pv 9) pa_nil)))
      (pss_one (ps_ret (pv 8))))))))))))), ?_⟩
  case if1c =>
    rintro D σ H ⟨way, fr, mo, w, rfl, hwa, hfr, hmo, hw, q⟩
    have body : D.nx [some (.ref b), some (.ref wa), some (.int bends), some (.bl m), some (.bl rise), some (.int way), some (.int (fr : Nat)), some (.int (mo : Nat)), some (.int ((w : Nat) + (mo : Nat))), none, none] H := q (w + mo) (by omega)
    refine ⟨_, rfl, _, _, rfl, rfl, _, rfl, iteB (α := True) (fun c1 => ⟨_, rfl, _, rfl, _, _, rfl, rfl, body⟩) (fun c1 => ?_)⟩
    refine ⟨_, rfl, rise, rfl, ?_⟩
    cases rise with
    | true => exact iteT ⟨_, rfl, _, rfl, _, _, rfl, rfl, body⟩
    | false => exact iteF (q w (by omega))
  case if1b =>
    rintro D σ H ⟨way, fr, mo, w, rfl, hwa, hfr, hmo, hw, q⟩
    refine ⟨_, rfl, _, _, rfl, rfl, _, rfl, iteB (α := True) (fun c1 => ?_) (fun c1 => iteF ⟨way, fr, mo, w, rfl, hwa, hfr, hmo, hw, q⟩)⟩
    refine ⟨_, rfl, rise, rfl, ?_⟩
    cases rise with
    | true => exact iteF ⟨way, fr, mo, w, rfl, hwa, hfr, hmo, hw, q⟩
    | false =>
      refine iteT ?_
      have hp := List.length_pos_iff.mpr W.ne
      have hk : fr % ws.length < ws.length := Nat.mod_lt _ hp
      exact ⟨_, rfl, _, rfl, .inl ⟨_, rfl, _, rfl, wa, _, rfl, .inl (SqL.of hwa), _, _, rfl, rfl, by rw [hlen]; show (0 : Int) < _; omega, wa, _, _, .int ((ws[fr % ws.length] : Nat) : Int), rfl, rfl, SqL.of hwa, by rw [hlen]; exact atI_nat (by unfold nats; rw [List.getElem?_map, Int.natAbs_natCast, List.getElem?_eq_getElem hk]; rfl), q _ (by have := W.le _ (List.getElem_mem hk); omega)⟩⟩
  case if1 =>
    rintro D σ H ⟨way, fr, mo, w, rfl, hwa, hfr, hmo, hw, q⟩
    refine ⟨_, rfl, _, _, rfl, rfl, _, rfl, iteB (α := True) (fun c1 => ?_) (fun c1 => iteF ⟨way, fr, mo, w, rfl, hwa, hfr, hmo, hw, q⟩)⟩
    refine ⟨_, rfl, _, _, rfl, rfl, _, rfl, iteB (α := True) (fun c2 => ?_) (fun c2 => ⟨way, fr, mo, w, rfl, hwa, hfr, hmo, hw, q⟩)⟩
    exact ⟨_, rfl, q fr (by omega)⟩
  case if2 =>
    rintro D σ H ⟨way, fr, mo, w, rfl, hwa, hw, q⟩
    refine ⟨_, rfl, m, rfl, ?_⟩
    cases hm : m with
    | false => subst hm; exact iteF (iteF (q w H hw (Same.refl H)))
    | true =>
      subst hm
      refine iteT ⟨_, rfl, _, rfl, _, rfl, wa, _, _, _, rfl, rfl, SqL.of hwa, at1, _, _, rfl, rfl, _, rfl, iteB (α := True) (fun c2 => ?_) (fun c2 => q w H hw (Same.refl H))⟩
      refine ⟨_, rfl, wa, rfl, ⟨_, SqL.of hwa⟩, fun D2 hD => ?_⟩
      refine lc_it (walk_list (xs := nats ws)) (fun i H' => Same H H' ∧ H' D2 = some (.lst (nats ((ws.take i).filter fun n => decide (n ≤ w))))) ⟨same_new hD _, upd_same⟩ (fun i H' _ h => SqL.of (h.1 _ _ hwa)) ?_ ?_
      · rintro i x H3 H4 hi ⟨sm3, hl3⟩ ⟨rfl, hx⟩
        unfold nats at hx
        rw [List.getElem?_map] at hx
        obtain ⟨n, hs, rfl⟩ := Option.map_eq_some_iff.mp hx
        refine ⟨rfl, _, rfl, _, rfl, _, _, rfl, rfl, _, rfl, iteB (α := True) (fun c3 => ?_) (fun c3 => ?_)⟩
        · have c3 : n ≤ w := by have c3 : (n : Int) ≤ (w : Int) := c3; omega
          refine ⟨_, rfl, _, hl3, ?_, same_upd sm3 hD, ?_⟩
          · unfold nats
            rw [List.length_map]
            have h1 := List.length_filter_le (fun n => decide (n ≤ w)) (ws.take i)
            have h2 := (List.take_prefix i ws).length_le
            omega
          · rw [upd_same, filt_snoc hs, if_pos (decide_eq_true c3)]; unfold nats; rw [List.map_append]; rfl
        · have c3 : ¬ n ≤ w := fun z => c3 (by show (n : Int) ≤ (w : Int); omega)
          refine ⟨sm3, ?_⟩
          rw [filt_snoc hs, if_neg (fun z => c3 (of_decide_eq_true z)), List.append_nil]; exact hl3
      · rintro H3 ⟨sm3, hl3⟩
        rw [hlen, List.take_length] at hl3
        have h0 : 0 ∈ ws.filter fun n => decide (n ≤ w) := List.mem_filter.mpr ⟨W.z rfl, decide_eq_true (Nat.zero_le _)⟩
        refine ⟨D2, (ws.filter fun n => decide (n ≤ w)).map fun n => ((n : Nat) : Int), rfl, SqL.of (by rw [hl3, List.map_map]; rfl), by rw [List.length_map]; exact List.length_pos_of_mem h0, fun mx hmx _ => ?_⟩
        obtain ⟨n, hn, rfl⟩ := List.mem_map.mp hmx
        have := of_decide_eq_true (List.mem_filter.mp hn).2
        exact q n H3 (by omega) sm3
  case if3 =>
    rintro D σ H ⟨way, fr, mo, w, rfl, hwa, hw, q⟩
    refine ⟨_, rfl, m, rfl, ?_⟩
    cases hm : m with
    | false => subst hm; exact iteF (iteF (q w hw))
    | true =>
      subst hm
      refine iteT ⟨_, rfl, _, rfl, _, rfl, wa, _, _, _, rfl, rfl, SqL.of hwa, at1, _, _, rfl, rfl, _, rfl, iteB (α := True) (fun c2 => ?_) (fun c2 => iteF (q w hw))⟩
      exact ⟨_, rfl, wa, _, rfl, .inl (SqL.of hwa), _, _, rfl, rfl, _, rfl, iteB (α := True) (fun c3 => ⟨_, rfl, _, rfl, wa, _, _, _, rfl, rfl, SqL.of hwa, at1, q yl (by omega)⟩) (fun c3 => q w hw)⟩
  refine ⟨_, rfl, b, 16, rfl, hb, by decide, by decide, fun r H1 r0 r1 st1 => ?_⟩
  refine ⟨_, rfl, b, 9, rfl, st1.b1, by decide, by decide, fun fr H2 fr0 fr1 st2 => ?_⟩
  refine ⟨_, rfl, b, 3, rfl, st2.b1, by decide, by decide, fun mo H3 mo0 mo1 st3 => ⟨_, _, rfl, rfl, ?_⟩⟩
  have st := st1.trans (st2.trans st3)
  have hw3 := st.keep wa _ nwb hwa
  obtain ⟨fr, rfl⟩ : ∃ k : Nat, fr = (k : Int) := ⟨fr.toNat, by omega⟩
  obtain ⟨mo, rfl⟩ : ∃ k : Nat, mo = (k : Int) := ⟨mo.toNat, by omega⟩
  refine ⟨_, rfl, _, rfl, wa, _, _, _, rfl, rfl, SqL.of hw3, at1, ?_⟩
  refine ⟨r, fr, 1 + mo, yl, by show _ = [_, _, _, _, _, _, _, some (V.int (((1 + mo : Nat) : Nat) : Int)), _, _, _]; rw [show (((1 + mo : Nat) : Nat) : Int) = 1 + (mo : Int) by omega]; rfl, hw3, by omega, by omega, hyl, fun w1 hw1 => ?_⟩
  refine ⟨r, fr, 1 + mo, w1, rfl, hw3, hw1, fun w2 H4 hw2 s4 => ?_⟩
  have hw4 := s4 _ _ hw3
  have st4 := st.trans (Stp.same st.b1 s4)
  refine ⟨r, fr, 1 + mo, w2, rfl, hw4, hw2, fun w3 hw33 => ?_⟩
  refine ⟨_, rfl, wa, rfl, ⟨_, SqL.of hw4⟩, fun D2 hD => ?_⟩
  refine lc_it (walk_list (xs := nats ws)) (fun i H' => Same H4 H' ∧ H' D2 = some (.lst (nats ((ws.take i).filter fun n => decide (n < w3))))) ⟨same_new hD _, upd_same⟩ (fun i H' _ h => SqL.of (h.1 _ _ hw4)) ?_ ?_
  · rintro i x H5 H6 hi ⟨sm3, hl3⟩ ⟨rfl, hx⟩
    unfold nats at hx
    rw [List.getElem?_map] at hx
    obtain ⟨n, hs, rfl⟩ := Option.map_eq_some_iff.mp hx
    refine ⟨rfl, _, rfl, _, rfl, _, _, rfl, rfl, _, rfl, iteB (α := True) (fun c3 => ?_) (fun c3 => ?_)⟩
    · have c3 : n < w3 := by have c3 : (n : Int) < (w3 : Int) := c3; omega
      refine ⟨_, rfl, _, hl3, ?_, same_upd sm3 hD, ?_⟩
      · unfold nats
        rw [List.length_map]
        have h1 := List.length_filter_le (fun n => decide (n < w3)) (ws.take i)
        have h2 := (List.take_prefix i ws).length_le
        omega
      · rw [upd_same, filt_snoc hs, if_pos (decide_eq_true c3)]; unfold nats; rw [List.map_append]; rfl
    · have c3 : ¬ n < w3 := fun z => c3 (by show (n : Int) < (w3 : Int); omega)
      refine ⟨sm3, ?_⟩
      rw [filt_snoc hs, if_neg (fun z => c3 (of_decide_eq_true z)), List.append_nil]; exact hl3
  · rintro H5 ⟨sm3, hl3⟩
    rw [hlen, List.take_length] at hl3
    have hfl : (nats (ws.filter fun n => decide (n < w3))).length ≤ M := by
      unfold nats
      rw [List.length_map]
      exact Nat.le_trans (List.length_filter_le _ _) W.len
    refine ⟨_, rfl, by show 1 ≤ sizeLine; omega, fun g hg => ?_⟩
    have s6 := sm3.trans (same_new hg (.lst [.int (w3 : Nat)]))
    have nDg : D2 ≠ g := ne_of_none hl3 hg
    refine ⟨D2, g, _, _, rfl, rfl, by rw [upd_ne nDg]; exact hl3, upd_same, by show _ + 1 ≤ sizeLine; omega, fun u hu => ?_⟩
    generalize hH7 : upd (upd H5 g _) u _ = H7
    have s7 : Same H4 H7 := by rw [← hH7]; exact s6.trans (same_new hu _)
    have hu7 : H7 u = some (.lst (nats ((ws.filter fun n => decide (n < w3)) ++ [w3]))) := by rw [← hH7, upd_same]; unfold nats; rw [List.map_append]; rfl
    have nwu : wa ≠ u := ne_of_none (s6 _ _ hw4) hu
    have hw7 := s7 _ _ hw4
    refine ⟨_, rfl, .inl ⟨rfl, _, SqL.of hw7⟩, wa, _, rfl, rfl, hw7, ?_⟩
    refine ⟨_, rfl, .inl ⟨rfl, _, SqL.of upd_same⟩, _, rfl, wa, u, [], _, rfl, rfl, upd_same, by rw [upd_ne nwu.symm]; exact hu7, by show 0 + _ ≤ _; unfold nats at hfl ⊢; rw [List.length_map] at hfl ⊢; rw [List.length_append]; show 0 + (_ + 1) ≤ _; omega, ?_⟩
    rw [upd_upd]
    have st7 := st4.trans (Stp.same st4.b1 s7)
    refine ⟨_, rfl, q w3 ((ws.filter fun n => decide (n < w3)) ++ [w3]) _ hw33 ?_ (by rw [upd_same]; rfl) ⟨(fun z => by have := congrArg List.length z; rw [List.length_append] at this; cases this), ?_, fun n hn => ?_, fun e => ?_⟩ (fun a o n1 n2 e => by rw [upd_ne n2]; exact st7.keep a o n1 e)⟩
    · obtain ⟨c1, c2, c3, e⟩ := st7.b1
      exact ⟨c1, c2, c3, by rw [upd_ne nwb.symm]; exact e⟩
    · unfold nats at hfl
      rw [List.length_map] at hfl
      rw [List.length_append]; show _ + 1 ≤ _; omega
    · rcases List.mem_append.mp hn with h | h
      · have := W.le n (List.mem_filter.mp h).1; omega
      · rw [List.mem_singleton.mp h]; exact hw33
    · by_cases c : w3 = 0
      · exact List.mem_append_right _ (by rw [c]; exact List.mem_cons_self)
      · exact List.mem_append_left _ (List.mem_filter.mpr ⟨W.z e, decide_eq_true (Nat.pos_of_ne_zero c)⟩)
end
end D0
namespace D0
open PySem PySem.Spec PyProof.Rows L2 SX NumText
def ROk (m : Bool) (r : LR) : Prop := (r.ps = [] ∧ ∃ g n, r.txt = spn g ++ List.replicate n 35) ∨ (r.ps ≠ [] ∧ Lay m r.txt r.ps)
/-- a page on the heap -/
structure PgA (m : Bool) (H : Hp) (ra : Addr) (D : List Addr) (es : List RE) : Prop where
  at_ : H ra = some (.lst (es.map fun e => V.ref e.a))
  row : ∀ e ∈ es, RowA H e
  dj : es.Pairwise fun x y => ∀ z ∈ x.F, z ∉ y.F
  ok : ∀ e ∈ es, ROk m e.r
  sz : ∀ e ∈ es, e.r.txt.length ≤ 2000 ∧ e.r.ps.length ≤ 300
  nf : ∀ e ∈ es, ra ∉ e.F ∧ ∀ d ∈ D, d ∉ e.F
theorem PgA.keep {m : Bool} {H H' : Hp} {ra : Addr} {D : List Addr} {es : List RE} (x : PgA m H ra D es) (k : ∀ a o, a ∉ D → H a = some o → H' a = some o) (hr : ra ∉ D) : PgA m H' ra D es :=
  ⟨k _ _ hr x.at_, fun e he => (x.row e he).keep fun a ha o h => k a o (fun z => (x.nf e he).2 a z ha) h, x.dj, x.ok, x.sz, x.nf⟩
theorem PgA.less {m : Bool} {H : Hp} {ra : Addr} {D D' : List Addr} {es : List RE} (x : PgA m H ra D es) (k : ∀ d ∈ D', d ∈ D ∨ ∀ e ∈ es, d ∉ e.F) : PgA m H ra D' es :=
  ⟨x.at_, x.row, x.dj, x.ok, x.sz, fun e he => ⟨(x.nf e he).1, fun d hd => (k d hd).elim (fun h => (x.nf e he).2 d h) fun h => h e he⟩⟩
theorem PgA.fresh {m : Bool} {H : Hp} {ra d : Addr} {D : List Addr} {es : List RE} (x : PgA m H ra D es) (h : H d = none) : ∀ e ∈ es, d ∉ e.F := fun e he hd => by
  obtain ⟨o, ho⟩ := (x.row e he).live d hd
  rw [h] at ho; cases ho
theorem PgA.push {m : Bool} {H : Hp} {ra : Addr} {D : List Addr} {es : List RE} {e : RE} (x : PgA m H ra D es) (r : RowA H e) (ok : ROk m e.r) (s1 : e.r.txt.length ≤ 2000) (s2 : e.r.ps.length ≤ 300) (hd : ∀ e' ∈ es, ∀ z ∈ e'.F, z ∉ e.F) (hn : ra ∉ e.F ∧ ∀ d ∈ D, d ∉ e.F) :
    PgA m (upd H ra (.lst ((es.map fun e => V.ref e.a) ++ [.ref e.a]))) ra D (es ++ [e]) := by
  refine ⟨by rw [upd_same, List.map_append]; rfl, fun e' he => ?_, ?_, fun e' he => ?_, fun e' he => ?_, fun e' he => ?_⟩
  · rcases List.mem_append.mp he with h | h
    · exact (x.row e' h).keep fun a ha o ho => by rw [upd_ne (fun z : a = ra => (x.nf e' h).1 (z ▸ ha))]; exact ho
    · rw [List.mem_singleton.mp h]
      exact r.keep fun a ha o ho => by rw [upd_ne (fun z : a = ra => hn.1 (z ▸ ha))]; exact ho
  · rw [List.pairwise_append]
    refine ⟨x.dj, List.pairwise_singleton _ _, fun a ha b hb => ?_⟩
    rw [List.mem_singleton.mp hb]
    exact hd a ha
  · rcases List.mem_append.mp he with h | h
    · exact x.ok e' h
    · rw [List.mem_singleton.mp h]; exact ok
  · rcases List.mem_append.mp he with h | h
    · exact x.sz e' h
    · rw [List.mem_singleton.mp h]; exact ⟨s1, s2⟩
  · rcases List.mem_append.mp he with h | h
    · exact x.nf e' h
    · rw [List.mem_singleton.mp h]; exact hn
def spCrowd : Sp := fun vs H Q _ => ∃ (b ra : Addr) (m : Bool) (es : List RE), vs = [.ref b, .ref ra, .bl m] ∧ Bag H b ∧ PgA m H ra [b] es ∧ ra ≠ b ∧ es.length ≤ 100 ∧
  ∀ es' H', Bag H' b → PgA m H' ra [b] es' → es'.length ≤ es.length + 130 → es' ≠ [] → Q .non H'
/-- the crowd's row under way -/
structure CS (m : Bool) (b ra ca : Addr) (Hb H' : Hp) (e : RE) (cl : List (List Nat)) (es : List RE) (n : Nat) : Prop where
  rs : RS m b ca Hb H' e cl
  pg : PgA m Hb ra [b, ca] es
  nra : ra ≠ b ∧ ra ≠ ca
  txt : e.r.txt.length ≤ 4 + 52 * e.r.ps.length
  ps : e.r.ps.length ≤ 23
  st : ∀ p, e.r.ps.getLast? = some p → p.it.st = false
  cl : cl.length ≤ n + 1
theorem CS.stp {m : Bool} {b ra ca : Addr} {Hb H' H2 : Hp} {e : RE} {cl : List (List Nat)} {es : List RE} {n : Nat} (x : CS m b ra ca Hb H' e cl es n) (st : Stp b H' H2) : CS m b ra ca Hb H2 e cl es n :=
  ⟨x.rs.stp st, x.pg, x.nra, x.txt, x.ps, x.st, x.cl⟩
/-- the row is closed -/
theorem CS.close {m : Bool} {b ra ca : Addr} {Hb H' : Hp} {e : RE} {cl : List (List Nat)} {es : List RE} (x : RS m b ca Hb H' e cl) (pg : PgA m Hb ra [b, ca] es) (nra : ra ≠ b ∧ ra ≠ ca) (ht : e.r.txt.length ≤ 2000) (hp : e.r.ps.length ≤ 300) (hn : e.r.ps ≠ []) :
    H' ra = some (.lst (es.map fun e => V.ref e.a)) ∧ PgA m (upd H' ra (.lst ((es.map fun e => V.ref e.a) ++ [.ref e.a]))) ra [b, ca] (es ++ [e]) := by
  have hr : ra ∉ [b, ca] := fun h => by
    rcases List.mem_cons.mp h with h | h
    · exact nra.1 h
    · exact nra.2 (List.mem_singleton.mp h)
  have p2 : PgA m H' ra [b, ca] es := pg.keep (fun a o h => x.kp a o (fun z => h (by rw [z]; exact List.mem_cons_self)) (fun z => h (by rw [z]; exact List.mem_cons_of_mem _ List.mem_cons_self))) hr
  refine ⟨p2.at_, p2.push x.row (.inr ⟨hn, x.lay⟩) ht hp (fun e' he z hz h => ?_) ⟨fun h => ?_, fun d hd => ?_⟩⟩
  · obtain ⟨o, ho⟩ := (pg.row e' he).live z hz
    rw [x.fr z h] at ho; cases ho
  · have := pg.at_
    rw [x.fr _ h] at this; cases this
  · rcases List.mem_cons.mp hd with h | h
    · rw [h]; exact x.ncp.2
    · rw [List.mem_singleton.mp h]; exact x.ncp.1
section
variable {P : Program} {w : World} {K : PySem.W.Frag} {mg : Str → Option Value} {base : Heap}
theorem ok__law_crowd (T : Txt K w mg) (Ot : OkD P w K mg base CX0 1 "_law_take" p__law_take spTake) (Op : OkD P w K mg base CX0 2 "_law_spelled" p__law_spelled spSpelled) (On : OkD P w K mg base CX0 2 "_law_named" p__law_named spNamed) (Oa : OkD P w K mg base CX0 1 "_law_add_item" p__law_add_item spAddItem) :
    OkD P w K mg base CX0 3 "_law_crowd" p__law_crowd spCrowd := by
  refine T.g__law_crowd.ok sc__law_crowd (fun vs H Q E h => ?_) (fun f cdv A outer s H vs Q E hr h => ?_)
  · obtain ⟨b, ra, m, es, rfl, _⟩ := h; rfl
  obtain ⟨b, ra, m, es, rfl, hb, hpg, nrb, hel, q⟩ := h
  have lim : (1100000 : Nat) ≤ sizeLine := by decide
  have five : 5 ≤ sizeLine := by omega
  have z : Str.ofString " " = S [32] ∧ Str.ofString "sign" = S Kd.sign.cp ∧ Str.ofString "" = S [] ∧ Str.ofString "(" = S [40] ∧ Str.ofString ")" = S [41] ∧ Str.ofString ",:.=+" = S [44, 58, 46, 61, 43] ∧ Str.ofString "$" = S [36] ∧ Str.ofString "]" = S [93] ∧ Str.ofString "01" = S [48, 49] ∧ Str.ofString "\"a" = S [34, 97] ∧ Str.ofString "number" = S Kd.number.cp ∧ Str.ofString "text" = S Kd.text.cp := by decide +kernel
  refine split_at 5 (fun t => ∀ (many : Int) (ca : Addr) (e : RE) (cl : List (List Nat)) Hb H1, 0 ≤ many → many ≤ 122 → CS m b ra ca Hb H1 e cl es 0 →
    t { nx := fun _ H' => Q .non H', rt := Q } [some (.ref b), some (.ref ra), some (.bl m), some (.int many), some (.ref e.a), some (.ref ca), none, none, none, none] H1) ?_ (fun t ht hg => ?_)
  rotate_left
  · refine ⟨_, pss_cons (ps_set (i := 3) sc__law_crowd.nd rfl (.inl rfl) (pe_op op_add pe_int (pcall Ot hr (pa_cons (pv 0) (pa_cons pe_int pa_nil))))) (pss_cons
      (PS.of (t' := fun D σ H => ∃ n : Int, 0 ≤ n ∧ n ≤ 122 ∧ σ = [some (.ref b), some (.ref ra), some (.bl m), some (.int n), none, none, none, none, none, none] ∧ ∀ n : Int, 0 ≤ n → n ≤ 122 → D.nx [some (.ref b), some (.ref ra), some (.bl m), some (.int n), none, none, none, none, none, none] H)
        (ps_if (pt_val (pv 2)) (pss_one (ps_set (i := 3) sc__law_crowd.nd rfl (.inl rfl) (pe_callB (call_min2 rfl) (by rfl) T.z_min (by decide +kernel) (pa_cons (pv 3) (pa_cons pe_int pa_nil))))) pss_nil) ?ifm)
      (pss_cons (ps_set (i := 4) sc__law_crowd.nd rfl (.inl rfl) (pe_lst (pa_cons pe_str (pa_cons (pe_lst pa_nil) pa_nil)))) (pss_cons (ps_set (i := 5) sc__law_crowd.nd rfl (.inl rfl) (pe_lst pa_nil)) (pss_cons (ps_expr (pcall Oa hr (pa_cons (pv 4) (pa_cons (pe_lst (pa_cons pe_str (pa_cons pe_str (pa_cons pe_str (pa_cons (pe_un un_neg pe_int) (pa_cons pe_bl pa_nil)))))) (pa_cons pe_int (pa_cons (pv 5) pa_nil)))))) ht)))), ?_⟩
    case ifm =>
      rintro D σ H ⟨n, n0, n1, rfl, q⟩
      refine ⟨_, rfl, m, rfl, ?_⟩
      cases m with
      | false => exact iteF (q n n0 n1)
      | true =>
        refine iteT ⟨_, rfl, n, 118, rfl, ?_⟩
        by_cases c : (118 : Int) < n
        · rw [if_pos c]; exact q 118 (by omega) (by omega)
        · rw [if_neg c]; exact q n n0 n1
    refine ⟨_, rfl, b, 6, rfl, hb, by decide, by decide, fun r H1 r0 r1 st => ⟨_, _, rfl, rfl, ?_⟩⟩
    refine ⟨117 + r, by omega, by omega, rfl, fun many mn0 mn1 => ?_⟩
    rw [z.2.2.1]
    refine ⟨by show 0 ≤ sizeLine; omega, fun p hp => ⟨by show 2 ≤ sizeLine; omega, fun a ha => ?_⟩⟩
    refine ⟨by show 0 ≤ sizeLine; omega, fun ca hca => ?_⟩
    generalize hH1 : upd H1 p _ = H2 at ha hca
    generalize hH3 : upd H2 a _ = H3 at hca
    have s12 : Same H1 H2 := by rw [← hH1]; exact same_new hp _
    have s23 : Same H2 H3 := by rw [← hH3]; exact same_new ha _
    have a1 : H1 a = none := s12.free ha
    have nap : a ≠ p := fun z => by rw [z, ← hH1, upd_same] at ha; cases ha
    have ncap : ca ≠ p := fun z => by rw [z, ← hH3, upd_ne nap.symm, ← hH1, upd_same] at hca; cases hca
    have ncaa : ca ≠ a := fun z => by rw [z, ← hH3, upd_same] at hca; cases hca
    have hca1 : H1 ca = none := (s12.trans s23).free hca
    generalize hH4 : upd H3 ca _ = H4
    have s14 : Same H1 H4 := by rw [← hH4]; exact (s12.trans s23).trans (same_new hca _)
    -- the heap that the row begins with: H1 and the closers
    generalize hHb : upd H1 ca (.lst []) = Hb
    have sb : Same H1 Hb := by rw [← hHb]; exact same_new hca1 _
    have kb : ∀ x o, Hb x = some o → H4 x = some o := fun x o h => by
      by_cases c : x = ca
      · rw [c, ← hHb, upd_same] at h
        rw [c, ← hH4, upd_same]; exact h
      · rw [← hHb, upd_ne c] at h
        exact s14 x o h
    have pg1 := hpg.keep (H' := H1) (fun x o hx h => st.keep x o (fun z => hx (by rw [z]; exact List.mem_cons_self)) h) (fun h => nrb (List.mem_singleton.mp h))
    have R0 : RS m b ca Hb H4 ⟨a, p, [], ⟨spn 0, []⟩⟩ [] := by
      refine ⟨st.b1.same s14, ⟨?_, ?_, rfl, (fun i p h => by cases h), List.nodup_nil⟩, fun x hx => ?_, .nil 0, ⟨by rw [← hH4, upd_same]; rfl, (fun c h => by cases h), Nat.zero_le _⟩, fun x o _ _ h => kb x o h, ?_, ⟨_, by rw [← hHb]; exact upd_same⟩⟩
      · rw [← hH4, upd_ne ncaa.symm, ← hH3]; exact upd_same
      · rw [← hH4, upd_ne ncap.symm, ← hH3, upd_ne nap.symm, ← hH1]; exact upd_same
      · rcases List.mem_cons.mp hx with h | hx
        · rw [h, ← hHb, upd_ne ncaa.symm]; exact a1
        · rw [List.mem_singleton.mp hx, ← hHb, upd_ne ncap.symm]; exact hp
      · obtain ⟨_, _, _, h⟩ := st.b1
        exact ⟨_, sb _ _ h⟩
    have pgb : PgA m Hb ra [b, ca] es := (pg1.keep (fun x o _ h => sb x o h) (fun h => nrb (List.mem_singleton.mp h))).less fun d hd => by
      rcases List.mem_cons.mp hd with h | h
      · rw [h]; exact .inl List.mem_cons_self
      · rw [List.mem_singleton.mp h]; exact .inr (pg1.fresh hca1)
    have nra : ra ≠ b ∧ ra ≠ ca := ⟨nrb, fun z => by rw [z] at pg1; rw [pg1.at_] at hca1; cases hca1⟩
    refine ⟨_, rfl, _, rfl, five, fun ia hia => ?_⟩
    have s4 := same_new hia (.lst [.str (Str.ofString "("), .str (Str.ofString "sign"), .str (Str.ofString "("), .int (-1), .bl false])
    have R4 := R0.same s4
    have hit : upd H4 ia (.lst [.str (Str.ofString "("), .str (Str.ofString "sign"), .str (Str.ofString "("), .int (-1), .bl false]) ia = some (.lst (It.vs ⟨[40], .sign, .s [40], none, false⟩)) := by rw [upd_same, z.2.1, z.2.2.2.1]; rfl
    refine ⟨_, rfl, ia, ca, ⟨a, p, [], ⟨spn 0, []⟩⟩, ⟨[40], .sign, .s [40], none, false⟩, 0, [], rfl, R4.row, hit, R4.cl, ncap, by decide, by decide, by show 0 ≤ 20000; decide, by show 0 ≤ 500; decide, by decide, fun x H8 cl8 hx hrow hcl8 hl8 ho8 kp8 => ?_⟩
    have R8 := R4.add hx (.inl ⟨rfl, TokL.sign (by decide)⟩) hrow hcl8 kp8 (fun h => absurd rfl h) (fun p hp => by cases hp)
    exact hg many ca _ cl8 Hb H8 mn0 mn1 ⟨R8, pgb, nra, by show 1 ≤ 4 + 52 * 1; decide, by show 1 ≤ 23; decide, (fun p hp => by cases hp; rfl), hl8⟩
  · refine ⟨_, (pss_cons (ps_for PassesOwn.never rfl (pi_range1 rfl T.z_range (pa_cons (pv 3) pa_nil)) (pg_name (i := 6) sc__law_crowd.nd rfl (Or.inl rfl)) (pss_cons (ps_set (i := 7) sc__law_crowd.nd rfl (.inl rfl) (pcall On hr (pa_cons (pcall Op hr (pa_cons (pv 0) (pa_cons pe_int (pa_cons pe_bl pa_nil)))) pa_nil)))
      (pss_cons (PS.of (t' := fun D σ H => ∃ (v3 v4 v5 v6 : V) (ia : Addr) (it : It) (y8 y9 : Option V), σ = [some (.ref b), some (.ref ra), some (.bl m), some v3, some v4, some v5, some v6, some (.ref ia), y8, y9] ∧ Bag H b ∧ H ia = some (.lst it.vs) ∧ ItOk m it ∧ it.sp.length ≤ 50 ∧ ia ≠ b ∧
          ∀ (ia' : Addr) (it' : It) (y8 y9 : Option V) H', Stp b H H' → H' ia' = some (.lst it'.vs) → ItOk m it' → it'.sp.length ≤ 50 → ia' ≠ b → D.nx [some (.ref b), some (.ref ra), some (.bl m), some v3, some v4, some v5, some v6, some (.ref ia'), y8, y9] H')
          (ps_if (pt_cmpR op_eq (pcall Ot hr (pa_cons (pv 0) (pa_cons pe_int pa_nil))) pe_int (nomark _)) (pss_cons (ps_set (i := 8) sc__law_crowd.nd rfl (.inl rfl) (pe_ix ix_str pe_str (pcall Ot hr (pa_cons (pv 0) (pa_cons pe_int pa_nil))) (fun _ _ => rfl)))
      (pss_one (ps_set (i := 7) sc__law_crowd.nd rfl (.inl rfl) (pe_lst (pa_cons (pv 8) (pa_cons pe_str (pa_cons (pv 8) (pa_cons (pe_un un_neg pe_int) (pa_cons pe_bl pa_nil))))))))) pss_nil) ?if1)
      (pss_cons (PS.of (t' := fun D σ H => ∃ (v3 v4 v5 : V) (v6 : Int) (ia : Addr) (it : It) (y8 y9 : Option V), σ = [some (.ref b), some (.ref ra), some (.bl m), some v3, some v4, some v5, some (.int v6), some (.ref ia), y8, y9] ∧ Bag H b ∧ H ia = some (.lst it.vs) ∧ ItOk m it ∧ it.sp.length ≤ 50 ∧ ia ≠ b ∧
          ∀ (ia' : Addr) (it' : It) (y8 y9 : Option V) H', Stp b H H' → H' ia' = some (.lst it'.vs) → ItOk m it' → it'.sp.length ≤ 50 → ia' ≠ b → D.nx [some (.ref b), some (.ref ra), some (.bl m), some v3, some v4, some v5, some (.int v6), some (.ref ia'), y8, y9] H')
          (ps_if (PW.pt (pw_and (pt_cmpR op_gt (pv 6) pe_int (nomark _)) (pw_and (pt_cmpR op_eq (pcall Ot hr (pa_cons (pv 0) (pa_cons pe_int pa_nil))) pe_int (nomark _)) (pw_and1 (pt_not (pt_val (pv 2))))))) (pss_cons (ps_set (i := 9) sc__law_crowd.nd rfl (.inl rfl) (pe_lst (pa_cons (pe_lst (pa_cons pe_str (pa_cons pe_str (pa_cons pe_non (pa_cons pe_int (pa_cons pe_bl pa_nil)))))) (pa_cons (pe_lst (pa_cons pe_str (pa_cons pe_str (pa_cons pe_str (pa_cons (pe_un un_neg pe_int) (pa_cons pe_bl pa_nil)))))) pa_nil))))
      (pss_cons (ps_set (i := 9) sc__law_crowd.nd rfl (.inl rfl) (pe_op op_cat (pv 9) (pe_lst (pa_cons (pe_lst (pa_cons pe_str (pa_cons pe_str (pa_cons pe_non (pa_cons pe_int (pa_cons pe_bl pa_nil)))))) (pa_cons (pe_lst (pa_cons pe_str (pa_cons pe_str (pa_cons pe_non (pa_cons pe_int (pa_cons pe_bl pa_nil)))))) pa_nil)))))
      (pss_one (ps_set (i := 7) sc__law_crowd.nd rfl (.inl rfl) (pe_ix ix_list (pv 9) (pcall Ot hr (pa_cons (pv 0) (pa_cons pe_int pa_nil))) (fun _ _ => rfl)))))) pss_nil) ?if2)
      (pss_cons (ps_expr (pcall Oa hr (pa_cons (pv 4) (pa_cons (pv 7) (pa_cons pe_int (pa_cons (pv 5) pa_nil))))))
      (pss_one (ps_if (PW.pt (pw_or (pt_cmpR op_gt (pe_callB call_len_seq (by rfl) T.z_len PySem.boot_len (pa_cons (pe_ix ix_list (pv 4) pe_int (fun _ _ => rfl)) pa_nil)) pe_int (nomark _)) (pw_or1 (pt_val (pe_ix ix_list (pv 7) pe_int (fun _ _ => rfl)))))) (pss_cons (ps_expr (pe_bm PySem.F.plainAttrs_list PySem.F.slot_list_append PySem.F.type_list_append mt_append (pv 1) (pa_cons (pv 4) pa_nil)))
      (pss_one (ps_set (i := 4) sc__law_crowd.nd rfl (.inl rfl) (pe_lst (pa_cons (pe_op op_mulS pe_str (pcall Ot hr (pa_cons (pv 0) (pa_cons pe_int pa_nil)))) (pa_cons (pe_lst pa_nil) pa_nil)))))) pss_nil)))))))
      (pss_cons (ps_expr (pcall Oa hr (pa_cons (pv 4) (pa_cons (pe_lst (pa_cons pe_str (pa_cons pe_str (pa_cons pe_str (pa_cons (pe_un un_neg pe_int) (pa_cons pe_bl pa_nil)))))) (pa_cons pe_int (pa_cons (pv 5) pa_nil))))))
      (pss_one (ps_expr (pe_bm PySem.F.plainAttrs_list PySem.F.slot_list_append PySem.F.type_list_append mt_append (pv 1) (pa_cons (pv 4) pa_nil)))))), ?_⟩
    case if1 =>
      rintro D σ H ⟨v3, v4, v5, v6, ia, it, y8, y9, rfl, hb, hia, hok, hsp, nib, q⟩
      refine ⟨_, rfl, b, 3, rfl, hb, by decide, by decide, fun r H1 r0 r1 st => ⟨rfl, _, rfl, iteB (α := True) (fun _ => ?_) (fun _ => q ia it _ _ H1 st (st.keep _ _ nib hia) hok hsp nib)⟩⟩
      refine ⟨_, rfl, b, 5, rfl, st.b1, by decide, by decide, fun r H2 r0 r1 st2 => ?_⟩
      obtain ⟨k, rfl⟩ : ∃ k : Nat, r = (k : Int) := ⟨r.toNat, by omega⟩
      have gk : ([44, 58, 46, 61, 43] : List Nat)[k]? = some (([44, 58, 46, 61, 43] : List Nat)[k]'(by simp; omega)) := List.getElem?_eq_getElem (by simp; omega)
      generalize ([44, 58, 46, 61, 43] : List Nat)[k]'_ = c at gk
      have hc : [c] ∈ SG := by
        have : ∀ x ∈ ([44, 58, 46, 61, 43] : List Nat), [x] ∈ SG := by decide
        exact this c (List.mem_of_getElem? gk)
      refine ⟨S [44, 58, 46, 61, 43], _, c, by rw [← z.2.2.2.2.2.1], rfl, by rw [S_len]; show 5 ≤ sizeLine; omega, at_S gk, ?_⟩
      refine ⟨_, rfl, _, rfl, _, rfl, five, fun g hg => ?_⟩
      have st3 := st.trans st2
      exact q g ⟨[c], .sign, .s [c], none, false⟩ _ _ _ (st3.trans (Stp.new st3.b1 hg)) (by rw [upd_same, z.2.1]; rfl) (.inl ⟨rfl, TokL.sign hc⟩) (by show 1 ≤ 50; decide) (st3.b1.ne hg)
    case if2 =>
      rintro D σ H ⟨v3, v4, v5, v6, ia, it, y8, y9, rfl, hb, hia, hok, hsp, nib, q⟩
      refine ⟨_, rfl, _, _, rfl, rfl, _, rfl, iteB (α := True) (fun _ => ?_) (fun _ => iteF (q ia it _ _ H (Stp.refl hb) hia hok hsp nib))⟩
      refine ⟨_, rfl, b, 3, rfl, hb, by decide, by decide, fun r H1 r0 r1 st => ⟨rfl, _, rfl, iteB (α := True) (fun _ => ?_) (fun _ => iteF (q ia it _ _ H1 st (st.keep _ _ nib hia) hok hsp nib))⟩⟩
      refine ⟨_, rfl, m, rfl, ?_⟩
      cases m with
      | true => exact iteF (q ia it _ _ H1 st (st.keep _ _ nib hia) hok hsp nib)
      | false =>
        refine iteT ⟨five, fun g1 hg1 => ⟨_, rfl, five, fun g2 hg2 => ⟨by show 2 ≤ sizeLine; omega, fun g3 hg3 => ?_⟩⟩⟩
        generalize hK1 : upd H1 g1 _ = K1 at hg2 hg3
        have t1 : K1 g1 = some (.lst (It.vs ⟨[36], .sign, .n 0, some 0, false⟩)) := by rw [← hK1, upd_same, z.2.1, z.2.2.2.2.2.2.1]; rfl
        have s1 : Same H1 K1 := by rw [← hK1]; exact same_new hg1 _
        generalize hK2 : upd K1 g2 _ = K2 at hg3
        have t2 : K2 g2 = some (.lst (It.vs ⟨[93], .sign, .s [93], none, false⟩)) := by rw [← hK2, upd_same, z.2.1, z.2.2.2.2.2.2.2.1]; rfl
        have s2 : Same K1 K2 := by rw [← hK2]; exact same_new hg2 _
        generalize hK3 : upd K2 g3 _ = K3
        have t3 : K3 g3 = some (.lst [.ref g1, .ref g2]) := by rw [← hK3, upd_same]
        have s3 : Same K2 K3 := by rw [← hK3]; exact same_new hg3 _
        refine ⟨_, rfl, five, fun g4 hg4 => ⟨five, fun g5 hg5 => ⟨by show 2 ≤ sizeLine; omega, fun g6 hg6 => ?_⟩⟩⟩
        generalize hK4 : upd K3 g4 _ = K4 at hg5 hg6
        have t4 : K4 g4 = some (.lst (It.vs ⟨[48, 49], .number, .n 0, some 0, false⟩)) := by rw [← hK4, upd_same, z.2.2.2.2.2.2.2.2.1, z.2.2.2.2.2.2.2.2.2.2.1]; rfl
        have s4 : Same K3 K4 := by rw [← hK4]; exact same_new hg4 _
        generalize hK5 : upd K4 g5 _ = K5 at hg6
        have t5 : K5 g5 = some (.lst (It.vs ⟨[34, 97], .text, .n 0, some 0, true⟩)) := by rw [← hK5, upd_same, z.2.2.2.2.2.2.2.2.2.1, z.2.2.2.2.2.2.2.2.2.2.2]; rfl
        have s5 : Same K4 K5 := by rw [← hK5]; exact same_new hg5 _
        generalize hK6 : upd K5 g6 _ = K6
        have t6 : K6 g6 = some (.lst [.ref g4, .ref g5]) := by rw [← hK6, upd_same]
        have s6 : Same K5 K6 := by rw [← hK6]; exact same_new hg6 _
        refine ⟨g3, g6, _, _, rfl, rfl, s6 _ _ (s5 _ _ (s4 _ _ t3)), t6, by show 4 ≤ sizeLine; omega, fun g7 hg7 => ?_⟩
        generalize hK7 : upd K6 g7 _ = K7
        have t7 : K7 g7 = some (.lst [.ref g1, .ref g2, .ref g4, .ref g5]) := by rw [← hK7, upd_same]; rfl
        have s7 : Same K6 K7 := by rw [← hK7]; exact same_new hg7 _
        have sA : Same H1 K7 := s1.trans (s2.trans (s3.trans (s4.trans (s5.trans (s6.trans s7)))))
        have st7 := st.trans (Stp.same st.b1 sA)
        have nf : ∀ g o, H1 g = none → K7 g = some o → g ≠ b := fun g o h _ => st.b1.ne h
        refine ⟨_, rfl, _, rfl, b, 4, rfl, st7.b1, by decide, by decide, fun r H8 r0 r1 st8 => ?_⟩
        have n1 : g1 ≠ b := st.b1.ne hg1
        have n2 : g2 ≠ b := st.b1.ne (s1.free hg2)
        have n4 : g4 ≠ b := st.b1.ne ((s1.trans (s2.trans s3)).free hg4)
        have n5 : g5 ≠ b := st.b1.ne ((s1.trans (s2.trans (s3.trans s4))).free hg5)
        have n7 : g7 ≠ b := st.b1.ne ((s1.trans (s2.trans (s3.trans (s4.trans (s5.trans s6))))).free hg7)
        have st9 := st7.trans st8
        obtain ⟨k, rfl⟩ : ∃ k : Nat, r = (k : Int) := ⟨r.toNat, by omega⟩
        have hk : k = 0 ∨ k = 1 ∨ k = 2 ∨ k = 3 := by omega
        rcases hk with e | e | e | e <;> subst e
        · exact ⟨g7, _, _, .ref g1, rfl, rfl, SqL.of (st8.keep _ _ n7 t7), rfl, q g1 _ _ _ H8 st9 (st8.keep _ _ n1 (s7 _ _ (s6 _ _ (s5 _ _ (s4 _ _ (s3 _ _ (s2 _ _ t1))))))) (.inr ⟨0, rfl, rfl, BadL.sign (by decide)⟩) (by decide) n1⟩
        · exact ⟨g7, _, _, .ref g2, rfl, rfl, SqL.of (st8.keep _ _ n7 t7), rfl, q g2 _ _ _ H8 st9 (st8.keep _ _ n2 (s7 _ _ (s6 _ _ (s5 _ _ (s4 _ _ (s3 _ _ t2)))))) (.inl ⟨rfl, TokL.sign (by decide)⟩) (by decide) n2⟩
        · exact ⟨g7, _, _, .ref g4, rfl, rfl, SqL.of (st8.keep _ _ n7 t7), rfl, q g4 _ _ _ H8 st9 (st8.keep _ _ n4 (s7 _ _ (s6 _ _ (s5 _ _ t4)))) (.inr ⟨0, rfl, rfl, BadL.num (l := [48, 49]) (x := []) rfl (fun z => by cases z) (by decide) rfl (.inl ⟨rfl, .inr ⟨by decide, rfl⟩⟩)⟩) (by decide) n4⟩
        · exact ⟨g7, _, _, .ref g5, rfl, rfl, SqL.of (st8.keep _ _ n7 t7), rfl, q g5 _ _ _ H8 st9 (st8.keep _ _ n5 (s7 _ _ (s6 _ _ t5))) (.inr ⟨0, rfl, rfl, BadL.open_ (q := 34) (us := [(97, false)]) (r := []) (.inl rfl) (fun u hu => by rw [List.mem_singleton.mp hu]; exact ⟨by decide, by decide, by decide⟩) (by decide) (.inl rfl)⟩) (by decide) n5⟩
    intro many ca e0 cl0 Hb0 H1 mn0 mn1 C0
    refine ⟨_, rfl, many, rfl, by omega, by omega, ?_⟩
    refine for_range (lo := 0) (n := many.toNat) (fun i σ H' => ∃ (e : RE) (cl : List (List Nat)) (Hb : Hp) (es' : List RE) (y6 y7 y8 y9 : Option V), σ = [some (.ref b), some (.ref ra), some (.bl m), some (.int many), some (.ref e.a), some (.ref ca), y6, y7, y8, y9] ∧ CS m b ra ca Hb H' e cl es' i ∧ es'.length ≤ es.length + i) ⟨e0, cl0, Hb0, es, none, none, none, none, rfl, C0, Nat.le_refl _⟩ ?_ ?_
    · rintro i σ H2 hi ⟨e, cl, Hb, es', y6, y7, y8, y9, rfl, C, hes⟩
      refine ⟨_, rfl, b, 1, true, rfl, C.rs.bag, by decide, fun _ => Nat.le_refl _, fun l H3 hl ha hh st3 => ?_⟩
      refine ⟨b, l, rfl, st3.b1, ⟨by omega, ha, hh rfl⟩, fun it H4 ia hok st4 nib _ hia => ?_⟩
      have hokm : ItOk m it := hok.imp id fun ⟨n, h1, h2, h3⟩ => by cases h2
      refine ⟨_, _, _, _, ia, it, _, _, rfl, st4.b1, hia, hokm, hok.len, nib, fun ia5 it5 y85 y95 H5 st5 hia5 hok5 hsp5 nib5 => ?_⟩
      refine ⟨_, _, _, _, ia5, it5, _, _, rfl, st5.b1, hia5, hok5, hsp5, nib5, fun ia6 it6 y86 y96 H6 st6 hia6 hok6 hsp6 nib6 => ?_⟩
      have C6 := C.stp (st3.trans (st4.trans (st5.trans st6)))
      have c1 := C6.txt
      have c2 := C6.ps
      have c3 := C6.cl
      have hmn : many.toNat ≤ 122 := by omega
      refine ⟨_, rfl, _, rfl, _, rfl, ia6, ca, e, it6, 1, cl, rfl, C6.rs.row, hia6, C6.rs.cl, fun z => C6.rs.ncp.1 (z ▸ List.mem_cons_of_mem _ List.mem_cons_self), by decide, hsp6, by omega, by omega, by omega, fun x H8 cl8 hx hrow hcl8 hl8 ho8 kp8 => ?_⟩
      have R8 := C6.rs.add hx hok6 hrow hcl8 kp8 (fun h => Nat.le_refl _) (fun p hp => .inr (C.st p hp))
      have hia8 : H8 ia6 = some (.lst it6.vs) := by
        obtain ⟨n1, n2⟩ := C6.rs.row.ne_it hia6
        exact kp8 _ _ n1 n2 (C6.rs.cl.ne_it hia6) hia6
      have ht8 : (e.add x 1 it6).r.txt.length ≤ 4 + 52 * (e.add x 1 it6).r.ps.length := by
        show (e.r.txt ++ spn 1 ++ it6.sp).length ≤ 4 + 52 * (e.r.ps ++ [_]).length
        rw [List.length_append, List.length_append, List.length_append, List.length_replicate]; show _ ≤ 4 + 52 * (_ + 1); omega
      have hp8 : (e.add x 1 it6).r.ps.length ≤ 24 := by
        show (e.r.ps ++ [_]).length ≤ 24
        rw [List.length_append]; show _ + 1 ≤ _; omega
      have hl8' : ∀ p, (e.add x 1 it6).r.ps.getLast? = some p → p.it = it6 := fun p hp => by
        have hp : (e.r.ps ++ [(⟨e.r.txt.length + 1, it6⟩ : Pc)]).getLast? = some p := hp
        rw [List.getLast?_concat] at hp
        rw [← Option.some.inj hp]
      have hx1 : (e.add x 1 it6).r.ps ≠ [] := fun z => by have := congrArg List.length (show e.r.ps ++ [_] = [] from z); rw [List.length_append] at this; cases this
      obtain ⟨h1, h2⟩ := CS.close R8 C6.pg C6.nra (by omega) (by omega) hx1
      have ea : (e.add x 1 it6).a = e.a := rfl
      generalize e.add x 1 it6 = e2 at R8 ht8 hp8 hl8' hx1 h2 ea
      rw [← ea]
      refine ⟨_, rfl, e2.a, _, 1, .ref e2.pl, rfl, rfl, SqL.of R8.row.at_, rfl, e2.pl, _, rfl, .inl (SqL.of R8.row.pl), _, _, rfl, rfl, _, rfl, iteB (α := True) (fun c => ?_) (fun c => ?_)⟩
      · refine ⟨_, rfl, .inl ⟨rfl, _, SqL.of h1⟩, _, rfl, ra, _, _, rfl, rfl, h1, by rw [List.length_map]; omega, ?_⟩
        generalize hH9 : upd H8 ra _ = H9 at h2
        have bag9 : Bag H9 b := by
          obtain ⟨d1, d2, d3, d4⟩ := R8.bag
          exact ⟨d1, d2, d3, by rw [← hH9, upd_ne C.nra.1.symm]; exact d4⟩
        have cl9 : ClA H9 ca cl8 := hcl8.keep fun o h => by rw [← hH9, upd_ne C.nra.2.symm]; exact h
        refine ⟨_, rfl, b, 4, rfl, bag9, by decide, by decide, fun r H10 r0 r1 st10 => ⟨_, _, rfl, rfl, mul_ok (by decide +kernel) (by omega) (by omega), ?_⟩⟩
        obtain ⟨k, rfl⟩ : ∃ k : Nat, r = (k : Int) := ⟨r.toNat, by omega⟩
        rw [z.1, mulC]
        refine ⟨by show 0 ≤ sizeLine; omega, fun p hp => ⟨by show 2 ≤ sizeLine; omega, fun a ha => ?_⟩⟩
        generalize hH11 : upd (upd H10 p _) a _ = H11
        have s11 : Same H10 H11 := by rw [← hH11]; exact (same_new hp _).trans (same_new ha _)
        have a0 : H10 a = none := (same_new hp _).free ha
        have nap : a ≠ p := fun z => by rw [z, upd_same] at ha; cases ha
        have cl10 : ClA H10 ca cl8 := cl9.keep fun o h => st10.keep ca o (cl9.ne bag9) h
        have pg10 : PgA m H10 ra [b, ca] (es' ++ [e2]) := h2.keep (fun x o hx h => st10.keep x o (fun z => hx (by rw [z]; exact List.mem_cons_self)) h) (fun h => by
          rcases List.mem_cons.mp h with h | h
          · exact C.nra.1 h
          · exact C.nra.2 (List.mem_singleton.mp h))
        refine ⟨⟨a, p, [], ⟨spn k, []⟩⟩, cl8, H10, es' ++ [e2], _, _, _, _, rfl, ⟨⟨st10.b1.same s11, ⟨by rw [← hH11]; exact upd_same, by rw [← hH11, upd_ne nap.symm]; exact upd_same, rfl, (fun i p h => by cases h), List.nodup_nil⟩, fun x hx => ?_, .nil k, cl10.keep (s11 ca), fun a o _ _ h => s11 a o h, ?_, ⟨_, cl10.at_⟩⟩, pg10, C.nra, ?_, by show 0 ≤ 23; decide, (fun p h => by cases h), by omega⟩, ?_⟩
        · rcases List.mem_cons.mp hx with h | hx
          · rw [h]; exact a0
          · rw [List.mem_singleton.mp hx]; exact hp
        · obtain ⟨_, _, _, h⟩ := st10.b1; exact ⟨_, h⟩
        · show (spn k).length ≤ 4 + 52 * 0
          rw [List.length_replicate]; omega
        · rw [List.length_append]; show _ + 1 ≤ _; omega
      have c : ¬ 23 < e2.r.ps.length := fun z => c (by rw [List.length_map, R8.row.len]; show (23 : Int) < _; omega)
      refine ⟨_, rfl, ia6, _, 4, .bl it6.st, rfl, rfl, SqL.of hia8, rfl, it6.st, rfl, ?_⟩
      cases hst : it6.st with
      | true =>
        refine iteT ?_
        refine ⟨_, rfl, .inl ⟨rfl, _, SqL.of h1⟩, _, rfl, ra, _, _, rfl, rfl, h1, by rw [List.length_map]; omega, ?_⟩
        generalize hH9 : upd H8 ra _ = H9 at h2
        have bag9 : Bag H9 b := by
          obtain ⟨d1, d2, d3, d4⟩ := R8.bag
          exact ⟨d1, d2, d3, by rw [← hH9, upd_ne C.nra.1.symm]; exact d4⟩
        have cl9 : ClA H9 ca cl8 := hcl8.keep fun o h => by rw [← hH9, upd_ne C.nra.2.symm]; exact h
        refine ⟨_, rfl, b, 4, rfl, bag9, by decide, by decide, fun r H10 r0 r1 st10 => ⟨_, _, rfl, rfl, mul_ok (by decide +kernel) (by omega) (by omega), ?_⟩⟩
        obtain ⟨k, rfl⟩ : ∃ k : Nat, r = (k : Int) := ⟨r.toNat, by omega⟩
        rw [z.1, mulC]
        refine ⟨by show 0 ≤ sizeLine; omega, fun p hp => ⟨by show 2 ≤ sizeLine; omega, fun a ha => ?_⟩⟩
        generalize hH11 : upd (upd H10 p _) a _ = H11
        have s11 : Same H10 H11 := by rw [← hH11]; exact (same_new hp _).trans (same_new ha _)
        have a0 : H10 a = none := (same_new hp _).free ha
        have nap : a ≠ p := fun z => by rw [z, upd_same] at ha; cases ha
        have cl10 : ClA H10 ca cl8 := cl9.keep fun o h => st10.keep ca o (cl9.ne bag9) h
        have pg10 : PgA m H10 ra [b, ca] (es' ++ [e2]) := h2.keep (fun x o hx h => st10.keep x o (fun z => hx (by rw [z]; exact List.mem_cons_self)) h) (fun h => by
          rcases List.mem_cons.mp h with h | h
          · exact C.nra.1 h
          · exact C.nra.2 (List.mem_singleton.mp h))
        refine ⟨⟨a, p, [], ⟨spn k, []⟩⟩, cl8, H10, es' ++ [e2], _, _, _, _, rfl, ⟨⟨st10.b1.same s11, ⟨by rw [← hH11]; exact upd_same, by rw [← hH11, upd_ne nap.symm]; exact upd_same, rfl, (fun i p h => by cases h), List.nodup_nil⟩, fun x hx => ?_, .nil k, cl10.keep (s11 ca), fun a o _ _ h => s11 a o h, ?_, ⟨_, cl10.at_⟩⟩, pg10, C.nra, ?_, by show 0 ≤ 23; decide, (fun p h => by cases h), by omega⟩, ?_⟩
        · rcases List.mem_cons.mp hx with h | hx
          · rw [h]; exact a0
          · rw [List.mem_singleton.mp hx]; exact hp
        · obtain ⟨_, _, _, h⟩ := st10.b1; exact ⟨_, h⟩
        · show (spn k).length ≤ 4 + 52 * 0
          rw [List.length_replicate]; omega
        · rw [List.length_append]; show _ + 1 ≤ _; omega
      | false => exact iteF ⟨e2, cl8, Hb, es', _, _, _, _, rfl, ⟨R8, C6.pg, C.nra, ht8, by omega, (fun p hp => by rw [hl8' p hp]; exact hst), by omega⟩, by omega⟩
    · rintro σ H2 ⟨e, cl, Hb, es', y6, y7, y8, y9, rfl, C, hes⟩
      have five' := five
      refine ⟨_, rfl, _, rfl, five, fun ia hia => ?_⟩
      have s4 := same_new hia (.lst [.str (Str.ofString ")"), .str (Str.ofString "sign"), .str (Str.ofString ")"), .int (-1), .bl false])
      have R4 := C.rs.same s4
      have hit : upd H2 ia (.lst [.str (Str.ofString ")"), .str (Str.ofString "sign"), .str (Str.ofString ")"), .int (-1), .bl false]) ia = some (.lst (It.vs ⟨[41], .sign, .s [41], none, false⟩)) := by rw [upd_same, z.2.1, z.2.2.2.2.1]; rfl
      have c1 := C.txt
      have c2 := C.ps
      have c3 := C.cl
      have hmn : many.toNat ≤ 122 := by omega
      refine ⟨_, rfl, ia, ca, e, ⟨[41], .sign, .s [41], none, false⟩, 1, cl, rfl, R4.row, hit, R4.cl, fun z => R4.ncp.1 (z ▸ List.mem_cons_of_mem _ List.mem_cons_self), by decide, by decide, by omega, by omega, by omega, fun x H8 cl8 hx hrow hcl8 hl8 ho8 kp8 => ?_⟩
      have R8 := R4.add hx (.inl ⟨rfl, TokL.sign (by decide)⟩) hrow hcl8 kp8 (fun h => Nat.le_refl _) (fun p hp => .inr (C.st p hp))
      have hx1 : (e.add x 1 ⟨[41], .sign, .s [41], none, false⟩).r.ps ≠ [] := fun z => by have := congrArg List.length (show e.r.ps ++ [_] = [] from z); rw [List.length_append] at this; cases this
      obtain ⟨h1, h2⟩ := CS.close R8 C.pg C.nra (by show (e.r.txt ++ spn 1 ++ [41]).length ≤ 2000; rw [List.length_append, List.length_append]; show _ + 1 + 1 ≤ _; omega) (by show (e.r.ps ++ [_]).length ≤ 300; rw [List.length_append]; show _ + 1 ≤ 300; omega) hx1
      refine ⟨_, rfl, .inl ⟨rfl, _, SqL.of h1⟩, _, rfl, ra, _, _, rfl, rfl, h1, by rw [List.length_map]; omega, ?_⟩
      refine q _ _ ?_ (h2.less fun d hd => .inl (by rw [List.mem_singleton.mp hd]; exact List.mem_cons_self)) (by rw [List.length_append]; show _ + 1 ≤ _; omega) (fun z => by have := congrArg List.length z; rw [List.length_append] at this; cases this)
      obtain ⟨d1, d2, d3, d4⟩ := R8.bag
      exact ⟨d1, d2, d3, by rw [upd_ne C.nra.1.symm]; exact d4⟩
end
end D0
namespace D0
open PySem PySem.Spec PyProof.Rows L2 SX NumText
theorem PgA.set {m : Bool} {H H' : Hp} {ra : Addr} {D : List Addr} {es : List RE} {e e' : RE} {j : Nat} (x : PgA m H ra D es) (hj : es[j]? = some e) (ea : e'.a = e.a) (ef : e'.F = e.F) (r : RowA H' e') (ok : ROk m e'.r) (s1 : e'.r.txt.length ≤ 2000) (s2 : e'.r.ps.length ≤ 300)
    (kp : ∀ a o, a ∉ e.F → H a = some o → H' a = some o) : PgA m H' ra D (es.set j e') := by
  have hjl := (List.getElem?_eq_some_iff.mp hj).1
  have hm := List.mem_of_getElem? hj
  have at_ : ∀ (i : Nat) (y : RE), (es.set j e')[i]? = some y → (i = j ∧ y = e') ∨ (i ≠ j ∧ es[i]? = some y) := fun i y h => by
    by_cases c : j = i
    · rw [← c, List.getElem?_set_self hjl] at h
      exact .inl ⟨c.symm, (Option.some.inj h).symm⟩
    · rw [List.getElem?_set_ne c] at h
      exact .inr ⟨fun z => c z.symm, h⟩
  have other : ∀ (i : Nat) (y : RE), i ≠ j → es[i]? = some y → ∀ z ∈ y.F, z ∉ e.F := fun i y n h z hz => by
    obtain ⟨hi, e1⟩ := List.getElem?_eq_some_iff.mp h
    obtain ⟨_, e2⟩ := List.getElem?_eq_some_iff.mp hj
    have pw := List.pairwise_iff_getElem.mp x.dj
    rcases Nat.lt_or_ge i j with c | c
    · have := pw i j hi hjl c
      rw [e1, e2] at this
      exact this z hz
    · have := pw j i hjl hi (by omega)
      rw [e1, e2] at this
      exact fun h2 => this z h2 hz
  have all : ∀ y ∈ es.set j e', y = e' ∨ ∃ i, i ≠ j ∧ es[i]? = some y := fun y hy => by
    obtain ⟨i, hi⟩ := List.mem_iff_getElem?.mp hy
    rcases at_ i y hi with ⟨_, h⟩ | ⟨h1, h2⟩
    · exact .inl h
    · exact .inr ⟨i, h1, h2⟩
  refine ⟨?_, fun y hy => ?_, ?_, fun y hy => ?_, fun y hy => ?_, fun y hy => ?_⟩
  · have : (es.set j e').map (fun e => V.ref e.a) = es.map fun e => V.ref e.a := by
      rw [List.map_set, ea]
      refine List.ext_getElem? fun i => ?_
      by_cases c : j = i
      · subst c
        rw [List.getElem?_set_self (by rw [List.length_map]; exact hjl), List.getElem?_map, hj]; rfl
      · rw [List.getElem?_set_ne c]
    rw [this]
    exact kp _ _ (x.nf e hm).1 x.at_
  · rcases all y hy with h | ⟨i, h1, h2⟩
    · rw [h]; exact r
    · exact (x.row y (List.mem_of_getElem? h2)).keep fun a ha o ho => kp a o (other i y h1 h2 a ha) ho
  · rw [List.pairwise_iff_getElem]
    intro i k hi hk hik z hz
    have g1 := at_ i _ (List.getElem?_eq_getElem hi)
    have g2 := at_ k _ (List.getElem?_eq_getElem hk)
    rcases g1 with ⟨c1, h1⟩ | ⟨c1, h1⟩
    · rcases g2 with ⟨c2, h2⟩ | ⟨c2, h2⟩
      · omega
      · rw [h1, ef] at hz
        exact fun h3 => other k _ c2 h2 z h3 hz
    · rcases g2 with ⟨c2, h2⟩ | ⟨c2, h2⟩
      · rw [h2, ef]; exact other i _ c1 h1 z hz
      · obtain ⟨hi', e1⟩ := List.getElem?_eq_some_iff.mp h1
        obtain ⟨hk', e2⟩ := List.getElem?_eq_some_iff.mp h2
        have := List.pairwise_iff_getElem.mp x.dj i k hi' hk' hik
        rw [e1, e2] at this
        exact this z hz
  · rcases all y hy with h | ⟨i, h1, h2⟩
    · rw [h]; exact ok
    · exact x.ok y (List.mem_of_getElem? h2)
  · rcases all y hy with h | ⟨i, h1, h2⟩
    · rw [h]; exact ⟨s1, s2⟩
    · exact x.sz y (List.mem_of_getElem? h2)
  · rcases all y hy with h | ⟨i, h1, h2⟩
    · rw [h, ef]; exact x.nf e hm
    · exact x.nf y (List.mem_of_getElem? h2)
theorem Lay.inv {m : Bool} {t : List Nat} {ps : List Pc} (h : Lay m t ps) (hn : ps ≠ []) : ∃ t0 ps0 g it, t = t0 ++ spn g ++ it.sp ∧ ps = ps0 ++ [⟨t0.length + g, it⟩] ∧ Lay m t0 ps0 ∧ ItOk m it ∧ (ps0 ≠ [] → 1 ≤ g) ∧ (∀ p, ps0.getLast? = some p → p.it.off = none ∨ p.it.st = false) := by
  cases h with
  | nil w => exact absurd rfl hn
  | cons g it h1 h2 h3 h4 => exact ⟨_, _, g, it, rfl, rfl, h1, h2, h3, h4⟩
def spStretched : Sp := fun vs H Q _ => ∃ (b ra : Addr) (m : Bool) (es : List RE), vs = [.ref b, .ref ra, .bl m] ∧ Bag H b ∧ PgA m H ra [b] es ∧ ra ≠ b ∧ es.length ≤ 1000 ∧ es ≠ [] ∧
  ∀ es' H', Bag H' b → PgA m H' ra [b] es' → es'.length ≤ es.length → es' ≠ [] → Q .non H'
section
variable {P : Program} {w : World} {K : PySem.W.Frag} {mg : Str → Option Value} {base : Heap}
theorem ok__law_stretched (T : Txt K w mg) (Ot : OkD P w K mg base CX0 1 "_law_take" p__law_take spTake) : OkD P w K mg base CX0 2 "_law_stretched" p__law_stretched spStretched := by
  refine T.g__law_stretched.ok sc__law_stretched (fun vs H Q E h => ?_) (fun f cdv A outer s H vs Q E hr h => ?_)
  · obtain ⟨b, ra, m, es, rfl, _⟩ := h; rfl
  obtain ⟨b, ra, m, es, rfl, hb, hpg, nrb, hel, hne, q⟩ := h
  have lim : (1100000 : Nat) ≤ sizeLine := by decide
  have z : Str.ofString " " = S [32] ∧ Str.ofString "#" = S [35] := by decide +kernel
  refine ⟨_, (pss_cons (ps_set (i := 3) sc__law_stretched.nd rfl (.inl rfl) (pe_ix ix_list (pv 1) (pcall Ot hr (pa_cons (pv 0) (pa_cons (pe_callB call_len_seq (by rfl) T.z_len PySem.boot_len (pa_cons (pv 1) pa_nil)) pa_nil))) (fun _ _ => rfl)))
      (pss_cons (ps_set (i := 4) sc__law_stretched.nd rfl (.inl rfl) (pe_op op_add pe_int (pcall Ot hr (pa_cons (pv 0) (pa_cons pe_int pa_nil)))))
      (pss_cons (PS.of (t' := fun D σ H => ∃ (v : V) (n : Int), 0 ≤ n ∧ n ≤ 122 ∧ σ = [some (.ref b), some (.ref ra), some (.bl m), some v, some (.int n), none, none] ∧ ∀ n : Int, 0 ≤ n → n ≤ 122 → D.nx [some (.ref b), some (.ref ra), some (.bl m), some v, some (.int n), none, none] H)
        (ps_if (pt_val (pv 2)) (pss_one (ps_set (i := 4) sc__law_stretched.nd rfl (.inl rfl) (pe_callB (call_min2 rfl) (by rfl) T.z_min (by decide +kernel) (pa_cons (pv 4) (pa_cons pe_int pa_nil))))) pss_nil) ?ifm)
      (pss_cons (ps_set (i := 5) sc__law_stretched.nd rfl (.inl rfl) (pe_op op_sub (pv 4) (pe_callB call_len_str (by rfl) T.z_len PySem.boot_len (pa_cons (pe_ix ix_list (pv 3) pe_int (fun _ _ => rfl)) pa_nil))))
      (pss_cons (PS.of (t' := fun D σ H => ∃ (e : RE) (j : Nat) (es : List RE) (n : Int), 0 ≤ n ∧ n ≤ 122 ∧ σ = [some (.ref b), some (.ref ra), some (.bl m), some (.ref e.a), some (.int n), some (.int (n - (e.r.txt.length : Nat))), none] ∧ Bag H b ∧ PgA m H ra [b] es ∧ es[j]? = some e ∧
        ∀ e' es' H', Bag H' b → PgA m H' ra [b] es' → es'[j]? = some e' → e'.a = e.a → es'.length = es.length → (e'.r = e.r ∨ e'.r.ps = []) → D.nx [some (.ref b), some (.ref ra), some (.bl m), some (.ref e.a), some (.int n), some (.int (n - (e.r.txt.length : Nat))), none] H')
      (ps_if (PW.pt (pw_and (pt_cmpR op_gt (pv 5) pe_int (nomark _)) (pw_and1 (pt_cmpR (op_eqD hr.units) (pe_ix ix_list (pv 3) pe_int (fun _ _ => rfl)) (pe_lst pa_nil) (nomark _))))) (pss_one (ps_asg (pe_op op_add_str (pe_ix ix_list (pv 3) pe_int (fun _ _ => rfl)) (pe_op op_mulS pe_str (pv 5))) (pg_sub (pv 3) pe_int set_list))) pss_nil) ?if1)
      (pss_one (ps_if (PW.pt (pw_and (pt_cmpR op_gt (pv 5) pe_int (nomark _)) (pw_and1 (pt_cmpR op_gt (pe_callB call_len_seq (by rfl) T.z_len PySem.boot_len (pa_cons (pe_ix ix_list (pv 3) pe_int (fun _ _ => rfl)) pa_nil)) pe_int (nomark _))))) (pss_cons (ps_set (i := 6) sc__law_stretched.nd rfl (.inl rfl) (pe_ix ix_list (pe_ix ix_list (pe_ix ix_list (pv 3) pe_int (fun _ _ => rfl)) (pe_un un_neg pe_int) (fun _ _ => rfl)) pe_int (fun _ _ => rfl)))
      (pss_cons (ps_asg (pe_op op_add_str (pe_op op_add_str (pe_slice sl_str (pe_ix ix_list (pv 3) pe_int (fun _ _ => rfl)) po_none (po_some (pv 6))) (pe_op op_mulS pe_str (pv 5))) (pe_slice sl_str (pe_ix ix_list (pv 3) pe_int (fun _ _ => rfl)) (po_some (pv 6)) po_none)) (pg_sub (pv 3) pe_int set_list))
      (pss_one (ps_asg (pe_op op_add (pv 6) (pv 5)) (pg_sub (pe_ix ix_list (pe_ix ix_list (pv 3) pe_int (fun _ _ => rfl)) (pe_un un_neg pe_int) (fun _ _ => rfl)) pe_int set_list))))) pss_nil))))))), ?_⟩
  case ifm =>
    rintro D σ H ⟨v, n, n0, n1, rfl, q⟩
    refine ⟨_, rfl, m, rfl, ?_⟩
    cases m with
    | false => exact iteF (q n n0 n1)
    | true =>
      refine iteT ⟨_, rfl, n, 120, rfl, ?_⟩
      by_cases c : (120 : Int) < n
      · rw [if_pos c]; exact q 120 (by omega) (by omega)
      · rw [if_neg c]; exact q n n0 n1
  case if1 =>
    rintro D σ H ⟨e, j, es, n, n0, n1, rfl, hb, hpg, hj, q⟩
    have hm := List.mem_of_getElem? hj
    have hrow := hpg.row e hm
    refine ⟨_, rfl, _, _, rfl, rfl, _, rfl, iteB (α := True) (fun c1 => ?_) (fun c1 => iteF (q e es H hb hpg hj rfl rfl (.inl rfl)))⟩
    have c1 : (0 : Int) < n - (e.r.txt.length : Nat) := c1
    refine ⟨_, rfl, e.a, _, 1, .ref e.pl, rfl, rfl, SqL.of hrow.at_, rfl, by show 0 ≤ sizeLine; omega, fun g hg => ?_⟩
    have s1 := same_new hg (.lst [])
    have pg1 := hpg.keep (fun a o _ h => s1 a o h) (fun h => nrb (List.mem_singleton.mp h))
    have hrow1 := hrow.same s1
    have hps : ∀ p ∈ e.r.ps, ItOk m p.it := by
      rcases hpg.ok e hm with ⟨h, _⟩ | ⟨_, h⟩
      · rw [h]; intro p hp; cases hp
      · exact h.ok
    refine ⟨_, _, hrow1.dp, .lst (SqL.of upd_same) .nil, dPs_shaped hps, by decide, _, rfl, ?_⟩
    rw [dPs_nil]
    by_cases ep : e.r.ps = []
    · rw [decide_eq_true ep]
      refine iteT ?_
      rcases hpg.ok e hm with ⟨_, g0, n2, htx⟩ | ⟨h, _⟩
      · obtain ⟨k, hk⟩ : ∃ k : Nat, n - (e.r.txt.length : Nat) = (k : Int) := ⟨(n - (e.r.txt.length : Nat)).toNat, by omega⟩
        have hsz := (hpg.sz e hm).1
        refine ⟨_, rfl, e.a, _, 0, _, rfl, rfl, SqL.of hrow1.at_, rfl, _, rfl, _, _, rfl, rfl, mul_ok (by decide +kernel) (by omega) (by omega), ?_⟩
        rw [z.2, hk, mulC]
        refine ⟨_, _, rfl, rfl, by rw [S_len, S_len, List.length_replicate]; omega, ?_⟩
        rw [S_cat]
        refine ⟨_, rfl, e.a, _, 0, 0, rfl, rfl, hrow1.at_, rfl, ?_⟩
        generalize hH2 : upd (upd H g (.lst [])) e.a _ = H2
        have k2 : ∀ a o, a ≠ e.a → upd H g (.lst []) a = some o → H2 a = some o := fun a o n h => by rw [← hH2, upd_ne n]; exact h
        have hnb : b ≠ e.a := fun z => hrow.ne_bag hb (z ▸ List.mem_cons_self)
        have r2 : RowA H2 ⟨e.a, e.pl, e.pa, ⟨e.r.txt ++ List.replicate k 35, e.r.ps⟩⟩ := ⟨by rw [← hH2]; exact upd_same, k2 _ _ hrow.a_pl.symm hrow1.pl, hrow.len, fun i p h => by
          obtain ⟨y, h1, h2⟩ := hrow1.ps i p h
          exact ⟨y, h1, k2 _ _ (hrow.pa_ne (List.mem_of_getElem? h1)).1 h2⟩, hrow.nd⟩
        have hjl := (List.getElem?_eq_some_iff.mp hj).1
        have hl : (e.r.txt ++ List.replicate k 35).length ≤ 2000 := by rw [List.length_append, List.length_replicate]; omega
        refine hk ▸ q ⟨e.a, e.pl, e.pa, ⟨e.r.txt ++ List.replicate k 35, e.r.ps⟩⟩ (es.set j ⟨e.a, e.pl, e.pa, ⟨e.r.txt ++ List.replicate k 35, e.r.ps⟩⟩) H2 ?_ (pg1.set hj rfl rfl r2 (.inl ⟨ep, g0, n2 + k, by show e.r.txt ++ _ = _; rw [htx, List.append_assoc, List.replicate_append_replicate]⟩) hl (hpg.sz e hm).2 (fun a o h1 h2 => k2 a o (fun z => h1 (by rw [z]; exact List.mem_cons_self)) h2)) (by rw [List.getElem?_set_self hjl]) rfl (by rw [List.length_set]) (.inr ep)
        obtain ⟨d1, d2, d3, d4⟩ := hb.same s1
        exact ⟨d1, d2, d3, k2 _ _ hnb d4⟩
      · exact absurd ep h
    · rw [decide_eq_false ep]
      exact iteF (q e es _ (hb.same s1) pg1 hj rfl rfl (.inl rfl))
  have hp := List.length_pos_iff.mpr hne
  have hlen : (es.map fun e => V.ref e.a).length = es.length := List.length_map _
  refine ⟨_, rfl, _, rfl, _, rfl, ra, _, rfl, .inl (SqL.of hpg.at_), b, (es.length : Int), by rw [hlen]; rfl, hb, by omega, by omega, fun r H1 r0 r1 st => ?_⟩
  have pg1 := hpg.keep (H' := H1) (fun a o ha h => st.keep a o (fun z => ha (by rw [z]; exact List.mem_cons_self)) h) (fun h => nrb (List.mem_singleton.mp h))
  obtain ⟨k, rfl⟩ : ∃ k : Nat, r = (k : Int) := ⟨r.toNat, by omega⟩
  have hk : k < es.length := by omega
  have gk := List.getElem?_eq_getElem hk
  generalize es[k]'_ = e at gk
  refine ⟨ra, _, _, .ref e.a, rfl, rfl, SqL.of pg1.at_, atI_nat (by rw [List.getElem?_map, gk]; rfl), ?_⟩
  refine ⟨_, rfl, b, 4, rfl, st.b1, by decide, by decide, fun r H2 r0 r1 st2 => ⟨_, _, rfl, rfl, ?_⟩⟩
  have pg2 := pg1.keep (H' := H2) (fun a o ha h => st2.keep a o (fun z => ha (by rw [z]; exact List.mem_cons_self)) h) (fun h => nrb (List.mem_singleton.mp h))
  refine ⟨_, 119 + r, by omega, by omega, rfl, fun n n0 n1 => ?_⟩
  have hrow := pg2.row e (List.mem_of_getElem? gk)
  have hsz := pg2.sz e (List.mem_of_getElem? gk)
  refine ⟨_, rfl, _, rfl, e.a, _, 0, _, rfl, rfl, SqL.of hrow.at_, rfl, _, rfl, by rw [S_len]; omega, _, _, rfl, rfl, ?_⟩
  rw [S_len]
  refine ⟨e, k, es, n, n0, n1, rfl, st2.b1, pg2, gk, fun e' es' H3 hb3 pg3 gk3 ea hl3 hr3 => ?_⟩
  have stay : Q .non H3 := q es' H3 hb3 pg3 (by omega) (fun z => by rw [z] at hl3; have : 0 = es.length := hl3; omega)
  have hm3 := List.mem_of_getElem? gk3
  have hrow3 := pg3.row e' hm3
  rw [← ea]
  refine ⟨_, rfl, _, _, rfl, rfl, _, rfl, iteB (α := True) (fun c1 => ?_) (fun _ => iteF stay)⟩
  have c1 : (0 : Int) < n - (e.r.txt.length : Nat) := c1
  refine ⟨_, rfl, e'.a, _, 1, .ref e'.pl, rfl, rfl, SqL.of hrow3.at_, rfl, e'.pl, _, rfl, .inl (SqL.of hrow3.pl), _, _, rfl, rfl, _, rfl, iteB (α := True) (fun c2 => ?_) (fun _ => stay)⟩
  have c2 : (1 : Int) < ((e'.pa.map V.ref).length : Nat) := c2
  rw [List.length_map, hrow3.len] at c2
  have hne3 : e'.r.ps ≠ [] := fun z => by rw [z] at c2; exact absurd c2 (by decide)
  have er : e'.r = e.r := hr3.resolve_right hne3
  have hlay : Lay m e'.r.txt e'.r.ps := by
    rcases pg3.ok e' hm3 with ⟨h, _⟩ | ⟨_, h⟩
    · exact absurd h hne3
    · exact h
  obtain ⟨t0, ps0, g, it, ht, hps, l0, ho, hg, hlast⟩ := hlay.inv hne3
  obtain ⟨y, p, hp, hy, hpy, hat⟩ := hrow3.last hne3
  have hp' : p = ⟨t0.length + g, it⟩ := by
    rw [hps, List.getLast?_concat] at hp
    exact (Option.some.inj hp).symm
  subst hp'
  have hsz3 := pg3.sz e' hm3
  have htl : e'.r.txt.length = t0.length + g + it.sp.length := by rw [ht, List.length_append, List.length_append, List.length_replicate]
  obtain ⟨k2, hk2⟩ : ∃ k2 : Nat, n - (e.r.txt.length : Nat) = (k2 : Int) := ⟨(n - (e.r.txt.length : Nat)).toNat, by omega⟩
  rw [hk2]
  refine ⟨_, rfl, e'.a, _, 1, .ref e'.pl, rfl, rfl, SqL.of hrow3.at_, rfl, _, rfl, e'.pl, _, _, .ref y, rfl, rfl, SqL.of hrow3.pl, hat, y, _, 0, .int ((t0.length + g : Nat) : Int), rfl, rfl, SqL.of hpy, rfl, ?_⟩
  refine ⟨_, rfl, e'.a, _, 0, _, rfl, rfl, SqL.of hrow3.at_, rfl, _, rfl, ((t0.length + g : Nat) : Int), rfl, _, rfl, by rw [S_len]; omega, ?_⟩
  rw [cut_0]
  refine ⟨_, rfl, _, _, rfl, rfl, mul_ok (by decide +kernel) (by omega) (by omega), ?_⟩
  rw [z.1, mulC]
  refine ⟨_, _, rfl, rfl, by rw [S_len, S_len, List.length_take, List.length_replicate]; omega, ?_⟩
  rw [S_cat]
  refine ⟨_, rfl, e'.a, _, 0, _, rfl, rfl, SqL.of hrow3.at_, rfl, _, rfl, ((t0.length + g : Nat) : Int), rfl, _, rfl, by rw [S_len]; omega, ?_⟩
  rw [cut_n]
  refine ⟨_, _, rfl, rfl, by rw [S_len, S_len, List.length_append, List.length_take, List.length_replicate, List.length_drop]; omega, ?_⟩
  rw [S_cat]
  have etx : List.take (t0.length + g) e'.r.txt ++ List.replicate k2 32 ++ List.drop (t0.length + g) e'.r.txt = t0 ++ spn (g + k2) ++ it.sp := by
    have el : (t0 ++ spn g).length = t0.length + g := by rw [List.length_append, List.length_replicate]
    rw [ht, ← el, List.take_left, List.drop_left, List.append_assoc t0, List.replicate_append_replicate]
  rw [etx]
  refine ⟨_, rfl, e'.a, _, 0, 0, rfl, rfl, hrow3.at_, rfl, ?_⟩
  generalize hH4 : upd H3 e'.a _ = H4
  have k4 : ∀ a o, a ≠ e'.a → H3 a = some o → H4 a = some o := fun a o n h => by rw [← hH4, upd_ne n]; exact h
  have r4 : H4 e'.a = some (.lst [.str (S (t0 ++ spn (g + k2) ++ it.sp)), .ref e'.pl]) := by rw [← hH4]; exact upd_same
  have pl4 := k4 _ _ hrow3.a_pl.symm hrow3.pl
  have hyp : y ∈ e'.pa := List.mem_of_getLast? hy
  have ny := hrow3.pa_ne hyp
  have y4 := k4 _ _ ny.1 hpy
  refine ⟨_, rfl, _, rfl, _, _, rfl, rfl, _, rfl, e'.a, _, 1, .ref e'.pl, rfl, rfl, SqL.of r4, rfl, _, rfl, e'.pl, _, _, .ref y, rfl, rfl, SqL.of pl4, hat, y, _, 0, 0, rfl, rfl, y4, rfl, ?_⟩
  generalize hH5 : upd H4 y _ = H5
  have k5 : ∀ a o, a ≠ e'.a → a ≠ y → H3 a = some o → H5 a = some o := fun a o n n2 h => by rw [← hH5, upd_ne n2]; exact k4 a o n h
  have y5 : H5 y = some (.lst (Pc.vs ⟨t0.length + (g + k2), it⟩)) := by
    rw [← hH5, upd_same]
    show some (HO.lst (V.int (((t0.length + g : Nat) : Int) + (k2 : Int)) :: it.vs)) = some (HO.lst (V.int ((t0.length + (g + k2) : Nat) : Int) :: it.vs))
    rw [show ((t0.length + (g + k2) : Nat) : Int) = ((t0.length + g : Nat) : Int) + (k2 : Int) by omega]
  have plen : e'.pa.length = ps0.length + 1 := by rw [hrow3.len, hps, List.length_append]; rfl
  have yat : e'.pa[ps0.length]? = some y := by
    rw [List.getLast?_eq_getElem?, plen] at hy; exact hy
  have r5 : RowA H5 ⟨e'.a, e'.pl, e'.pa, ⟨t0 ++ spn (g + k2) ++ it.sp, ps0 ++ [⟨t0.length + (g + k2), it⟩]⟩⟩ := by
    refine ⟨by rw [← hH5, upd_ne ny.1.symm]; exact r4, k5 _ _ hrow3.a_pl.symm ny.2.symm hrow3.pl, ?_, fun i p h => ?_, hrow3.nd⟩
    · show e'.pa.length = (ps0 ++ [_]).length
      rw [plen, List.length_append]; rfl
    · have h : (ps0 ++ [(⟨t0.length + (g + k2), it⟩ : Pc)])[i]? = some p := h
      by_cases c : i < ps0.length
      · rw [List.getElem?_append_left c] at h
        obtain ⟨x, h1, h2⟩ := hrow3.ps i p (by rw [hps, List.getElem?_append_left c]; exact h)
        refine ⟨x, h1, k5 _ _ (hrow3.pa_ne (List.mem_of_getElem? h1)).1 (fun z => ?_) h2⟩
        rw [z] at h1
        obtain ⟨l1, g1⟩ := List.getElem?_eq_some_iff.mp h1
        obtain ⟨l2, g2⟩ := List.getElem?_eq_some_iff.mp yat
        have := (List.getElem_inj hrow3.nd).mp (g1.trans g2.symm)
        omega
      · have hi := (List.getElem?_eq_some_iff.mp h).1
        rw [List.length_append] at hi
        have hi : i < ps0.length + 1 := hi
        have ei : i = ps0.length := by omega
        rw [ei, List.getElem?_append_right (Nat.le_refl _), Nat.sub_self] at h
        cases h
        exact ⟨y, by rw [ei]; exact yat, y5⟩
  have hll : (t0 ++ spn (g + k2) ++ it.sp).length ≤ 2000 := by
    rw [List.length_append, List.length_append, List.length_replicate]; rw [er] at htl; omega
  have hbn : b ∉ e'.F := hrow3.ne_bag hb3
  refine q (es'.set k ⟨e'.a, e'.pl, e'.pa, ⟨t0 ++ spn (g + k2) ++ it.sp, ps0 ++ [⟨t0.length + (g + k2), it⟩]⟩⟩) H5 ?_ (pg3.set gk3 rfl rfl r5 (.inr ⟨?_, Lay.cons (g + k2) it l0 ho (fun h => Nat.le_trans (hg h) (Nat.le_add_right _ _)) hlast⟩) hll ?_ (fun a o h1 h2 => k5 a o (fun z => h1 (by rw [z]; exact List.mem_cons_self)) (fun z => h1 (by rw [z]; exact List.mem_cons_of_mem _ (List.mem_cons_of_mem _ hyp))) h2)) (by rw [List.length_set]; omega) (fun z => by have := congrArg List.length z; rw [List.length_set, hl3] at this; have : es.length = 0 := this; omega)
  · obtain ⟨d1, d2, d3, d4⟩ := hb3
    exact ⟨d1, d2, d3, k5 _ _ (fun z => hbn (z ▸ List.mem_cons_self)) (fun z => hbn (z ▸ List.mem_cons_of_mem _ (List.mem_cons_of_mem _ hyp))) d4⟩
  · show ps0 ++ [_] ≠ []
    exact fun z => by have := congrArg List.length z; rw [List.length_append] at this; cases this
  · show (ps0 ++ [_]).length ≤ 300
    have := hsz3.2
    rw [hps, List.length_append] at this
    rw [List.length_append]; exact this
end
end D0
namespace D0
open PySem PySem.Spec PyProof.Rows L2 SX NumText
theorem PgA.unshift {m : Bool} {H : Hp} {ra : Addr} {D : List Addr} {es : List RE} {e : RE} (x : PgA m H ra D es) (r : RowA H e) (ok : ROk m e.r) (s1 : e.r.txt.length ≤ 2000) (s2 : e.r.ps.length ≤ 300) (hd : ∀ e' ∈ es, ∀ z ∈ e'.F, z ∉ e.F) (hn : ra ∉ e.F ∧ ∀ d ∈ D, d ∉ e.F) :
    PgA m (upd H ra (.lst (.ref e.a :: (es.map fun e => V.ref e.a)))) ra D (e :: es) := by
  refine ⟨by rw [upd_same]; rfl, fun e' he => ?_, ?_, fun e' he => ?_, fun e' he => ?_, fun e' he => ?_⟩
  · rcases List.mem_cons.mp he with h | h
    · rw [h]
      exact r.keep fun a ha o ho => by rw [upd_ne (fun z : a = ra => hn.1 (z ▸ ha))]; exact ho
    · exact (x.row e' h).keep fun a ha o ho => by rw [upd_ne (fun z : a = ra => (x.nf e' h).1 (z ▸ ha))]; exact ho
  · rw [List.pairwise_cons]
    exact ⟨fun e' he z hz h => hd e' he z h hz, x.dj⟩
  · rcases List.mem_cons.mp he with h | h
    · rw [h]; exact ok
    · exact x.ok e' h
  · rcases List.mem_cons.mp he with h | h
    · rw [h]; exact ⟨s1, s2⟩
    · exact x.sz e' h
  · rcases List.mem_cons.mp he with h | h
    · rw [h]; exact hn
    · exact x.nf e' h
/-- a row without pieces, just made -/
theorem PgA.blank {m : Bool} {H H' : Hp} {ra p a : Addr} {D : List Addr} {es : List RE} {tx : List Nat} (x : PgA m H ra D es) (hp : H p = none) (ha : H a = none) (hap : a ≠ p) (s : Same H H') (h1 : H' a = some (.lst [.str (S tx), .ref p])) (h2 : H' p = some (.lst [])) (hra : ra ∉ D) (hD : ∀ d ∈ D, ∃ o, H d = some o) :
    RowA H' ⟨a, p, [], ⟨tx, []⟩⟩ ∧ PgA m H' ra D es ∧ (∀ e' ∈ es, ∀ z ∈ e'.F, z ∉ (RE.mk a p [] ⟨tx, []⟩).F) ∧ ra ∉ (RE.mk a p [] ⟨tx, []⟩).F ∧ ∀ d ∈ D, d ∉ (RE.mk a p [] ⟨tx, []⟩).F := by
  have nf : ∀ z, (∃ o, H z = some o) → z ∉ (RE.mk a p [] ⟨tx, []⟩).F := fun z ⟨o, ho⟩ h => by
    rcases List.mem_cons.mp h with h | h
    · rw [h, ha] at ho; cases ho
    · rw [List.mem_singleton.mp h, hp] at ho; cases ho
  exact ⟨⟨h1, h2, rfl, (fun i p h => by cases h), List.nodup_nil⟩, x.keep (fun a o _ h => s a o h) hra, fun e' he z hz => nf z ((x.row e' he).live z hz), nf ra ⟨_, x.at_⟩, fun d hd => nf d (hD d hd)⟩
def spFilled : Sp := fun vs H Q _ => ∃ (b ra : Addr) (m : Bool) (es : List RE), vs = [.ref b, .ref ra, .bl m] ∧ Bag H b ∧ PgA m H ra [b] es ∧ ra ≠ b ∧ es.length ≤ 1000 ∧ es ≠ [] ∧
  ∀ es' H', Bag H' b → PgA m H' ra [b] es' → es'.length ≤ es.length + 61 → es' ≠ [] → Q .non H'
section
variable {P : Program} {w : World} {K : PySem.W.Frag} {mg : Str → Option Value} {base : Heap}
theorem ok__law_filled (T : Txt K w mg) (Ot : OkD P w K mg base CX0 1 "_law_take" p__law_take spTake) : OkD P w K mg base CX0 2 "_law_filled" p__law_filled spFilled := by
  refine T.g__law_filled.ok sc__law_filled (fun vs H Q E h => ?_) (fun f cdv A outer s H vs Q E hr h => ?_)
  · obtain ⟨b, ra, m, es, rfl, _⟩ := h; rfl
  obtain ⟨b, ra, m, es, rfl, hb, hpg, nrb, hel, hne, q⟩ := h
  have lim : (1100000 : Nat) ≤ sizeLine := by decide
  have z : Str.ofString "#" = S [35] := by decide +kernel
  have hrD : ra ∉ [b] := fun h => nrb (List.mem_singleton.mp h)
  refine ⟨_, (pss_cons (ps_set (i := 3) sc__law_filled.nd rfl (.inl rfl) (pe_op op_add pe_int (pcall Ot hr (pa_cons (pv 0) (pa_cons pe_int pa_nil)))))
      (pss_cons (ps_set (i := 4) sc__law_filled.nd rfl (.inl rfl) (pe_cmpR op_eq (pcall Ot hr (pa_cons (pv 0) (pa_cons pe_int pa_nil))) pe_int (nomark _)))
      (pss_cons (PS.of (t' := fun D σ H => ∃ (n : Int) (ah : Bool), n ≤ 6002 ∧ σ = [some (.ref b), some (.ref ra), some (.bl m), some (.int n), some (.bl ah), none, none, none, none] ∧ ∀ n : Int, n ≤ 6002 → D.nx [some (.ref b), some (.ref ra), some (.bl m), some (.int n), some (.bl ah), none, none, none, none] H)
        (ps_if (pt_val (pv 2)) (pss_one (ps_set (i := 3) sc__law_filled.nd rfl (.inl rfl) (pe_callB (call_min2 rfl) (by rfl) T.z_min (by decide +kernel) (pa_cons (pv 3) (pa_cons pe_int pa_nil))))) pss_nil) ?ifm)
      (pss_cons (ps_set (i := 6) sc__law_filled.nd rfl (.inl rfl) (pe_op op_add (pe_op op_sub (pv 3) (pe_callB (cr_sum rfl) (by rfl) T.z_sum (by decide +kernel) (pa_cons (pe_lc (own := [("row", 5)]) (g := gName 5) (tt := tYes) rfl sc__law_filled.nd (pi_list (pv 1)) (blkOk_by (own := [("row", 5)]) (N := n__law_filled) (sc := defScope s__law_filled) (by decide +kernel))
        (fun _ _ _ _ _ => (pg_name (i := 5) sc__law_filled.nd rfl (Or.inl rfl))) (fun _ _ _ _ _ => pts_nil) (fun _ _ _ _ _ => (pe_op op_add (pe_callB call_len_str (by rfl) T.z_len PySem.boot_len (pa_cons (pe_ix (show IxR _ (rIxL K) from ix_list) (pv 5) pe_int (fun _ _ => rfl)) pa_nil)) pe_int))) pa_nil))) pe_int))
      (pss_one (ps_for PassesOwn.never rfl (pi_range1 rfl T.z_range (pa_cons pe_int pa_nil)) (pg_name (i := 7) sc__law_filled.nd rfl (Or.inl rfl)) (pss_one (ps_if (pt_cmpR op_gt (pv 6) pe_int (nomark _)) (pss_cons (ps_set (i := 8) sc__law_filled.nd rfl (.inl rfl) (pe_callB (call_min2 rfl) (by rfl) T.z_min (by decide +kernel) (pa_cons (pv 6) (pa_cons pe_int pa_nil))))
      (pss_cons (ps_set (i := 5) sc__law_filled.nd rfl (.inl rfl) (pe_lst (pa_cons (pe_op op_mulS pe_str (pe_op op_sub (pv 8) pe_int)) (pa_cons (pe_lst pa_nil) pa_nil))))
      (pss_cons (ps_expr (pe_bm PySem.F.plainAttrs_list PySem.F.slot_list_insert PySem.F.type_list_insert mt_insert (pv 1) (pa_cons (pe_ifExp (pt_val (pv 4)) pe_int (pe_callB call_len_seq (by rfl) T.z_len PySem.boot_len (pa_cons (pv 1) pa_nil))) (pa_cons (pv 5) pa_nil))))
      (pss_one (ps_set (i := 6) sc__law_filled.nd rfl (.inl rfl) (pe_op op_sub (pv 6) (pv 8))))))) pss_nil)))))))), ?_⟩
  case ifm =>
    rintro D σ H ⟨n, ah, n1, rfl, q⟩
    refine ⟨_, rfl, m, rfl, ?_⟩
    cases m with
    | false => exact iteF (q n n1)
    | true =>
      refine iteT ⟨_, rfl, n, 6000, rfl, ?_⟩
      by_cases c : (6000 : Int) < n
      · rw [if_pos c]; exact q 6000 (by omega)
      · rw [if_neg c]; exact q n n1
  refine ⟨_, rfl, b, 5, rfl, hb, by decide, by decide, fun r H1 r0 r1 st => ⟨_, _, rfl, rfl, ?_⟩⟩
  refine ⟨_, rfl, b, 2, rfl, st.b1, by decide, by decide, fun r2 H2 _ _ st2 => ⟨rfl, ?_⟩⟩
  refine ⟨5998 + r, _, by omega, rfl, fun n hn => ?_⟩
  have st12 := st.trans st2
  have pg2 := hpg.keep (H' := H2) (fun a o ha h => st12.keep a o (fun z => ha (by rw [z]; exact List.mem_cons_self)) h) hrD
  refine ⟨_, rfl, _, rfl, ra, rfl, ⟨_, SqL.of pg2.at_⟩, fun D hD => ?_⟩
  refine lc_it (walk_list (xs := es.map fun e => V.ref e.a)) (fun i H' => Same H2 H' ∧ H' D = some (.lst ((es.take i).map fun e => V.int ((e.r.txt.length : Nat) + 1)))) ⟨same_new hD _, upd_same⟩ (fun i H' _ h => SqL.of (h.1 _ _ pg2.at_)) ?_ ?_
  · rintro i x H3 H4 hi ⟨sm, hl⟩ ⟨rfl, hx⟩
    rw [List.getElem?_map] at hx
    obtain ⟨e, he, rfl⟩ := Option.map_eq_some_iff.mp hx
    have hrow := (pg2.row e (List.mem_of_getElem? he)).same sm
    have hsz := (pg2.sz e (List.mem_of_getElem? he)).1
    refine ⟨rfl, iteT (B := True) (iteT ?_)⟩
    refine ⟨_, rfl, e.a, _, 0, _, rfl, rfl, SqL.of hrow.at_, rfl, _, rfl, by rw [S_len]; omega, _, _, rfl, rfl, _, hl, by rw [List.length_map, List.length_take]; omega, same_upd sm hD, ?_⟩
    rw [upd_same, List.take_add_one, he, List.map_append, S_len]; rfl
  · rintro H3 ⟨sm, hl⟩
    rw [List.length_map, List.take_length] at hl
    refine ⟨D, es.map fun e => ((e.r.txt.length : Nat) + 1 : Int), rfl, SqL.of (by rw [hl, List.map_map]; rfl), ?_⟩
    generalize (es.map fun e => ((e.r.txt.length : Nat) + 1 : Int)).sum = tot
    refine ⟨_, _, rfl, rfl, _, _, rfl, rfl, ?_⟩
    have hb3 := st12.b1.same sm
    have pg3 := pg2.keep (H' := H3) (fun a o _ h => sm a o h) hrD
    refine ⟨61, rfl, by decide, by decide, ?_⟩
    refine for_range (lo := 0) (n := (61 : Int).toNat) (fun i σ H' => ∃ (es' : List RE) (mo : Int) (ah : Bool) (y5 y7 y8 : Option V), σ = [some (.ref b), some (.ref ra), some (.bl m), some (.int n), some (.bl ah), y5, some (.int mo), y7, y8] ∧ Bag H' b ∧ PgA m H' ra [b] es' ∧ es'.length ≤ es.length + i ∧ es' ≠ []) ⟨es, _, _, _, _, _, rfl, hb3, pg3, Nat.le_refl _, hne⟩ ?_ ?_
    · rintro i σ H4 hi ⟨es', mo, ah, y5, y7, y8, rfl, hb4, pg4, hl4, hne4⟩
      refine ⟨_, rfl, _, _, rfl, rfl, _, rfl, iteB (α := True) (fun c => ?_) (fun c => ⟨es', mo, ah, _, _, _, rfl, hb4, pg4, by omega, hne4⟩)⟩
      have c : (0 : Int) < mo := c
      refine ⟨_, rfl, mo, 100, rfl, ?_⟩
      obtain ⟨wd, hw, hw0, hw1⟩ : ∃ wd : Nat, (if (100 : Int) < mo then (100 : Int) else mo) = ((wd + 1 : Nat) : Int) ∧ wd ≤ 99 ∧ True := by
        by_cases c2 : (100 : Int) < mo
        · exact ⟨99, by rw [if_pos c2]; rfl, by decide, trivial⟩
        · refine ⟨(mo - 1).toNat, by rw [if_neg c2]; omega, by omega, trivial⟩
      rw [hw]
      have hl1000 : es'.length ≤ 1100 := by have : i < 61 := hi; omega
      refine ⟨_, rfl, _, _, rfl, rfl, _, _, rfl, rfl, mul_ok (by decide +kernel) (by omega) (by omega), ?_⟩
      rw [z, show ((wd + 1 : Nat) : Int) - 1 = (wd : Int) by omega, mulC]
      refine ⟨by show 0 ≤ sizeLine; omega, fun p hp => ⟨by show 2 ≤ sizeLine; omega, fun a ha => ?_⟩⟩
      generalize hH5 : upd (upd H4 p _) a _ = H5
      have s5 : Same H4 H5 := by rw [← hH5]; exact (same_new hp _).trans (same_new ha _)
      have a0 : H4 a = none := (same_new hp _).free ha
      have nap : a ≠ p := fun z => by rw [z, upd_same] at ha; cases ha
      obtain ⟨b1, b2, b3, b4, b5⟩ := pg4.blank (tx := List.replicate wd 35) hp a0 nap s5 (by rw [← hH5]; exact upd_same) (by rw [← hH5, upd_ne nap.symm]; exact upd_same) hrD (fun d hd => by rw [List.mem_singleton.mp hd]; obtain ⟨_, _, _, h⟩ := hb4; exact ⟨_, h⟩)
      have ok : ROk m (LR.mk (List.replicate wd 35) []) := .inl ⟨rfl, 0, wd, rfl⟩
      have hwl : (List.replicate wd 35).length ≤ 2000 := by rw [List.length_replicate]; omega
      have bagU : ∀ o, Bag (upd H5 ra o) b := fun o => by
        obtain ⟨d1, d2, d3, d4⟩ := hb4.same s5
        exact ⟨d1, d2, d3, by rw [upd_ne nrb.symm]; exact d4⟩
      refine ⟨_, rfl, .inl ⟨rfl, _, SqL.of b2.at_⟩, _, rfl, ah, rfl, ?_⟩
      cases ah with
      | true =>
        refine iteT ⟨_, rfl, ra, _, 0, .ref a, rfl, rfl, b2.at_, by rw [List.length_map]; omega, by decide, by decide, ?_⟩
        refine ⟨_, rfl, _, rfl, _, _, rfl, rfl, ⟨a, p, [], ⟨List.replicate wd 35, []⟩⟩ :: es', _, _, _, _, _, rfl, bagU _, b2.unshift b1 ok hwl (Nat.zero_le _) b3 ⟨b4, b5⟩, by rw [List.length_cons]; omega, fun z => by cases z⟩
      | false =>
        refine iteF ⟨_, rfl, ra, _, rfl, .inl (SqL.of b2.at_), _, rfl, ra, _, _, .ref a, rfl, rfl, b2.at_, by rw [List.length_map]; omega, by omega, by rw [List.length_map]; omega, ?_⟩
        have et : (es'.map fun e => V.ref e.a).take (((es'.map fun e => V.ref e.a).length : Nat) : Int).toNat ++ [V.ref a] ++ (es'.map fun e => V.ref e.a).drop (((es'.map fun e => V.ref e.a).length : Nat) : Int).toNat = (es'.map fun e => V.ref e.a) ++ [V.ref a] := by
          rw [Int.toNat_natCast, List.take_length, List.drop_length, List.append_nil]
        rw [et]
        refine ⟨_, rfl, _, rfl, _, _, rfl, rfl, es' ++ [⟨a, p, [], ⟨List.replicate wd 35, []⟩⟩], _, _, _, _, _, rfl, bagU _, b2.push b1 ok hwl (Nat.zero_le _) b3 ⟨b4, b5⟩, by rw [List.length_append]; show _ + 1 ≤ _; omega, fun z => by have := congrArg List.length z; rw [List.length_append] at this; cases this⟩
    · rintro σ H4 ⟨es', mo, ah, y5, y7, y8, rfl, hb4, pg4, hl4, hne4⟩
      exact q es' H4 hb4 pg4 hl4 hne4
end
end D0
namespace D0
open PySem PySem.Spec PyProof.Rows L2 SX NumText
/-- the page as it is handed out -/
structure PgF (m : Bool) (H : Hp) (ra : Addr) (es : List RE) : Prop where
  at_ : H ra = some (.lst (es.map fun e => V.ref e.a))
  row : ∀ e ∈ es, RowA H e
  sz : ∀ e ∈ es, e.r.txt.length ≤ 2100 ∧ e.r.ps.length ≤ 300
  ne : es ≠ []
  len : es.length ≤ 300
  ok : (∀ e ∈ es, ROk m e.r) ∨ ((∀ e ∈ es, ∀ c ∈ e.r.txt, rowc c = true ∨ c = 9) ∧ ∃ e ∈ es, 9 ∈ e.r.txt)
theorem PgA.setRow {m : Bool} {H H' : Hp} {ra : Addr} {D : List Addr} {es : List RE} {e e' : RE} {j : Nat} (x : PgA m H ra D es) (hj : es[j]? = some e) (ea : e'.a = e.a) (ef : e'.F = e.F) (r : RowA H' e')
    (kp : ∀ a o, a ∉ e.F → H a = some o → H' a = some o) : H' ra = some (.lst ((es.set j e').map fun e => V.ref e.a)) ∧ (∀ y ∈ es.set j e', RowA H' y) ∧ ∀ y ∈ es.set j e', y = e' ∨ y ∈ es := by
  have hjl := (List.getElem?_eq_some_iff.mp hj).1
  have hm := List.mem_of_getElem? hj
  have at_ : ∀ (i : Nat) (y : RE), (es.set j e')[i]? = some y → (i = j ∧ y = e') ∨ (i ≠ j ∧ es[i]? = some y) := fun i y h => by
    by_cases c : j = i
    · rw [← c, List.getElem?_set_self hjl] at h
      exact .inl ⟨c.symm, (Option.some.inj h).symm⟩
    · rw [List.getElem?_set_ne c] at h
      exact .inr ⟨fun z => c z.symm, h⟩
  have other : ∀ (i : Nat) (y : RE), i ≠ j → es[i]? = some y → ∀ z ∈ y.F, z ∉ e.F := fun i y n h z hz => by
    obtain ⟨hi, e1⟩ := List.getElem?_eq_some_iff.mp h
    obtain ⟨_, e2⟩ := List.getElem?_eq_some_iff.mp hj
    have pw := List.pairwise_iff_getElem.mp x.dj
    rcases Nat.lt_or_ge i j with c | c
    · have := pw i j hi hjl c
      rw [e1, e2] at this
      exact this z hz
    · have := pw j i hjl hi (by omega)
      rw [e1, e2] at this
      exact fun h2 => this z h2 hz
  have all : ∀ y ∈ es.set j e', y = e' ∨ ∃ i, i ≠ j ∧ es[i]? = some y := fun y hy => by
    obtain ⟨i, hi⟩ := List.mem_iff_getElem?.mp hy
    rcases at_ i y hi with ⟨_, h⟩ | ⟨h1, h2⟩
    · exact .inl h
    · exact .inr ⟨i, h1, h2⟩
  refine ⟨?_, fun y hy => ?_, fun y hy => (all y hy).imp id fun ⟨i, _, h⟩ => List.mem_of_getElem? h⟩
  · have : (es.set j e').map (fun e => V.ref e.a) = es.map fun e => V.ref e.a := by
      rw [List.map_set, ea]
      refine List.ext_getElem? fun i => ?_
      by_cases c : j = i
      · subst c
        rw [List.getElem?_set_self (by rw [List.length_map]; exact hjl), List.getElem?_map, hj]; rfl
      · rw [List.getElem?_set_ne c]
    rw [this]
    exact kp _ _ (x.nf e hm).1 x.at_
  · rcases all y hy with h | ⟨i, h1, h2⟩
    · rw [h]; exact r
    · exact (x.row y (List.mem_of_getElem? h2)).keep fun a ha o ho => kp a o (other i y h1 h2 a ha) ho
theorem rep_row {c : Nat} (h : rowc c = true) (n : Nat) : (List.replicate n c).all rowc = true := by
  rw [List.all_eq_true]
  intro x hx
  rw [(List.mem_replicate.mp hx).2]; exact h
theorem Lay.row {m : Bool} {t : List Nat} {ps : List Pc} (h : Lay m t ps) : t.all rowc = true := by
  induction h with
  | nil w => exact rep_row (by decide) w
  | cons g it _ h1 _ _ ih => rw [List.all_append, List.all_append, ih, rep_row (by decide) g, h1.row]; rfl
theorem ROk.row {m : Bool} {r : LR} (h : ROk m r) : r.txt.all rowc = true := by
  rcases h with ⟨_, g, n, e⟩ | ⟨_, h⟩
  · rw [e, List.all_append, rep_row (by decide) g, rep_row (by decide) n]; rfl
  · exact h.row
/-- the page under way -/
structure PL (m : Bool) (b ra ca wa : Addr) (H : Hp) (es : List RE) (cl : List (List Nat)) (ws : List Nat) (M n k : Nat) : Prop where
  bag : Bag H b
  pg : PgA m H ra [b, ca, wa] es
  clo : ClA H ca cl
  cll : cl.length ≤ k
  wat : H wa = some (.lst (nats ws))
  W : Wid m ws M
  len : es.length ≤ n
  d : ra ≠ b ∧ ra ≠ ca ∧ ra ≠ wa ∧ wa ≠ b ∧ wa ≠ ca
theorem PL.stp {m : Bool} {b ra ca wa : Addr} {H H' : Hp} {es : List RE} {cl : List (List Nat)} {ws : List Nat} {M n k : Nat} (x : PL m b ra ca wa H es cl ws M n k) (st : Stp b H H') : PL m b ra ca wa H' es cl ws M n k := by
  obtain ⟨d1, d2, d3, d4, d5⟩ := x.d
  exact ⟨st.b1, x.pg.keep (fun a o h => st.keep a o (fun z => h (by rw [z]; exact List.mem_cons_self))) (by simp [d1, d2, d3]), x.clo.keep fun o h => st.keep ca o (x.clo.ne x.bag) h, x.cll, st.keep _ _ d4 x.wat, x.W, x.len, x.d⟩
theorem PL.same {m : Bool} {b ra ca wa : Addr} {H H' : Hp} {es : List RE} {cl : List (List Nat)} {ws : List Nat} {M n k : Nat} (x : PL m b ra ca wa H es cl ws M n k) (s : Same H H') : PL m b ra ca wa H' es cl ws M n k := x.stp (Stp.same x.bag s)
theorem PL.ups {m : Bool} {b ra ca wa : Addr} {H : Hp} {es es' : List RE} {cl : List (List Nat)} {ws : List Nat} {M n n' k : Nat} {o : HO} (x : PL m b ra ca wa H es cl ws M n k) (p : PgA m (upd H ra o) ra [b, ca, wa] es') (l : es'.length ≤ n') : PL m b ra ca wa (upd H ra o) es' cl ws M n' k := by
  obtain ⟨d1, d2, d3, d4, d5⟩ := x.d
  obtain ⟨c1, c2, c3, hb⟩ := x.bag
  exact ⟨⟨c1, c2, c3, by rw [upd_ne d1.symm]; exact hb⟩, p, x.clo.keep fun o h => by rw [upd_ne d2.symm]; exact h, x.cll, by rw [upd_ne d3.symm]; exact x.wat, x.W, l, x.d⟩
def spPage : Sp := fun vs H Q _ => ∃ (b : Addr) (m : Bool), vs = [.ref b, .bl m] ∧ Bag H b ∧ ∀ ra es H', PgF m H' ra es → Q (.ref ra) H'
section
variable {P : Program} {w : World} {K : PySem.W.Frag} {mg : Str → Option Value} {base : Heap}
theorem ok__law_page (T : Txt K w mg) (Ot : OkD P w K mg base CX0 1 "_law_take" p__law_take spTake) (Or_ : OkD P w K mg base CX0 6 "_law_row" p__law_row spRow) (Ow : OkD P w K mg base CX0 2 "_law_width" p__law_width spWidth)
    (Oc : OkD P w K mg base CX0 3 "_law_crowd" p__law_crowd spCrowd) (Os : OkD P w K mg base CX0 2 "_law_stretched" p__law_stretched spStretched) (Of : OkD P w K mg base CX0 2 "_law_filled" p__law_filled spFilled) :
    OkD P w K mg base CX0 7 "_law_page" p__law_page spPage := by
  refine T.g__law_page.ok sc__law_page (fun vs H Q E h => ?_) (fun f cdv A outer s H vs Q E hr h => ?_)
  · obtain ⟨b, m, rfl, _⟩ := h; rfl
  obtain ⟨b, m, rfl, hb, q⟩ := h
  have lim : (1100000 : Nat) ≤ sizeLine := by decide
  have z : Str.ofString " " = S [32] ∧ Str.ofString "#" = S [35] ∧ Str.ofString "\t" = S [9] := by decide +kernel
  refine split_at 9 (fun t => ∀ (sh : Int) (v3 v7 : V) (y8 y9 : Option V) (ra wa ca : Addr) (es : List RE) (cl : List (List Nat)) (ws : List Nat) (M n k : Nat) H1, PL m b ra ca wa H1 es cl ws M n k → es ≠ [] → n ≤ 50 →
    t { nx := fun _ H' => Q .non H', rt := Q } [some (.ref b), some (.bl m), some (.int sh), some v3, some (.ref ra), some (.ref wa), some (.ref ca), some v7, y8, y9, none, none] H1) ?_ (fun t ht hg => ?_)
  · refine ⟨_, (pss_cons (PS.of (t' := fun D σ H => ∃ (sh : Int) (v3 v5 v7 : V) (y8 y9 : Option V) (ra ca : Addr) (es : List RE) (cl : List (List Nat)), σ = [some (.ref b), some (.bl m), some (.int sh), some v3, some (.ref ra), some v5, some (.ref ca), some v7, y8, y9, none, none] ∧ Bag H b ∧ PgA m H ra [b] es ∧ ClA H ca cl ∧ ra ≠ b ∧ es ≠ [] ∧ es.length ≤ 50 ∧
          ∀ es' H', Bag H' b → PgA m H' ra [b] es' → es' ≠ [] → es'.length ≤ 200 → D.nx [some (.ref b), some (.bl m), some (.int sh), some v3, some (.ref ra), some v5, some (.ref ca), some v7, y8, y9, none, none] H')
        (ps_if (PW.pt (pw_and (pt_cmpR op_eq (pv 2) pe_int (nomark _)) (pw_and1 (pt_cmpR (op_eqD hr.units) (pv 6) (pe_lst pa_nil) (nomark _))))) (pss_one (ps_expr (pcall Oc hr (pa_cons (pv 0) (pa_cons (pv 4) (pa_cons (pv 1) pa_nil)))))) pss_nil) ?ifa)
      (pss_cons (PS.of (t' := fun D σ H => ∃ (sh : Int) (v3 v5 v6 v7 : V) (y8 y9 : Option V) (ra : Addr) (es : List RE), σ = [some (.ref b), some (.bl m), some (.int sh), some v3, some (.ref ra), some v5, some v6, some v7, y8, y9, none, none] ∧ Bag H b ∧ PgA m H ra [b] es ∧ ra ≠ b ∧ es ≠ [] ∧ es.length ≤ 200 ∧
          ∀ es' H', Bag H' b → PgA m H' ra [b] es' → es' ≠ [] → es'.length ≤ 200 → D.nx [some (.ref b), some (.bl m), some (.int sh), some v3, some (.ref ra), some v5, some v6, some v7, y8, y9, none, none] H')
        (ps_if (PW.pt (pw_or (pt_cmpR op_eq (pv 2) pe_int (nomark _)) (pw_or1 (pt_cmpR op_eq (pv 2) pe_int (nomark _))))) (pss_one (ps_expr (pcall Os hr (pa_cons (pv 0) (pa_cons (pv 4) (pa_cons (pv 1) pa_nil)))))) pss_nil) ?ifb)
      (pss_cons (PS.of (t' := fun D σ H => ∃ (sh : Int) (v3 v5 v6 v7 : V) (y8 y9 : Option V) (ra : Addr) (es : List RE), σ = [some (.ref b), some (.bl m), some (.int sh), some v3, some (.ref ra), some v5, some v6, some v7, y8, y9, none, none] ∧ Bag H b ∧ PgA m H ra [b] es ∧ ra ≠ b ∧ es ≠ [] ∧ es.length ≤ 200 ∧
          ∀ es' H', Bag H' b → PgA m H' ra [b] es' → es' ≠ [] → es'.length ≤ 261 → D.nx [some (.ref b), some (.bl m), some (.int sh), some v3, some (.ref ra), some v5, some v6, some v7, y8, y9, none, none] H')
        (ps_if (pt_cmpR op_eq (pv 2) pe_int (nomark _)) (pss_one (ps_expr (pcall Of hr (pa_cons (pv 0) (pa_cons (pv 4) (pa_cons (pv 1) pa_nil)))))) pss_nil) ?ifc)
      (pss_cons (ps_if (PW.pt (pw_and (pt_cmpR op_eq (pcall Ot hr (pa_cons (pv 0) (pa_cons pe_int pa_nil))) pe_int (nomark _)) (pw_and1 (pt_not (pt_val (pv 1)))))) (pss_cons (ps_set (i := 10) sc__law_page.nd rfl (.inl rfl) (pe_ix ix_list (pv 4) (pcall Ot hr (pa_cons (pv 0) (pa_cons (pe_callB call_len_seq (by rfl) T.z_len PySem.boot_len (pa_cons (pv 4) pa_nil)) pa_nil))) (fun _ _ => rfl)))
      (pss_cons (ps_set (i := 11) sc__law_page.nd rfl (.inl rfl) (pcall Ot hr (pa_cons (pv 0) (pa_cons (pe_op op_add (pe_callB call_len_str (by rfl) T.z_len PySem.boot_len (pa_cons (pe_ix ix_list (pv 10) pe_int (fun _ _ => rfl)) pa_nil)) pe_int) pa_nil))))
      (pss_one (ps_asg (pe_op op_add_str (pe_op op_add_str (pe_slice sl_str (pe_ix ix_list (pv 10) pe_int (fun _ _ => rfl)) po_none (po_some (pv 11))) pe_str) (pe_slice sl_str (pe_ix ix_list (pv 10) pe_int (fun _ _ => rfl)) (po_some (pv 11)) po_none)) (pg_sub (pv 10) pe_int set_list))))) pss_nil)
      (pss_one (ps_ret (pv 4))))))), ?_⟩
    case ifa =>
      rintro D σ H ⟨sh, v3, v5, v7, y8, y9, ra, ca, es, cl, rfl, hb, pg, hcl, nrb, hne, hl, q⟩
      have stay : ∀ H', Same H H' → _ := fun H' s => q es H' (hb.same s) (pg.keep (fun a o _ h => s a o h) (fun h => nrb (List.mem_singleton.mp h))) hne (by omega)
      refine ⟨_, rfl, rfl, _, rfl, iteB (α := True) (fun _ => ?_) (fun _ => iteF (stay H (Same.refl H)))⟩
      refine ⟨_, rfl, by show 0 ≤ sizeLine; omega, fun g hg => ?_⟩
      have s1 := same_new hg (.lst [])
      have hc1 := hcl.keep (s1 ca)
      refine ⟨_, _, hc1.dp, .lst (SqL.of upd_same) .nil, hc1.shaped, by decide, _, rfl, ?_⟩
      rw [dS_nil]
      by_cases e : cl = []
      · rw [decide_eq_true e]
        refine iteT ⟨_, rfl, _, rfl, _, rfl, b, ra, m, es, rfl, hb.same s1, pg.keep (fun a o _ h => s1 a o h) (fun h => nrb (List.mem_singleton.mp h)), nrb, by omega, fun es' H' hb' pg' hl' hn' => q es' H' hb' pg' hn' (by omega)⟩
      · rw [decide_eq_false e]
        exact iteF (stay _ s1)
    case ifb =>
      rintro D σ H ⟨sh, v3, v5, v6, v7, y8, y9, ra, es, rfl, hb, pg, nrb, hne, hl, q⟩
      refine ⟨_, rfl, rfl, _, rfl, iteB (α := True) (fun _ => ?_) (fun _ => ?_)⟩
      · exact ⟨_, rfl, _, rfl, _, rfl, b, ra, m, es, rfl, hb, pg, nrb, by omega, hne, fun es' H' hb' pg' hl' hn' => q es' H' hb' pg' hn' (by omega)⟩
      · refine ⟨_, rfl, rfl, _, rfl, iteB (α := True) (fun _ => ?_) (fun _ => q es H hb pg hne hl)⟩
        exact ⟨_, rfl, _, rfl, _, rfl, b, ra, m, es, rfl, hb, pg, nrb, by omega, hne, fun es' H' hb' pg' hl' hn' => q es' H' hb' pg' hn' (by omega)⟩
    case ifc =>
      rintro D σ H ⟨sh, v3, v5, v6, v7, y8, y9, ra, es, rfl, hb, pg, nrb, hne, hl, q⟩
      refine ⟨_, rfl, rfl, _, rfl, iteB (α := True) (fun _ => ?_) (fun _ => q es H hb pg hne (by omega))⟩
      exact ⟨_, rfl, _, rfl, _, rfl, b, ra, m, es, rfl, hb, pg, nrb, by omega, hne, fun es' H' hb' pg' hl' hn' => q es' H' hb' pg' hn' (by omega)⟩
    intro sh v3 v7 y8 y9 ra wa ca es cl ws M n k H1 L hne hn
    obtain ⟨d1, d2, d3, d4, d5⟩ := L.d
    have hl := L.len
    refine ⟨sh, v3, _, v7, y8, y9, ra, ca, es, cl, rfl, L.bag, L.pg.less fun d hd => .inl (by rw [List.mem_singleton.mp hd]; exact List.mem_cons_self), L.clo, d1, hne, by omega, fun es2 H2 hb2 pg2 hne2 hl2 => ?_⟩
    refine ⟨sh, v3, _, _, v7, y8, y9, ra, es2, rfl, hb2, pg2, d1, hne2, hl2, fun es3 H3 hb3 pg3 hne3 hl3 => ?_⟩
    refine ⟨sh, v3, _, _, v7, y8, y9, ra, es3, rfl, hb3, pg3, d1, hne3, hl3, fun es4 H4 hb4 pg4 hne4 hl4 => ?_⟩
    have fin : ∀ H', Stp b H4 H' → Q (.ref ra) H' := fun H' st => by
      have pg' := pg4.keep (H' := H') (fun a o ha h => st.keep a o (fun z => ha (by rw [z]; exact List.mem_cons_self)) h) (fun h => d1 (List.mem_singleton.mp h))
      exact q ra es4 H' ⟨pg'.at_, pg'.row, fun e he => ⟨by have := (pg'.sz e he).1; omega, (pg'.sz e he).2⟩, hne4, by omega, .inl pg'.ok⟩
    refine ⟨_, rfl, b, 10, rfl, hb4, by decide, by decide, fun r H5 r0 r1 st5 => ⟨rfl, _, rfl, iteB (α := True) (fun _ => ?_) (fun _ => iteF ⟨_, rfl, fin H5 st5⟩)⟩⟩
    refine ⟨_, rfl, m, rfl, ?_⟩
    cases hm : m with
    | true => subst hm; exact iteF ⟨_, rfl, fin H5 st5⟩
    | false =>
      subst hm
      refine iteT ?_
      have pg5 := pg4.keep (H' := H5) (fun a o ha h => st5.keep a o (fun z => ha (by rw [z]; exact List.mem_cons_self)) h) (fun h => d1 (List.mem_singleton.mp h))
      have hlen : (es4.map fun e => V.ref e.a).length = es4.length := List.length_map _
      have hp := List.length_pos_iff.mpr hne4
      refine ⟨_, rfl, _, rfl, _, rfl, ra, _, rfl, .inl (SqL.of pg5.at_), b, (es4.length : Int), by rw [hlen]; rfl, st5.b1, by omega, by omega, fun r H6 r0 r1 st6 => ?_⟩
      have pg6 := pg5.keep (H' := H6) (fun a o ha h => st6.keep a o (fun z => ha (by rw [z]; exact List.mem_cons_self)) h) (fun h => d1 (List.mem_singleton.mp h))
      obtain ⟨j, rfl⟩ : ∃ k : Nat, r = (k : Int) := ⟨r.toNat, by omega⟩
      have hj : j < es4.length := by omega
      have gj := List.getElem?_eq_getElem hj
      generalize es4[j]'_ = e at gj
      refine ⟨ra, _, _, .ref e.a, rfl, rfl, SqL.of pg6.at_, atI_nat (by rw [List.getElem?_map, gj]; rfl), ?_⟩
      have he := List.mem_of_getElem? gj
      have hrow6 := pg6.row e he
      have hsz := pg6.sz e he
      refine ⟨_, rfl, _, rfl, e.a, _, 0, _, rfl, rfl, SqL.of hrow6.at_, rfl, _, rfl, by rw [S_len]; omega, _, _, rfl, rfl, b, (e.r.txt.length : Nat) + 1, by rw [S_len]; rfl, st6.b1, by omega, by omega, fun r H7 r0 r1 st7 => ?_⟩
      obtain ⟨k, rfl⟩ : ∃ k : Nat, r = (k : Int) := ⟨r.toNat, by omega⟩
      have pg7 := pg6.keep (H' := H7) (fun a o ha h => st7.keep a o (fun z => ha (by rw [z]; exact List.mem_cons_self)) h) (fun h => d1 (List.mem_singleton.mp h))
      have hrow7 := pg7.row e he
      refine ⟨_, rfl, e.a, _, 0, _, rfl, rfl, SqL.of hrow7.at_, rfl, _, rfl, (k : Int), rfl, _, rfl, by rw [S_len]; omega, ?_⟩
      rw [cut_0]
      refine ⟨_, _, rfl, rfl, by rw [z.2.2, S_len, S_len, List.length_take]; show _ + 1 ≤ _; omega, ?_⟩
      rw [z.2.2, S_cat]
      refine ⟨_, rfl, e.a, _, 0, _, rfl, rfl, SqL.of hrow7.at_, rfl, _, rfl, (k : Int), rfl, _, rfl, by rw [S_len]; omega, ?_⟩
      rw [cut_n]
      refine ⟨_, _, rfl, rfl, by rw [S_len, S_len, List.length_append, List.length_take, List.length_drop]; show _ + 1 + _ ≤ _; omega, ?_⟩
      rw [S_cat]
      refine ⟨_, rfl, e.a, _, 0, 0, rfl, rfl, hrow7.at_, rfl, ?_⟩
      generalize hH8 : upd H7 e.a _ = H8
      have k8 : ∀ a o, a ≠ e.a → H7 a = some o → H8 a = some o := fun a o n h => by rw [← hH8, upd_ne n]; exact h
      have r8 : RowA H8 ⟨e.a, e.pl, e.pa, ⟨e.r.txt.take k ++ [9] ++ e.r.txt.drop k, e.r.ps⟩⟩ := ⟨by rw [← hH8]; exact upd_same, k8 _ _ hrow7.a_pl.symm hrow7.pl, hrow7.len, fun i p h => by
        obtain ⟨y, h1, h2⟩ := hrow7.ps i p h
        exact ⟨y, h1, k8 _ _ (hrow7.pa_ne (List.mem_of_getElem? h1)).1 h2⟩, hrow7.nd⟩
      obtain ⟨w1, w2, w3⟩ := pg7.setRow (e' := ⟨e.a, e.pl, e.pa, ⟨e.r.txt.take k ++ [9] ++ e.r.txt.drop k, e.r.ps⟩⟩) gj rfl rfl r8 (fun a o h1 h2 => k8 a o (fun z => h1 (by rw [z]; exact List.mem_cons_self)) h2)
      have hlt : (e.r.txt.take k ++ [9] ++ e.r.txt.drop k).length ≤ 2100 := by rw [List.length_append, List.length_append, List.length_take, List.length_drop]; show _ + 1 + _ ≤ _; omega
      refine ⟨_, rfl, q ra _ H8 ⟨w1, w2, fun y hy => ?_, fun z => ?_, by rw [List.length_set]; omega, .inr ⟨fun y hy c hc => ?_, ?_⟩⟩⟩
      · rcases w3 y hy with h | h
        · rw [h]; exact ⟨hlt, hsz.2⟩
        · have := pg7.sz y h; exact ⟨by omega, this.2⟩
      · have := congrArg List.length z
        rw [List.length_set] at this
        exact hne4 (List.length_eq_zero_iff.mp this)
      · rcases w3 y hy with h | h
        · rw [h] at hc
          have hro := List.all_eq_true.mp (pg7.ok e he).row
          rcases List.mem_append.mp hc with h | h
          · rcases List.mem_append.mp h with h | h
            · exact .inl (hro c (List.mem_of_mem_take h))
            · exact .inr (List.mem_singleton.mp h)
          · exact .inl (hro c (List.mem_of_mem_drop h))
        · exact .inl (List.all_eq_true.mp (pg7.ok y h).row c hc)
      · exact ⟨_, List.mem_of_getElem? (i := j) (by rw [List.getElem?_set_self hj]), List.mem_append_left _ (List.mem_append_right _ List.mem_cons_self)⟩
  have five : 5 ≤ sizeLine := by omega
  refine ⟨_, pss_cons (ps_set (i := 2) sc__law_page.nd rfl (.inl rfl) (pcall Ot hr (pa_cons (pv 0) (pa_cons pe_int pa_nil)))) (pss_cons (ps_set (i := 3) sc__law_page.nd rfl (.inl rfl) (pe_ix ix_list (pe_lst (pa_cons pe_int (pa_cons pe_int (pa_cons pe_int (pa_cons pe_int pa_nil))))) (pcall Ot hr (pa_cons (pv 0) (pa_cons pe_int pa_nil))) (fun _ _ => rfl))) (pss_cons
    (PS.of (t' := fun D σ H => ∃ (sh be : Int), 0 ≤ be ∧ be ≤ 40 ∧ σ = [some (.ref b), some (.bl m), some (.int sh), some (.int be), none, none, none, none, none, none, none, none] ∧ ∀ be : Int, 0 ≤ be → be ≤ 40 → D.nx [some (.ref b), some (.bl m), some (.int sh), some (.int be), none, none, none, none, none, none, none, none] H)
      (ps_if (pt_cmpR op_lt (pv 2) pe_int (nomark _)) (pss_one (ps_set (i := 3) sc__law_page.nd rfl (.inl rfl) pe_int)) pss_nil) ?if0)
    (pss_cons (ps_set (i := 4) sc__law_page.nd rfl (.inl rfl) (pe_lst pa_nil)) (pss_cons (ps_set (i := 5) sc__law_page.nd rfl (.inl rfl) (pe_lst (pa_cons pe_int pa_nil))) (pss_cons (ps_set (i := 6) sc__law_page.nd rfl (.inl rfl) (pe_lst pa_nil)) (pss_cons (ps_set (i := 7) sc__law_page.nd rfl (.inl rfl) (pe_op op_add pe_int (pcall Ot hr (pa_cons (pv 0) (pa_cons pe_int pa_nil))))) (pss_cons
    (PS.of (t' := fun D σ H => ∃ (sh : Int) (v3 v4 v5 v6 : V) (mn : Int), 1 ≤ mn ∧ mn ≤ 13 ∧ σ = [some (.ref b), some (.bl m), some (.int sh), some v3, some v4, some v5, some v6, some (.int mn), none, none, none, none] ∧ Bag H b ∧ ∀ (mn : Int) H', 1 ≤ mn → mn ≤ 13 → Stp b H H' → D.nx [some (.ref b), some (.bl m), some (.int sh), some v3, some v4, some v5, some v6, some (.int mn), none, none, none, none] H')
      (ps_if (pt_cmpR op_eq (pv 2) pe_int (nomark _)) (pss_one (ps_set (i := 7) sc__law_page.nd rfl (.inl rfl) (pe_op op_add pe_int (pcall Ot hr (pa_cons (pv 0) (pa_cons pe_int pa_nil)))))) pss_nil) ?if1)
    (pss_cons (ps_for PassesOwn.never rfl (pi_range1 rfl T.z_range (pa_cons (pv 7) pa_nil)) (pg_name (i := 8) sc__law_page.nd rfl (Or.inl rfl)) (pss_cons (PS.of (t' := fun D σ H => ∃ (sh be mn tu : Int) (ra wa ca : Addr) (es : List RE) (cl : List (List Nat)) (ws : List Nat) (M n k : Nat) (y9 : Option V), σ = [some (.ref b), some (.bl m), some (.int sh), some (.int be), some (.ref ra), some (.ref wa), some (.ref ca), some (.int mn), some (.int tu), y9, none, none] ∧ PL m b ra ca wa H es cl ws M n k ∧ n ≤ 100 ∧
          ∀ es' H', PL m b ra ca wa H' es' cl ws M (n + 1) k → D.nx [some (.ref b), some (.bl m), some (.int sh), some (.int be), some (.ref ra), some (.ref wa), some (.ref ca), some (.int mn), some (.int tu), y9, none, none] H')
        (ps_if (pt_cmpR op_eq (pcall Ot hr (pa_cons (pv 0) (pa_cons pe_int pa_nil))) pe_int (nomark _)) (pss_one (ps_expr (pe_bm PySem.F.plainAttrs_list PySem.F.slot_list_append PySem.F.type_list_append mt_append (pv 4) (pa_cons (pe_lst (pa_cons (pe_op op_add_str (pe_op op_mulS pe_str (pcall Ot hr (pa_cons (pv 0) (pa_cons pe_int pa_nil)))) (pe_op op_mulS pe_str (pcall Ot hr (pa_cons (pv 0) (pa_cons pe_int pa_nil))))) (pa_cons (pe_lst pa_nil) pa_nil))) pa_nil)))) pss_nil) ?if2)
      (pss_cons (ps_set (i := 9) sc__law_page.nd rfl (.inl rfl) (pcall Ot hr (pa_cons (pv 0) (pa_cons pe_int pa_nil))))
      (pss_cons (PS.of (t' := fun D σ H => ∃ (sh be mn : Int) (i r : Nat) (ra wa ca : Addr) (es : List RE) (cl : List (List Nat)) (ws : List Nat) (n k : Nat), σ = [some (.ref b), some (.bl m), some (.int sh), some (.int be), some (.ref ra), some (.ref wa), some (.ref ca), some (.int mn), some (.int (i : Nat)), some (.int (r : Nat)), none, none] ∧ PL m b ra ca wa H es cl ws (8 + 3 * (i - 1)) n k ∧ 0 ≤ be ∧ be ≤ 40 ∧ r ≤ 8 ∧ i ≤ 12 ∧
          ∀ (wa' : Addr) (ws' : List Nat) (wv : Nat) H', PL m b ra ca wa' H' es cl ws' (8 + 3 * i) n k → wv ≤ 44 → D.nx [some (.ref b), some (.bl m), some (.int sh), some (.int be), some (.ref ra), some (.ref wa'), some (.ref ca), some (.int mn), some (.int (i : Nat)), some (.int (wv : Nat)), none, none] H')
        (ps_if (pt_cmpR op_eq (pv 8) pe_int (nomark _)) (pss_cons (ps_set (i := 9) sc__law_page.nd rfl (.inl rfl) (pe_op op_mul (pe_op op_mul (pe_op op_fdiv (pv 9) pe_int) (pe_op op_sub pe_int (pe_callTy call_int1 (by rfl) T.z_int PyProof.Rows.boot_int (pa_cons (pv 1) pa_nil)))) (pe_callB (call_min2 rfl) (by rfl) T.z_min (by decide +kernel) (pa_cons (pv 3) (pa_cons pe_int pa_nil)))))
      (pss_one (ps_set (i := 5) sc__law_page.nd rfl (.inl rfl) (pe_lst (pa_cons (pv 9) pa_nil))))) (pss_one (ps_if (pt_cmpR (op_eqD hr.units) (pv 6) (pe_lst pa_nil) (nomark _)) (pss_one (ps_set (i := 9) sc__law_page.nd rfl (.inl rfl) (pcall Ow hr (pa_cons (pv 0) (pa_cons (pv 5) (pa_cons (pv 3) (pa_cons (pv 1) (pa_cons (pe_cmpR op_eq (pv 2) pe_int (nomark _)) pa_nil)))))))) pss_nil))) ?if3)
      (pss_one (ps_expr (pe_bm PySem.F.plainAttrs_list PySem.F.slot_list_append PySem.F.type_list_append mt_append (pv 4) (pa_cons (pcall Or_ hr (pa_cons (pv 0) (pa_cons (pv 9) (pa_cons (pv 3) (pa_cons (pv 1) (pa_cons (pv 6) (pa_cons (pe_cmpR op_eq (pv 8) (pe_op op_sub (pv 7) pe_int) (nomark _)) pa_nil))))))) pa_nil)))))))) ht)))))))), ?_⟩
  case if0 =>
    rintro D σ H ⟨sh, be, b0, b1, rfl, q⟩
    exact ⟨_, rfl, _, _, rfl, rfl, _, rfl, iteB (α := True) (fun _ => q 0 (by decide) (by decide)) (fun _ => q be b0 b1)⟩
  case if1 =>
    rintro D σ H ⟨sh, v3, v4, v5, v6, mn, m0, m1, rfl, hb, q⟩
    refine ⟨_, rfl, rfl, _, rfl, iteB (α := True) (fun _ => ?_) (fun _ => q mn H m0 m1 (Stp.refl hb))⟩
    exact ⟨_, rfl, b, 4, rfl, hb, by decide, by decide, fun r H1 r0 r1 st => ⟨_, _, rfl, rfl, q (10 + r) H1 (by omega) (by omega) st⟩⟩
  case if2 =>
    rintro D σ H ⟨sh, be, mn, tu, ra, wa, ca, es, cl, ws, M, n, k, y9, rfl, L, hn, q⟩
    have up : ∀ {H'}, PL m b ra ca wa H' es cl ws M n k → PL m b ra ca wa H' es cl ws M (n + 1) k := fun x => ⟨x.bag, x.pg, x.clo, x.cll, x.wat, x.W, by have := x.len; omega, x.d⟩
    refine ⟨_, rfl, b, 5, rfl, L.bag, by decide, by decide, fun r H1 r0 r1 st => ⟨rfl, _, rfl, iteB (α := True) (fun _ => ?_) (fun _ => q es H1 (up (L.stp st)))⟩⟩
    have L1 := L.stp st
    refine ⟨_, rfl, .inl ⟨rfl, _, SqL.of L1.pg.at_⟩, ?_⟩
    refine ⟨_, rfl, b, 5, rfl, L1.bag, by decide, by decide, fun r H2 r0 r1 st2 => ⟨_, _, rfl, rfl, mul_ok (by decide +kernel) (by omega) (by omega), ?_⟩⟩
    obtain ⟨k1, rfl⟩ : ∃ k : Nat, r = (k : Int) := ⟨r.toNat, by omega⟩
    rw [z.1, mulC]
    refine ⟨_, rfl, b, 2, rfl, st2.b1, by decide, by decide, fun r H3 r0 r1 st3 => ⟨_, _, rfl, rfl, mul_ok (by decide +kernel) (by omega) (by omega), ?_⟩⟩
    obtain ⟨k2, rfl⟩ : ∃ k : Nat, r = (k : Int) := ⟨r.toNat, by omega⟩
    rw [z.2.1, mulC]
    refine ⟨_, _, rfl, rfl, by rw [S_len, S_len, List.length_replicate, List.length_replicate]; omega, ?_⟩
    rw [S_cat]
    have L3 := (L1.stp st2).stp st3
    refine ⟨by show 0 ≤ sizeLine; omega, fun p hp => ⟨by show 2 ≤ sizeLine; omega, fun a ha => ?_⟩⟩
    generalize hH5 : upd (upd H3 p _) a _ = H5
    have s5 : Same H3 H5 := by rw [← hH5]; exact (same_new hp _).trans (same_new ha _)
    have a0 : H3 a = none := (same_new hp _).free ha
    have nap : a ≠ p := fun z => by rw [z, upd_same] at ha; cases ha
    obtain ⟨d1, d2, d3, d4, d5⟩ := L3.d
    obtain ⟨b1, b2, b3, b4, b5⟩ := L3.pg.blank (tx := spn k1 ++ List.replicate k2 35) hp a0 nap s5 (by rw [← hH5]; exact upd_same) (by rw [← hH5, upd_ne nap.symm]; exact upd_same) (by simp [d1, d2, d3]) (fun d hd => by
      rcases List.mem_cons.mp hd with h | hd
      · rw [h]; obtain ⟨_, _, _, h⟩ := L3.bag; exact ⟨_, h⟩
      rcases List.mem_cons.mp hd with h | hd
      · rw [h]; exact ⟨_, L3.clo.at_⟩
      rw [List.mem_singleton.mp hd]; exact ⟨_, L3.wat⟩)
    have L5 := L3.same s5
    have hl := L5.len
    refine ⟨ra, _, _, rfl, rfl, b2.at_, by rw [List.length_map]; omega, ?_⟩
    exact q (es ++ [⟨a, p, [], ⟨spn k1 ++ List.replicate k2 35, []⟩⟩]) _ (L5.ups (b2.push b1 (.inl ⟨rfl, k1, k2, rfl⟩) (by show (spn k1 ++ List.replicate k2 35).length ≤ 2000; rw [List.length_append, List.length_replicate, List.length_replicate]; omega) (Nat.zero_le _) b3 ⟨b4, b5⟩) (by rw [List.length_append]; show _ + 1 ≤ _; omega))
  case if3 =>
    rintro D σ H ⟨sh, be, mn, i, r, ra, wa, ca, es, cl, ws, n, k, rfl, L, be0, be1, hr8, hi, q⟩
    obtain ⟨d1, d2, d3, d4, d5⟩ := L.d
    have up : ∀ {H'}, PL m b ra ca wa H' es cl ws (8 + 3 * (i - 1)) n k → PL m b ra ca wa H' es cl ws (8 + 3 * i) n k := fun x => ⟨x.bag, x.pg, x.clo, x.cll, x.wat, ⟨x.W.ne, by have := x.W.len; omega, fun n hn => by have := x.W.le n hn; omega, x.W.z⟩, x.len, x.d⟩
    refine ⟨_, rfl, rfl, _, rfl, iteB (α := True) (fun c => ?_) (fun c => ?_)⟩
    · have hv : ∃ w0 : Nat, ((r : Int) / 8) * (1 - (if m = true then 1 else 0)) * (if (1 : Int) < be then 1 else be) = (w0 : Int) ∧ w0 ≤ 1 ∧ (m = true → w0 = 0) := by
        cases m with
        | true => exact ⟨0, by simp, by decide, fun _ => rfl⟩
        | false =>
          have h8 : (r : Int) / 8 = 0 ∨ (r : Int) / 8 = 1 := by omega
          have hbb : (if (1 : Int) < be then 1 else be) = 0 ∨ (if (1 : Int) < be then 1 else be) = 1 := by
            by_cases c : (1 : Int) < be
            · rw [if_pos c]; exact .inr rfl
            · rw [if_neg c]; omega
          rcases h8 with h | h <;> rcases hbb with h' | h' <;> rw [h, h']
          · exact ⟨0, by simp, by decide, fun _ => rfl⟩
          · exact ⟨0, by simp, by decide, fun _ => rfl⟩
          · exact ⟨0, by simp, by decide, fun _ => rfl⟩
          · exact ⟨1, by simp, by decide, fun z => by cases z⟩
      obtain ⟨w0, hv, hw1, hwm⟩ := hv
      have bnd : ∀ x : Int, 0 ≤ x → x ≤ 1 → (-(2 ^ 64) : Int) < x ∧ x < 2 ^ 64 := fun x h0 h1 => by constructor <;> omega
      refine ⟨_, rfl, _, _, rfl, rfl, ⟨by decide, by decide⟩, _, rfl, .inr ⟨m, rfl, _, _, rfl, rfl, _, _, rfl, rfl, .inl (bnd _ (by show 0 ≤ (r : Int) / 8; omega) (by show (r : Int) / 8 ≤ 1; omega)), ?_⟩⟩
      refine ⟨_, rfl, be, 1, rfl, _, _, rfl, rfl, .inr (bnd _ (by split <;> omega) (by split <;> omega)), ?_⟩
      have hV : (fun i j : Int => V.int (i * j)) ((r : Int) / 8 * (1 - (if m = true then 1 else 0))) (if (1 : Int) < be then 1 else be) = V.int (w0 : Nat) := by show V.int _ = _; rw [hv]
      rw [hV]
      refine ⟨_, rfl, by show 1 ≤ sizeLine; omega, fun wa' hwa' => ?_⟩
      have s1 := same_new hwa' (.lst [.int (w0 : Nat)])
      have hne : ∀ x o, H x = some o → x ≠ wa' := fun x o h => ne_of_none h hwa'
      obtain ⟨c1, c2, c3, hbb⟩ := L.bag
      refine q wa' [w0] w0 _ ⟨L.bag.same s1, (L.pg.keep (fun a o _ h => s1 a o h) (by simp [d1, d2, d3])).less fun d hd => ?_, L.clo.keep (s1 ca), L.cll, upd_same, ⟨(fun z => by cases z), by show 1 ≤ _; omega, fun x hx => by rw [List.mem_singleton.mp hx]; omega, fun e => by rw [hwm e]; exact List.mem_cons_self⟩, L.len, d1, d2, hne _ _ L.pg.at_, (hne _ _ hbb).symm, (hne _ _ L.clo.at_).symm⟩ (by omega)
      rcases List.mem_cons.mp hd with h | hd
      · rw [h]; exact .inl List.mem_cons_self
      rcases List.mem_cons.mp hd with h | hd
      · rw [h]; exact .inl (List.mem_cons_of_mem _ List.mem_cons_self)
      · rw [List.mem_singleton.mp hd]; exact .inr (L.pg.fresh hwa')
    · have hi0 : i ≠ 0 := fun e => c (by rw [e]; rfl)
      refine ⟨_, rfl, by show 0 ≤ sizeLine; omega, fun g hg => ?_⟩
      have s1 := same_new hg (.lst [])
      have L1 := L.same s1
      refine ⟨_, _, L1.clo.dp, .lst (SqL.of upd_same) .nil, L1.clo.shaped, by decide, _, rfl, ?_⟩
      rw [dS_nil]
      by_cases e : cl = []
      · rw [decide_eq_true e]
        refine iteT ⟨_, rfl, _, rfl, _, rfl, _, rfl, _, rfl, rfl, b, wa, be, m, _, ws, 8 + 3 * (i - 1), rfl, L1.bag, L1.wat, L1.W, d4, by omega, by omega, fun wv ws' H' hw hb' hwa' W' kp' => ?_⟩
        refine q wa ws' wv H' ⟨hb', L1.pg.keep (fun a o h => kp' a o (fun z => h (by rw [z]; exact List.mem_cons_self)) (fun z => h (by rw [z]; exact List.mem_cons_of_mem _ (List.mem_cons_of_mem _ List.mem_cons_self)))) (by simp [d1, d2, d3]), L1.clo.keep fun o h => kp' ca o (L1.clo.ne L1.bag) d5.symm h, L1.cll, hwa', by rw [show 8 + 3 * i = 8 + 3 * (i - 1) + 3 by omega]; exact W', L1.len, L1.d⟩ (by omega)
      · rw [decide_eq_false e]
        exact iteF (q wa ws r _ (up L1) (by omega))
  refine ⟨_, rfl, b, 16, rfl, hb, by decide, by decide, fun sh H1 sh0 sh1 st1 => ?_⟩
  refine ⟨by show 4 ≤ sizeLine; omega, fun g hgg => ?_⟩
  have st1' := st1.trans (Stp.new st1.b1 hgg (o := .lst [.int 40, .int 15, .int 8, .int 4]))
  refine ⟨_, rfl, b, 4, rfl, st1'.b1, by decide, by decide, fun r H2 r0 r1 st2 => ?_⟩
  have hg2 := st2.keep g _ (st1.b1.ne hgg) (upd_same (H := H1))
  obtain ⟨k, rfl⟩ : ∃ k : Nat, r = (k : Int) := ⟨r.toNat, by omega⟩
  have hbe : ∃ be : Int, ([40, 15, 8, 4] : List Int)[k]? = some be ∧ 0 ≤ be ∧ be ≤ 40 := by
    have : k = 0 ∨ k = 1 ∨ k = 2 ∨ k = 3 := by omega
    rcases this with e | e | e | e <;> subst e
    · exact ⟨40, rfl, by decide, by decide⟩
    · exact ⟨15, rfl, by decide, by decide⟩
    · exact ⟨8, rfl, by decide, by decide⟩
    · exact ⟨4, rfl, by decide, by decide⟩
  obtain ⟨be, hbe, be0, be1⟩ := hbe
  refine ⟨g, _, _, .int be, rfl, rfl, SqL.of hg2, atI_nat (by show (([40, 15, 8, 4] : List Int).map V.int)[k]? = _; rw [List.getElem?_map, hbe]; rfl), ?_⟩
  refine ⟨sh, be, be0, be1, rfl, fun be be0 be1 => ?_⟩
  have st12 := st1'.trans st2
  refine ⟨by show 0 ≤ sizeLine; omega, fun ra hra => ⟨by show 1 ≤ sizeLine; omega, fun wa hwa => ⟨by show 0 ≤ sizeLine; omega, fun ca hca => ?_⟩⟩⟩
  generalize hK1 : upd H2 ra _ = K1 at hwa hca
  have s1 : Same H2 K1 := by rw [← hK1]; exact same_new hra _
  have t1 : K1 ra = some (.lst []) := by rw [← hK1]; exact upd_same
  generalize hK2 : upd K1 wa _ = K2 at hca
  have s2 : Same K1 K2 := by rw [← hK2]; exact same_new hwa _
  have t2 : K2 wa = some (.lst (nats [0])) := by rw [← hK2]; exact upd_same
  generalize hK3 : upd K2 ca _ = K3
  have s3 : Same K2 K3 := by rw [← hK3]; exact same_new hca _
  have t3 : K3 ca = some (.lst []) := by rw [← hK3]; exact upd_same
  have L0 : PL m b ra ca wa K3 [] [] [0] 8 0 0 := by
    refine ⟨st12.b1.same (s1.trans (s2.trans s3)), ⟨s3 _ _ (s2 _ _ t1), (fun e he => by cases he), List.Pairwise.nil, (fun e he => by cases he), (fun e he => by cases he), (fun e he => by cases he)⟩, ⟨t3, (fun c hc => by cases hc), Nat.zero_le _⟩, Nat.le_refl _, s3 _ _ t2, ⟨(fun z => by cases z), by decide, by decide, fun _ => List.mem_cons_self⟩, Nat.le_refl _, st12.b1.ne hra, ?_, ?_, st12.b1.ne (s1.free hwa), ?_⟩
    · exact fun z => by rw [z] at t1; rw [s2 _ _ t1] at hca; cases hca
    · exact fun z => by rw [z] at t1; rw [t1] at hwa; cases hwa
    · exact fun z => by rw [z] at t2; rw [t2] at hca; cases hca
  refine ⟨_, rfl, b, 6, rfl, L0.bag, by decide, by decide, fun r H4 r0 r1 st4 => ⟨_, _, rfl, rfl, ?_⟩⟩
  have L4 := L0.stp st4
  refine ⟨sh, _, _, _, _, 1 + r, by omega, by omega, rfl, L4.bag, fun mn H5 mn0 mn1 st5 => ?_⟩
  have L5 := L4.stp st5
  refine ⟨_, rfl, mn, rfl, by omega, by omega, ?_⟩
  refine for_range (lo := 0) (n := mn.toNat) (fun i σ H' => ∃ (wa : Addr) (es : List RE) (cl : List (List Nat)) (ws : List Nat) (y8 y9 : Option V), σ = [some (.ref b), some (.bl m), some (.int sh), some (.int be), some (.ref ra), some (.ref wa), some (.ref ca), some (.int mn), y8, y9, none, none] ∧ PL m b ra ca wa H' es cl ws (8 + 3 * (i - 1)) (2 * i) (7 * i) ∧ (i ≠ 0 → es ≠ [])) ⟨wa, [], [], [0], none, none, rfl, L5, fun h => absurd rfl h⟩ ?_ ?_
  · rintro i σ H6 hi ⟨wa, es, cl, ws, y8, y9, rfl, L6, hne⟩
    have hi12 : i ≤ 12 := by omega
    refine ⟨sh, be, mn, 0 + (i : Int), ra, wa, ca, es, cl, ws, _, _, _, y9, rfl, L6, by omega, fun es7 H7 L7 => ?_⟩
    refine ⟨_, rfl, b, 9, rfl, L7.bag, by decide, by decide, fun r H8 r0 r1 st8 => ?_⟩
    have L8 := L7.stp st8
    obtain ⟨k, rfl⟩ : ∃ k : Nat, r = (k : Int) := ⟨r.toNat, by omega⟩
    refine ⟨sh, be, mn, i, k, ra, wa, ca, es7, cl, ws, _, _, by rw [Int.zero_add]; rfl, L8, be0, be1, by omega, hi12, fun wa' ws' wv H9 L9 hwv => ?_⟩
    refine ⟨_, rfl, .inl ⟨rfl, _, SqL.of L9.pg.at_⟩, ?_⟩
    obtain ⟨d1, d2, d3, d4, d5⟩ := L9.d
    refine ⟨_, rfl, _, rfl, _, rfl, _, rfl, _, rfl, _, rfl, _, rfl, _, _, rfl, rfl, rfl, b, ca, wv, be, m, _, cl, rfl, L9.bag, L9.clo, by have := L9.cll; omega, hwv, be0, by omega, fun e H10 cl10 R hne10 ht10 hp10 hc10 => ?_⟩
    have hc9 := L9.cll
    have pg10 : PgA m H10 ra [b, ca, wa'] es7 := L9.pg.keep (fun a o h => R.kp a o (fun z => h (by rw [z]; exact List.mem_cons_self)) (fun z => h (by rw [z]; exact List.mem_cons_of_mem _ List.mem_cons_self))) (by simp [d1, d2, d3])
    have L10 : PL m b ra ca wa' H10 es7 cl10 ws' (8 + 3 * i) (2 * i + 1) (7 * (i + 1)) := ⟨R.bag, pg10, R.cl, by omega, R.kp _ _ d4 d5 L9.wat, L9.W, L9.len, L9.d⟩
    have frl : ∀ z o, H9 z = some o → z ∉ e.F := fun z o h hz => by rw [R.fr z hz] at h; cases h
    have hl7 := L10.len
    refine ⟨ra, _, _, rfl, rfl, pg10.at_, by rw [List.length_map]; omega, ?_⟩
    refine ⟨wa', es7 ++ [e], cl10, ws', _, _, rfl, (L10.ups (n' := 2 * (i + 1)) (pg10.push R.row (.inr ⟨hne10, R.lay⟩) (by omega) hp10 (fun e' he z hz => ?_) ⟨frl ra _ L9.pg.at_, fun d hd => ?_⟩) (by rw [List.length_append]; show _ + 1 ≤ _; omega)), fun _ z => by have := congrArg List.length z; rw [List.length_append] at this; cases this⟩
    · obtain ⟨o, ho⟩ := (L9.pg.row e' he).live z hz
      exact frl z o ho
    · rcases List.mem_cons.mp hd with h | hd
      · rw [h]; exact R.ncp.2
      rcases List.mem_cons.mp hd with h | hd
      · rw [h]; exact R.ncp.1
      rw [List.mem_singleton.mp hd]; exact frl wa' _ L9.wat
  · rintro σ H6 ⟨wa, es, cl, ws, y8, y9, rfl, L6, hne⟩
    exact hg sh _ _ y8 y9 ra wa ca es cl ws _ _ _ H6 L6 (hne (by omega)) (by omega)
end
end D0
namespace D0
open PySem PySem.Spec PyProof.Rows L2 SX NumText
theorem tw_sp (g : Nat) (t : List Nat) : (spn g ++ t).takeWhile spc = spn g ++ t.takeWhile spc := by
  induction g with
  | zero => rfl
  | succ n ih =>
    show (32 :: (spn n ++ t)).takeWhile spc = 32 :: (spn n ++ t.takeWhile spc)
    rw [List.takeWhile_cons, if_pos (by decide), ih]
theorem twl_at2 {l pre t : List Nat} {g j : Nat} (h : l.drop j = spn g ++ t) : twl spc l j = j + g + (t.takeWhile spc).length := by
  unfold twl
  rw [h, tw_sp, List.length_append, List.length_replicate]; omega
theorem sf_nil (suf : List Nat) : Sf [] suf := by
  refine ⟨fun b0 c d e _ _ => ?_, fun _ _ h => absurd rfl h⟩
  have := congrArg List.length e
  rw [List.length_append] at this
  simp only [List.length_cons, List.length_nil] at this
  omega
def Chain (l : List Nat) (ln : Nat) (s0 : Sc) (j : Nat) (s : Sc) : Prop := ∃ k, k ≤ j ∧ ∀ f, runRow l ln (f + k) (twl spc l 0) s0 = runRow l ln f (twl spc l j) s
/-- the row cur stands where the scanner, begun with s0, has s; the last word is bf -/
structure Row (cur : List Nat) (ln : Nat) (s0 s : Sc) (bf : List Nat) : Prop where
  ch : ∀ suf, Sf bf suf → Chain (cur ++ suf) ln s0 cur.length s
theorem row_start (g ln : Nat) (s : Sc) : Row (spn g) ln s s [] := by
  refine ⟨fun suf _ => ⟨0, Nat.zero_le _, fun f => ?_⟩⟩
  rw [Nat.add_zero, twl_at2 (l := spn g ++ suf) (pre := []) (t := suf) (g := g) (j := 0) rfl, twl_at2 (l := spn g ++ suf) (pre := []) (t := suf) (g := 0) (j := (spn g).length) (by rw [List.drop_left]; rfl), List.length_replicate]
  congr 1
  omega
theorem TokL.head {k : Kd} {w : Wd} {sp : List Nat} (h : TokL k w sp) : ∃ c t, sp = c :: t ∧ c ≠ 32 ∧ c ≠ 35 := by
  rcases h with ⟨⟨h30, hall, c, t, e, hc⟩, _, _⟩ | ⟨⟨h40, hall, c, t, e, h48⟩, _, _⟩ | ⟨w', ⟨q, us, hq, _, e, _, hok⟩, _, _⟩ | ⟨hsg, _, _⟩
  · have := namc_ne (namc_let hc); exact ⟨c, t, e, this.1, this.2.1⟩
  · have hc : isDig c = true := by rw [e, List.all_cons, Bool.and_eq_true] at hall; exact hall.1
    have := namc_ne (dig_nam hc); exact ⟨c, t, e, this.1, this.2.1⟩
  · exact ⟨q, _, e, (quo_ne hq).2.1, (quo_ne hq).2.2.1⟩
  · obtain ⟨c, t, e, _, _, _, _, h5, h6⟩ := SG_head sp hsg
    exact ⟨c, t, e, h5, h6⟩
theorem ItOk.head {m : Bool} {it : It} (h : ItOk m it) : ∃ c t, it.sp = c :: t ∧ c ≠ 32 ∧ c ≠ 35 := by
  rcases h with ⟨_, h⟩ | ⟨n, _, _, h⟩
  · exact h.head
  · obtain ⟨c, t, e, h1, h2, _⟩ := h.hd; exact ⟨c, t, e, h1, h2⟩
/-- where the scanner comes to a piece -/
theorem row_at {cur sp suf : List Nat} {ln g : Nat} {s0 s : Sc} {bf : List Nat} (R : Row cur ln s0 s bf) (hh : ∃ c t, sp = c :: t ∧ c ≠ 32 ∧ c ≠ 35) (hg : bf = [] ∨ 1 ≤ g) :
    ∃ k, k ≤ cur.length ∧ (∀ f, runRow (cur ++ spn g ++ sp ++ suf) ln (f + k) (twl spc (cur ++ spn g ++ sp ++ suf) 0) s0 = runRow (cur ++ spn g ++ sp ++ suf) ln f (cur.length + g) s) ∧ here (cur ++ spn g ++ sp ++ suf) (cur.length + g) = true ∧ (cur ++ spn g ++ sp ++ suf).drop (cur.length + g) = sp ++ suf := by
  obtain ⟨c, t, esp, n32, n35⟩ := hh
  have hsf : Sf bf (spn g ++ (sp ++ suf)) := by
    rcases hg with h | h
    · rw [h]; exact sf_nil _
    · cases g with
      | zero => omega
      | succ n => exact sf_gap (.inr (.inl rfl))
  obtain ⟨k1, hk1, hrun⟩ := R.ch _ hsf
  have el : cur ++ spn g ++ sp ++ suf = cur ++ (spn g ++ (sp ++ suf)) := by simp
  rw [el]
  generalize hL : cur ++ (spn g ++ (sp ++ suf)) = l at *
  have hd0 : l.drop cur.length = spn g ++ (sp ++ suf) := by rw [← hL, List.drop_left]
  have hp : twl spc l cur.length = cur.length + g := by
    rw [twl_at2 (pre := []) hd0, esp, List.cons_append, List.takeWhile_cons, if_neg (by show ¬ (c == 32) = true; rw [beq_eq_false_iff_ne.mpr n32]; exact Bool.false_ne_true)]; rfl
  have hd1 : l.drop (cur.length + g) = sp ++ suf := by
    rw [← List.drop_drop, hd0]
    have := List.drop_left (l₁ := spn g) (l₂ := sp ++ suf)
    rw [List.length_replicate] at this
    exact this
  have hlen : cur.length + g < l.length := by
    rw [← hL, esp, List.length_append, List.length_append, List.length_append, List.length_replicate, List.length_cons]
    omega
  have hh : here l (cur.length + g) = true := by
    unfold here
    rw [hd1, esp, decide_eq_true hlen]
    show (true && !decide (c = 35)) = true
    rw [decide_eq_false n35]; rfl
  exact ⟨k1, hk1, fun f => by rw [hrun f, hp], hh, hd1⟩
theorem row_tok {cur : List Nat} {ln g : Nat} {s0 s s1 s2 : Sc} {bf : List Nat} {k : Kd} {w : Wd} {sp : List Nat} (R : Row cur ln s0 s bf) (hb : beg ln (cur.length + g) s = .ok s1) (hg : gatherP ⟨k, w, ln, cur.length + g + 1⟩ s1 = .ok s2) (ht : TokL k w sp) (hm : bf = [] ∨ 1 ≤ g) :
    Row (cur ++ spn g ++ sp) ln s0 { s2 with behind := cur.length + g + sp.length + 1 } sp := by
  refine ⟨fun suf hs => ?_⟩
  obtain ⟨k1, hk1, hrun, hh, hd1⟩ := row_at (suf := suf) R ht.head hm
  obtain ⟨c, t, esp, n32, n35⟩ := ht.head
  generalize cur ++ spn g ++ sp ++ suf = l at *
  have hsc := scan_tok ht hd1 hs
  have hst : stepR l ln (cur.length + g) s = .ok (twl spc l (cur.length + g + sp.length), { s2 with behind := cur.length + g + sp.length + 1 }) := by
    unfold stepR
    rw [hb]
    show tokS l ln (cur.length + g) s1 = _
    unfold tokS
    rw [hsc]
    show (gatherP ⟨k, w, ln, cur.length + g + 1⟩ s1).map _ = _
    rw [hg]; rfl
  have elen : (cur ++ spn g ++ sp).length = cur.length + g + sp.length := by rw [List.length_append, List.length_append, List.length_replicate]
  have hpos : 0 < sp.length := by rw [esp]; exact Nat.succ_pos _
  refine ⟨k1 + 1, by omega, fun f => ?_⟩
  have := hrun (f + 1)
  rw [show f + (k1 + 1) = f + 1 + k1 by omega, this, elen]
  show (if here l (cur.length + g) = true then (stepR l ln (cur.length + g) s).bind fun r => runRow l ln f r.1 r.2 else (.ok s : Except Er3 Sc)) = _
  rw [if_pos hh, hst]; rfl
/-- the row's fault -/
theorem row_err {cur sp suf : List Nat} {ln g : Nat} {s0 s : Sc} {bf : List Nat} {e : Er3} (R : Row cur ln s0 s bf) (hh : ∃ c t, sp = c :: t ∧ c ≠ 32 ∧ c ≠ 35) (hm : bf = [] ∨ 1 ≤ g) (h : stepR (cur ++ spn g ++ sp ++ suf) ln (cur.length + g) s = .error e) :
    scanRow (cur ++ spn g ++ sp ++ suf) ln s0 = .error e := by
  obtain ⟨k1, hk1, hrun, hh, hd1⟩ := row_at (suf := suf) R hh hm
  have hlen : cur.length ≤ (cur ++ spn g ++ sp ++ suf).length := by simp
  generalize cur ++ spn g ++ sp ++ suf = l at *
  unfold scanRow
  obtain ⟨f, hf⟩ : ∃ f, l.length + 1 = f + 1 + k1 := ⟨l.length - k1, by omega⟩
  rw [hf, hrun (f + 1)]
  show (if here l (cur.length + g) = true then (stepR l ln (cur.length + g) s).bind fun r => runRow l ln f r.1 r.2 else (.ok s : Except Er3 Sc)).map (fin ln) = _
  rw [if_pos hh, h]; rfl
/-- what closes a row: spaces, a comment perhaps -/
def TailL (t : List Nat) : Prop := ∃ g n, t = spn g ++ List.replicate n 35
theorem row_end {cur tl : List Nat} {ln : Nat} {s0 s : Sc} {bf : List Nat} (R : Row cur ln s0 s bf) (ht : TailL tl) : scanRow (cur ++ tl) ln s0 = .ok (fin ln s) := by
  obtain ⟨g, n, rfl⟩ := ht
  have hsf : Sf bf (spn g ++ List.replicate n 35) := by
    cases g with
    | zero =>
      cases n with
      | zero => exact sf_gap (.inl rfl)
      | succ n => exact sf_gap (.inr (.inr rfl))
    | succ n => exact sf_gap (.inr (.inl rfl))
  obtain ⟨k, hk, hrun⟩ := R.ch _ hsf
  generalize hL : cur ++ (spn g ++ List.replicate n 35) = l at *
  have hd0 : l.drop cur.length = spn g ++ List.replicate n 35 := by rw [← hL, List.drop_left]
  have hcl : cur.length ≤ l.length := by rw [← hL]; simp
  have hh : here l (twl spc l cur.length) = false := by
    rw [twl_at2 (pre := []) hd0]
    have hd1 : l.drop (cur.length + g) = List.replicate n 35 := by
      rw [← List.drop_drop, hd0]
      have := List.drop_left (l₁ := spn g) (l₂ := List.replicate n 35)
      rw [List.length_replicate] at this
      exact this
    unfold here
    cases n with
    | zero =>
      have : l.length ≤ cur.length + g := by rw [← hL]; simp
      rw [decide_eq_false (by show ¬ cur.length + g + 0 < l.length; omega)]; rfl
    | succ n =>
      have : List.takeWhile spc (List.replicate (n + 1) 35) = [] := by rw [List.replicate_succ, List.takeWhile_cons, if_neg (by decide)]
      rw [this]
      show (_ && !decide ((l.drop (cur.length + g + 0)).headD 0 = 35)) = false
      rw [Nat.add_zero, hd1, decide_eq_true (show (List.replicate (n + 1) 35).headD 0 = 35 from rfl)]
      exact Bool.and_false _
  unfold scanRow
  obtain ⟨f, hf⟩ : ∃ f, l.length + 1 = f + 1 + k := ⟨l.length - k, by omega⟩
  rw [hf, hrun (f + 1)]
  show (if here l (twl spc l cur.length) = true then _ else (.ok s : Except Er3 Sc)).map (fin ln) = _
  rw [hh, if_neg Bool.false_ne_true]; rfl
theorem blank_row {tl : List Nat} {ln : Nat} {s : Sc} (ht : TailL tl) : scanRow tl ln s = .ok (fin ln s) := row_end (row_start 0 ln s) ht
theorem scanRows_app : ∀ (a : List (List Nat)) (r : List Nat) (ln : Nat) (s s1 : Sc), scanRows a ln s = .ok s1 → scanRows (a ++ [r]) ln s = scanRow r (ln + a.length) s1
  | [], r, ln, s, s1, h => by
    cases h
    show (scanRow r ln s).bind (scanRows [] (ln + 1)) = scanRow r (ln + 0) s
    cases scanRow r ln s <;> rfl
  | x :: a, r, ln, s, s1, h => by
    have h : (scanRow x ln s).bind (scanRows a (ln + 1)) = .ok s1 := h
    show (scanRow x ln s).bind (scanRows (a ++ [r]) (ln + 1)) = _
    cases hx : scanRow x ln s with
    | error e => rw [hx] at h; cases h
    | ok s2 =>
      rw [hx] at h
      have := scanRows_app a r (ln + 1) s2 s1 h
      show scanRows (a ++ [r]) (ln + 1) s2 = _
      rw [this, List.length_cons, show ln + 1 + a.length = ln + (a.length + 1) by omega]
theorem scanRows_err : ∀ (a : List (List Nat)) (r : List Nat) (b : List (List Nat)) (ln : Nat) (s s1 : Sc) (e : Er3), scanRows a ln s = .ok s1 → scanRow r (ln + a.length) s1 = .error e → scanRows (a ++ r :: b) ln s = .error e
  | [], r, b, ln, s, s1, e, h, h2 => by
    cases h
    have h2 : scanRow r ln s = .error e := h2
    show (scanRow r ln s).bind (scanRows b (ln + 1)) = _
    rw [h2]; rfl
  | x :: a, r, b, ln, s, s1, e, h, h2 => by
    have h : (scanRow x ln s).bind (scanRows a (ln + 1)) = .ok s1 := h
    show (scanRow x ln s).bind (scanRows (a ++ r :: b) (ln + 1)) = _
    cases hx : scanRow x ln s with
    | error e => rw [hx] at h; cases h
    | ok s2 =>
      rw [hx] at h
      exact scanRows_err a r b (ln + 1) s2 s1 e h (by rw [List.length_cons, show ln + (a.length + 1) = ln + 1 + a.length by omega] at h2; exact h2)
def endAt (ps : List Pc) : Nat → Nat
  | 0 => 0
  | j + 1 => match ps[j]? with
    | some p => p.a + p.it.sp.length
    | none => 0
theorem Lay.nil_inv {m : Bool} {t : List Nat} {ps : List Pc} (h : Lay m t ps) (hp : ps = []) : ∃ w, t = spn w := by
  cases h with
  | nil w => exact ⟨w, rfl⟩
  | cons g it _ _ _ _ => exact absurd hp (fun z => by have := congrArg List.length z; rw [List.length_append] at this; cases this)
theorem endAt_app {ps qs : List Pc} : ∀ {j : Nat}, j ≤ ps.length → endAt (ps ++ qs) j = endAt ps j
  | 0, _ => rfl
  | j + 1, h => by
    show (match (ps ++ qs)[j]? with
      | some p => p.a + p.it.sp.length
      | none => 0) = match ps[j]? with
      | some p => p.a + p.it.sp.length
      | none => 0
    rw [List.getElem?_append_left h]
/-- a row cut at its piece j -/
theorem Lay.cut {m : Bool} {t : List Nat} {ps : List Pc} (h : Lay m t ps) : (t.length = endAt ps ps.length ∨ ps = []) ∧ ∀ (j : Nat) (p : Pc), ps[j]? = some p → ∃ g suf, t = t.take (endAt ps j) ++ spn g ++ p.it.sp ++ suf ∧ p.a = endAt ps j + g ∧ (t.take (endAt ps j)).length = endAt ps j ∧ (j ≠ 0 → 1 ≤ g) ∧
    ((suf = [] ∧ j + 1 = ps.length) ∨ (suf.head? = some 32 ∧ (p.it.off = none ∨ p.it.st = false))) := by
  induction h with
  | nil w => exact ⟨.inr rfl, fun j p h => by cases h⟩
  | @cons t ps g it hl ho hg1 hlast ih =>
    have eN : endAt (ps ++ [(⟨t.length + g, it⟩ : Pc)]) (ps.length + 1) = t.length + g + it.sp.length := by
      show (match (ps ++ [(⟨t.length + g, it⟩ : Pc)])[ps.length]? with
        | some p => p.a + p.it.sp.length
        | none => 0) = _
      rw [List.getElem?_append_right (Nat.le_refl _), Nat.sub_self]; rfl
    refine ⟨.inl (by rw [List.length_append (as := ps)]; show _ = endAt _ (ps.length + 1); rw [eN, List.length_append, List.length_append, List.length_replicate]), fun j p h => ?_⟩
    by_cases c : j < ps.length
    · rw [List.getElem?_append_left c] at h
      obtain ⟨gj, suf, e1, e2, e3, e4, e5⟩ := ih.2 j p h
      have hE : endAt ps j ≤ t.length := by rw [← e3, List.length_take]; exact Nat.min_le_right _ _
      rw [endAt_app (Nat.le_of_lt c)]
      have et : (t ++ spn g ++ it.sp).take (endAt ps j) = t.take (endAt ps j) := by rw [List.append_assoc, List.take_append_of_le_length hE]
      rw [et]
      refine ⟨gj, suf ++ spn g ++ it.sp, ?_, e2, e3, e4, .inr ?_⟩
      · have e1' := congrArg (fun x => x ++ spn g ++ it.sp) e1
        simpa using e1'
      · rcases e5 with ⟨h1, h2⟩ | ⟨h1, h2⟩
        · subst h1
          have hne : ps ≠ [] := fun z => by rw [z] at c; cases c
          have hgg := hg1 hne
          obtain ⟨g', rfl⟩ : ∃ g', g = g' + 1 := ⟨g - 1, by omega⟩
          refine ⟨rfl, hlast p ?_⟩
          rw [List.getLast?_eq_getElem?, ← h2]; exact h
        · cases suf with
          | nil => cases h1
          | cons d r => exact ⟨h1, h2⟩
    · have hi := (List.getElem?_eq_some_iff.mp h).1
      rw [List.length_append] at hi
      have hi : j < ps.length + 1 := hi
      have ej : j = ps.length := by omega
      subst ej
      rw [List.getElem?_append_right (Nat.le_refl _), Nat.sub_self] at h
      cases h
      rw [endAt_app (Nat.le_refl _)]
      have hlen : (ps ++ [(⟨t.length + g, it⟩ : Pc)]).length = ps.length + 1 := by rw [List.length_append]; rfl
      by_cases e : ps = []
      · obtain ⟨w, hw⟩ := hl.nil_inv e
        subst e hw
        refine ⟨w + g, [], ?_, ?_, rfl, fun z => absurd rfl z, .inl ⟨rfl, hlen.symm⟩⟩
        · show spn w ++ spn g ++ it.sp = [] ++ spn (w + g) ++ it.sp ++ []
          rw [List.replicate_append_replicate]; simp
        · show (spn w).length + g = 0 + (w + g)
          rw [List.length_replicate]; omega
      · have e1 := ih.1.resolve_right e
        rw [← e1]
        have et : (t ++ spn g ++ it.sp).take t.length = t := by rw [List.append_assoc, List.take_left]
        rw [et]
        exact ⟨g, [], by simp, rfl, rfl, fun _ => hg1 e, .inl ⟨rfl, hlen.symm⟩⟩
end D0
namespace D0
open PySem PySem.Spec PyProof.Rows L2 SX NumText
/-- the law's state: blocks, the brackets that are open (closer, row, column), the words of the line -/
structure LS where
  bs : List Nat
  pd : List (List Nat × Nat × Nat)
  mn : Nat
def clo (l : List Nat) : List Nat := if l = [40] then [41] else if l = [91] then [93] else [125]
def blkF (bs : List Nat) (w : Nat) : Option Er × List Nat :=
  if bs = [] then (if 0 < w then some .indent else none, [0])
  else if (bs.reverse.headD 0) < w then (if 11 < bs.length + 1 then some .deep else none, bs ++ [w])
  else (if (popW w bs.reverse).headD 0 < w then some .indent else none, (popW w bs.reverse).reverse)
def brkF (ln : Nat) (p : Pc) (pd : List (List Nat × Nat × Nat)) : Except Er3 (List (List Nat × Nat × Nat)) :=
  if p.it.sp ∈ OPN then .ok (pd ++ [(clo p.it.sp, ln, p.a + 1)])
  else if p.it.sp ∈ CLS then (match pd.getLast? with
    | none => .error (.token, ln, p.a + 1)
    | some q => if q.1 = p.it.sp then .ok pd.dropLast else .error (.token, ln, p.a + 1))
  else .ok pd
def blk0 (a : Nat) (s : LS) : Option Er × List Nat := if s.mn = 0 then blkF s.bs a else (none, s.bs)
def pieceF (ln : Nat) (s : LS) (p : Pc) : Except Er3 LS :=
  match (blk0 p.a s).1 with
  | some e => .error (e, ln, p.a + 1)
  | none => match p.it.off with
    | some n => .error (.token, ln, p.a + n + 1)
    | none => if 120 < s.mn + 1 then .error (.long, ln, p.a + 1) else (brkF ln p s.pd).map fun pd => ⟨(blk0 p.a s).2, pd, s.mn + 1⟩
structure Rel (s : Sc) (t : LS) : Prop where
  blk : (s.marks = [] ∧ t.bs = [] ∧ s.ind = [0]) ∨ (s.marks ≠ [] ∧ t.bs = s.ind.reverse)
  ind : Ind s.ind
  il : s.ind.length ≤ 11
  br : t.pd.reverse = s.br.map fun m => (clo (wl m.w), m.ln, m.col)
  bo : ∀ m ∈ s.br, wl m.w ∈ OPN
  mn : t.mn = s.many
  mz : s.marks = [] → s.many = 0
theorem popW_ind {w : Nat} : ∀ {l : List Nat}, l.getLast? = some 0 → (popW w l).getLast? = some 0
  | [], h => by cases h
  | t :: r, h => by
    unfold popW
    split
    · rename_i c
      cases r with
      | nil => simp at h; omega
      | cons x y => exact popW_ind (by rw [List.getLast?_cons_cons] at h; exact h)
    · exact h
theorem popW_len (w : Nat) (l : List Nat) : (popW w l).length ≤ l.length := (popW_suf w l).length_le
/-- a line begins -/
theorem beg_sim {s : Sc} {t : LS} {ln a : Nat} (R : Rel s t) :
    (∀ e, (blk0 a t).1 = some e → beg ln a s = .error (e, ln, a + 1)) ∧
    ((blk0 a t).1 = none → ∃ s1, beg ln a s = .ok s1 ∧ s1.br = s.br ∧ s1.many = s.many ∧ (blk0 a t).2 = s1.ind.reverse ∧ Ind s1.ind ∧ s1.ind.length ≤ 11 ∧
      ∃ n1 n2, s1.marks = s.marks ++ (List.replicate n1 ⟨.indent, .s [], ln, a + 1⟩ ++ List.replicate n2 (dedent ln (a + 1))) ∧ s.ind.length + n1 = s1.ind.length + n2) := by
  have hm := R.mn
  unfold blk0 beg
  by_cases h0 : s.many = 0
  · rw [hm, if_pos h0, if_pos h0]
    unfold beginLine blkF
    rw [Nat.add_sub_cancel]
    rcases R.blk with ⟨m1, b1, i1⟩ | ⟨m1, b1⟩
    · rw [b1, if_pos rfl, m1, i1]
      by_cases ha : 0 < a
      · rw [if_pos ha, if_pos (show 0 < a ∧ ([] : List Mk) = [] from ⟨ha, rfl⟩)]
        exact ⟨fun e h => by cases h; rfl, fun h => by cases h⟩
      · have ha0 : a = 0 := by omega
        subst ha0
        rw [if_neg ha, if_neg (show ¬ ((0 : Nat) < 0 ∧ ([] : List Mk) = []) from fun z => ha z.1)]
        refine ⟨(fun e h => by cases h), fun _ => ⟨s, ?_, rfl, rfl, by rw [i1]; rfl, R.ind, R.il, 0, 0, by simpa using m1, by rw [i1]⟩⟩
        show (if (0 : Nat) < 0 then _ else finish 0 ln 1 s) = _
        rw [if_neg (Nat.lt_irrefl 0)]
        unfold finish
        rw [i1]
        show (if (0 : Nat) < 0 then _ else Except.ok { s with ind := [0], marks := s.marks ++ List.replicate 0 _ }) = _
        rw [if_neg (Nat.lt_irrefl 0), List.replicate_zero, List.append_nil, ← i1]
    · have hne : s.ind ≠ [] := R.ind.ne
      have hbne : ¬ t.bs = [] := fun z => hne (by rw [b1] at z; exact List.reverse_eq_nil_iff.mp z)
      rw [if_neg hbne, if_neg (show ¬ (0 < a ∧ s.marks = []) from fun z => m1 z.2), b1, List.reverse_reverse, List.length_reverse]
      by_cases c : s.ind.headD 0 < a
      · rw [if_pos c, if_pos c]
        by_cases d : 11 < s.ind.length + 1
        · rw [if_pos d, if_pos d]
          exact ⟨fun e h => by cases h; rfl, fun h => by cases h⟩
        · rw [if_neg d, if_neg d]
          refine ⟨(fun e h => by cases h), fun _ => ?_⟩
          have hp : popW a (a :: s.ind) = a :: s.ind := by unfold popW; rw [if_neg (Nat.lt_irrefl a)]
          refine ⟨{ s with ind := a :: s.ind, marks := s.marks ++ [⟨.indent, .s [], ln, a + 1⟩] }, ?_, rfl, rfl, by show _ = (a :: s.ind).reverse; rw [List.reverse_cons], ⟨?_, by show s.ind.length + 1 ≤ 12; omega⟩, by show s.ind.length + 1 ≤ 11; omega, 1, 0, by simp, by show s.ind.length + 1 = s.ind.length + 1 + 0; rfl⟩
          · unfold finish
            show (if (popW a (a :: s.ind)).headD 0 < a then _ else _) = _
            rw [hp]
            show (if a < a then _ else _) = _
            rw [if_neg (Nat.lt_irrefl a)]
            show Except.ok { s with ind := a :: s.ind, marks := (s.marks ++ [_]) ++ List.replicate ((a :: s.ind).length - (a :: s.ind).length) _ } = _
            rw [Nat.sub_self, List.replicate_zero, List.append_nil]
          · show (a :: s.ind).getLast? = some 0
            cases hi : s.ind with
            | nil => exact absurd hi hne
            | cons x y => rw [List.getLast?_cons_cons, ← hi]; exact R.ind.1
      · rw [if_neg c, if_neg c]
        unfold finish
        have hl := popW_len a s.ind
        by_cases d : (popW a s.ind).headD 0 < a
        · rw [if_pos d, if_pos d]
          exact ⟨fun e h => by cases h; rfl, fun h => by cases h⟩
        · rw [if_neg d, if_neg d]
          refine ⟨(fun e h => by cases h), fun _ => ⟨_, rfl, rfl, rfl, rfl, ⟨popW_ind R.ind.1, by have := R.ind.2; show (popW a s.ind).length ≤ 12; omega⟩, by have := R.il; show (popW a s.ind).length ≤ 11; omega, 0, s.ind.length - (popW a s.ind).length, by simp, by show _ + 0 = (popW a s.ind).length + _; omega⟩⟩
  · rw [hm, if_neg h0, if_neg h0]
    refine ⟨(fun e h => by cases h), fun _ => ⟨s, rfl, rfl, rfl, ?_, R.ind, R.il, 0, 0, by simp, rfl⟩⟩
    rcases R.blk with ⟨m1, _⟩ | ⟨_, b1⟩
    · exact absurd (R.mz m1) h0
    · exact b1
theorem clo_inj : ∀ x ∈ OPN, ∀ c ∈ CLS, (clo x = c ↔ cloV c = some x) := by decide
theorem CLS_no : ∀ c ∈ CLS, c ∉ OPN ∧ (cloV c).isSome = true := by decide
theorem SG_plain : ∀ s ∈ SG, s ∉ OPN → s ∉ CLS → cloV s = none := by decide
theorem brk_head : ∀ s ∈ OPN ++ CLS, ∃ c t, s = c :: t ∧ letc c = false ∧ isDig c = false ∧ c ≠ 34 ∧ c ≠ 39 := by
  intro s hs
  have h : ∀ s ∈ OPN ++ CLS, s ∈ SG := by decide
  obtain ⟨c, t, e, h1, h2, h3, h4, _⟩ := SG_head s (h s hs)
  exact ⟨c, t, e, h1, h2, h3, h4⟩
theorem TokL.brk {k : Kd} {w : Wd} {sp : List Nat} (h : TokL k w sp) (hb : sp ∈ OPN ∨ sp ∈ CLS) : k = .sign ∧ w = .s sp := by
  have no : ∀ c t, sp = c :: t → (letc c = true ∨ isDig c = true ∨ c = 34 ∨ c = 39) → False := fun c t e hc => by
    obtain ⟨c', t', e', a1, a2, a3, a4⟩ := brk_head sp (hb.elim (List.mem_append_left _) (List.mem_append_right _))
    rw [e] at e'
    have : c = c' := (List.cons.inj e').1
    subst this
    rcases hc with x | x | x | x
    · rw [a1] at x; cases x
    · rw [a2] at x; cases x
    · exact a3 x
    · exact a4 x
  rcases h with ⟨⟨_, _, c, t, e, hc⟩, rfl, rfl⟩ | ⟨⟨_, hall, c, t, e, _⟩, rfl, rfl⟩ | ⟨w', ⟨q, us, hq, _, e, _, _⟩, rfl, rfl⟩ | ⟨hsg, rfl, rfl⟩
  · exact (no c t e (.inl hc)).elim
  · have hd : isDig c = true := by rw [e, List.all_cons, Bool.and_eq_true] at hall; exact hall.1
    exact (no c t e (.inr (.inl hd))).elim
  · exact (no q _ e (.inr (.inr hq))).elim
  · exact ⟨rfl, rfl⟩
/-- the brackets -/
theorem brk_sim {s1 : Sc} {pd : List (List Nat × Nat × Nat)} {ln : Nat} {p : Pc} (hb : pd.reverse = s1.br.map fun m => (clo (wl m.w), m.ln, m.col)) (ho : ∀ m ∈ s1.br, wl m.w ∈ OPN) (ht : TokL p.it.k p.it.w p.it.sp) (hm : ¬ 120 < s1.many + 1) :
    (∀ e, brkF ln p pd = .error e → gatherP ⟨p.it.k, p.it.w, ln, p.a + 1⟩ s1 = .error e) ∧
    (∀ pd', brkF ln p pd = .ok pd' → ∃ s2, gatherP ⟨p.it.k, p.it.w, ln, p.a + 1⟩ s1 = .ok s2 ∧ s2.marks = s1.marks ++ [⟨p.it.k, p.it.w, ln, p.a + 1⟩] ∧ s2.many = s1.many + 1 ∧ s2.ind = s1.ind ∧
      pd'.reverse = s2.br.map (fun m => (clo (wl m.w), m.ln, m.col)) ∧ ∀ m ∈ s2.br, wl m.w ∈ OPN) := by
  unfold brkF gatherP
  rw [if_neg hm]
  by_cases c1 : p.it.sp ∈ OPN
  · obtain ⟨hk, hw⟩ := ht.brk (.inl c1)
    rw [if_pos c1, hk, hw, if_pos (show isSg (Mk.mk Kd.sign (Wd.s p.it.sp) ln (p.a + 1)).k = true from rfl)]
    unfold matchBr
    rw [if_pos (show wl (.s p.it.sp) ∈ OPN from c1)]
    refine ⟨(fun e h => by cases h), fun pd' h => ⟨_, rfl, rfl, rfl, rfl, ?_, fun m hm => ?_⟩⟩
    · cases h
      rw [List.reverse_append, hb]; rfl
    · rcases List.mem_cons.mp hm with h | h
      · rw [h]; exact c1
      · exact ho m h
  · rw [if_neg c1]
    by_cases c2 : p.it.sp ∈ CLS
    · obtain ⟨hk, hw⟩ := ht.brk (.inr c2)
      obtain ⟨n1, n2⟩ := CLS_no _ c2
      rw [if_pos c2, hk, hw, if_pos (show isSg (Mk.mk Kd.sign (Wd.s p.it.sp) ln (p.a + 1)).k = true from rfl)]
      unfold matchBr
      rw [if_neg (show ¬ wl (.s p.it.sp) ∈ OPN from n1)]
      obtain ⟨o, hcv⟩ := Option.isSome_iff_exists.mp n2
      rw [show cloV (wl (.s p.it.sp)) = some o from hcv]
      cases hbr : s1.br with
      | nil =>
        rw [hbr] at hb
        have : pd = [] := List.reverse_eq_nil_iff.mp hb
        subst this
        exact ⟨fun e h => by cases h; rfl, fun pd' h => by cases h⟩
      | cons b r =>
        rw [hbr] at hb ho
        have hpd : pd = (r.map fun m => (clo (wl m.w), m.ln, m.col)).reverse ++ [(clo (wl b.w), b.ln, b.col)] := by
          have := congrArg List.reverse hb
          rw [List.reverse_reverse, List.map_cons, List.reverse_cons] at this
          exact this
        have hiff := clo_inj _ (ho b List.mem_cons_self) _ c2
        rw [hpd, List.getLast?_concat, List.dropLast_concat]
        show (∀ e, (if clo (wl b.w) = p.it.sp then _ else _) = _ → _) ∧ _
        by_cases c3 : clo (wl b.w) = p.it.sp
        · have h3 := hiff.mp c3
          rw [hcv] at h3
          have h3 := Option.some.inj h3
          dsimp only
          rw [if_pos c3, if_pos h3.symm]
          refine ⟨(fun e h => by cases h), fun pd' h => ⟨_, rfl, rfl, rfl, rfl, ?_, fun m hm => ho m (List.mem_cons_of_mem _ hm)⟩⟩
          cases h
          rw [List.reverse_reverse]; rfl
        · have h3 : ¬ wl b.w = o := fun z => c3 (hiff.mpr (by rw [hcv, z]))
          dsimp only
          rw [if_neg c3, if_neg h3]
          exact ⟨fun e h => by cases h; rfl, fun pd' h => by cases h⟩
    · rw [if_neg c2]
      refine ⟨(fun e h => by cases h), fun pd' h => ?_⟩
      cases h
      by_cases hk : isSg p.it.k = true
      · rw [if_pos hk]
        rcases ht with ⟨_, e, _⟩ | ⟨_, e, _⟩ | ⟨_, _, e, _⟩ | ⟨hsg, e1, e2⟩
        · rw [e] at hk; split at hk <;> cases hk
        · rw [e] at hk; cases hk
        · rw [e] at hk; cases hk
        · unfold matchBr
          rw [e2, if_neg (show ¬ wl (.s p.it.sp) ∈ OPN from c1), show cloV (wl (.s p.it.sp)) = none from SG_plain _ hsg c1 c2]
          exact ⟨_, rfl, rfl, rfl, rfl, hb, ho⟩
      · rw [if_neg hk]
        exact ⟨_, rfl, rfl, rfl, rfl, hb, ho⟩
end D0
namespace D0
open PySem PySem.Spec PyProof.Rows L2 SX NumText
def isPl : Kd → Bool
  | .name | .keyword | .number | .text | .sign => true
  | _ => false
def isNl : Kd → Bool
  | .newline => true
  | _ => false
def isIn : Kd → Bool
  | .indent => true
  | _ => false
def isDe : Kd → Bool
  | .dedent => true
  | _ => false
def isFi : Kd → Bool
  | .fin => true
  | _ => false
def cnt (f : Kd → Bool) (ms : List Mk) : Nat := ms.countP fun m => f m.k
/-- what the marks tell -/
structure GM (s : Sc) (pl : List Mk) (nl : Nat) : Prop where
  pl : s.marks.filter (fun m => isPl m.k) = pl
  nl : cnt isNl s.marks = nl
  id : cnt isIn s.marks + 1 = cnt isDe s.marks + s.ind.length
  fi : cnt isFi s.marks = 0
theorem TokL.pl {k : Kd} {w : Wd} {sp : List Nat} (h : TokL k w sp) : isPl k = true := by
  rcases h with ⟨_, rfl, _⟩ | ⟨_, rfl, _⟩ | ⟨_, _, rfl, _⟩ | ⟨_, rfl, _⟩
  · split <;> rfl
  · rfl
  · rfl
  · rfl
theorem pl_only {k : Kd} (h : isPl k = true) : isNl k = false ∧ isIn k = false ∧ isDe k = false ∧ isFi k = false := by cases k <;> first | exact ⟨rfl, rfl, rfl, rfl⟩ | cases h
def mkOf (ln : Nat) (p : Pc) : Mk := ⟨p.it.k, p.it.w, ln, p.a + 1⟩
theorem cnt_app (f : Kd → Bool) (a b : List Mk) : cnt f (a ++ b) = cnt f a + cnt f b := List.countP_append
theorem cnt_one (f : Kd → Bool) (m : Mk) : cnt f [m] = if f m.k = true then 1 else 0 := by unfold cnt; rw [List.countP_singleton]
theorem cnt_rep (f : Kd → Bool) (n : Nat) (m : Mk) : cnt f (List.replicate n m) = if f m.k = true then n else 0 := by unfold cnt; rw [List.countP_replicate]
theorem filt_rep (n : Nat) (m : Mk) (h : isPl m.k = false) : (List.replicate n m).filter (fun m => isPl m.k) = [] := by
  rw [List.filter_eq_nil_iff]
  intro x hx
  rw [(List.mem_replicate.mp hx).2, h]; exact Bool.false_ne_true
/-- a piece is scanned -/
theorem piece_ok {s : Sc} {t t' : LS} {ln : Nat} {p : Pc} {m : Bool} {pl : List Mk} {nl b : Nat} (R : Rel s t) (G : GM s pl nl) (ho : ItOk m p.it) (h : pieceF ln t p = .ok t') :
    p.it.off = none ∧ ∃ s1 s2, beg ln p.a s = .ok s1 ∧ gatherP ⟨p.it.k, p.it.w, ln, p.a + 1⟩ s1 = .ok s2 ∧ Rel { s2 with behind := b } t' ∧ GM { s2 with behind := b } (pl ++ [mkOf ln p]) nl ∧ brkF ln p t.pd = .ok t'.pd ∧ t'.mn = t.mn + 1 := by
  obtain ⟨_, hb⟩ := beg_sim (ln := ln) (a := p.a) R
  unfold pieceF at h
  split at h
  · cases h
  rename_i hblk
  split at h
  · cases h
  rename_i hoff
  split at h
  · cases h
  rename_i hmn
  have ht : TokL p.it.k p.it.w p.it.sp := by
    rcases ho with ⟨_, h⟩ | ⟨n, h, _⟩
    · exact h
    · rw [hoff] at h; cases h
  obtain ⟨s1, e1, e2, e3, e4, e5, e6, n1, n2, e7, e8⟩ := hb hblk
  have hm1 : ¬ 120 < s1.many + 1 := by rw [e3, ← R.mn]; exact hmn
  cases hbr : brkF ln p t.pd with
  | error e => rw [hbr] at h; cases h
  | ok pd =>
    rw [hbr] at h
    cases h
    obtain ⟨s2, f1, f2, f3, f4, f5, f6⟩ := (brk_sim (s1 := s1) (ln := ln) (p := p) (by rw [e2]; exact R.br) (by rw [e2]; exact R.bo) ht hm1).2 pd hbr
    have hne : s2.marks ≠ [] := by rw [f2]; exact fun z => by have := congrArg List.length z; rw [List.length_append] at this; cases this
    have hp := ht.pl
    obtain ⟨p1, p2, p3, p4⟩ := pl_only hp
    refine ⟨hoff, s1, s2, e1, f1, ⟨.inr ⟨hne, by show _ = s2.ind.reverse; rw [f4, e4]⟩, by show Ind s2.ind; rw [f4]; exact e5, by show s2.ind.length ≤ 11; rw [f4]; exact e6, f5, f6, by show t.mn + 1 = s2.many; rw [f3, e3, R.mn], fun z => absurd z hne⟩, ⟨?_, ?_, ?_, ?_⟩, rfl, rfl⟩
    · show s2.marks.filter _ = _
      rw [f2, e7, List.filter_append, List.filter_append, List.filter_append, G.pl, filt_rep n1 _ rfl, filt_rep n2 _ rfl, List.append_nil, List.append_nil]
      show _ ++ List.filter _ [_] = _
      rw [List.filter_cons, if_pos hp]; rfl
    · show cnt isNl s2.marks = nl
      rw [f2, e7, cnt_app, cnt_app, cnt_app, G.nl, cnt_rep, cnt_rep, cnt_one, p1]; rfl
    · show cnt isIn s2.marks + 1 = cnt isDe s2.marks + s2.ind.length
      have g := G.id
      rw [f2, e7, f4, cnt_app, cnt_app, cnt_app, cnt_app, cnt_app, cnt_app, cnt_rep, cnt_rep, cnt_rep, cnt_rep, cnt_one, cnt_one, p2, p3]
      show cnt isIn s.marks + (n1 + 0) + 0 + 1 = cnt isDe s.marks + (0 + n2) + 0 + s1.ind.length
      omega
    · show cnt isFi s2.marks = 0
      rw [f2, e7, cnt_app, cnt_app, cnt_app, G.fi, cnt_rep, cnt_rep, cnt_one, p4]; rfl
theorem piece_err {s : Sc} {t : LS} {ln : Nat} {p : Pc} {m : Bool} {l suf : List Nat} {e : Er3} (R : Rel s t) (ho : ItOk m p.it) (hd : l.drop p.a = p.it.sp ++ suf) (hs : Gp false suf ∨ (suf = [])) (hst : p.it.st = true → p.it.off ≠ none → suf = []) (h : pieceF ln t p = .error e) :
    stepR l ln p.a s = .error e := by
  obtain ⟨ha, hb⟩ := beg_sim (ln := ln) (a := p.a) R
  unfold pieceF at h
  unfold stepR
  split at h
  · rename_i e' hblk
    cases h
    rw [ha e' hblk]; rfl
  rename_i hblk
  obtain ⟨s1, e1, e2, e3, e4, e5, e6, n1, n2, e7, e8⟩ := hb hblk
  rw [e1]
  show tokS l ln p.a s1 = _
  unfold tokS
  rcases ho with ⟨hoff, ht⟩ | ⟨n, hoff, _, hbad⟩
  · rw [hoff] at h
    have hsf : Sf p.it.sp suf := by
      rcases hs with h | h
      · exact h.sf
      · exact sf_gap (.inl h)
    rw [scan_tok ht hd hsf]
    show (gatherP ⟨p.it.k, p.it.w, ln, p.a + 1⟩ s1).map _ = _
    dsimp only at h
    split at h
    · rename_i hm
      cases h
      unfold gatherP
      rw [if_pos (by rw [e3, ← R.mn]; exact hm)]; rfl
    · rename_i hm
      cases hbr : brkF ln p t.pd with
      | ok pd => rw [hbr] at h; cases h
      | error e' =>
        rw [hbr] at h
        cases h
        rw [(brk_sim (s1 := s1) (ln := ln) (p := p) (by rw [e2]; exact R.br) (by rw [e2]; exact R.bo) ht (by rw [e3, ← R.mn]; exact hm)).1 _ hbr]; rfl
  · rw [hoff] at h
    cases h
    have hg : Gp p.it.st suf := by
      cases hst' : p.it.st with
      | false => rcases hs with h | h
                 · exact h
                 · exact .inl h
      | true => exact .inl (hst hst' (by rw [hoff]; exact fun z => by cases z))
    rw [hbad.scan l p.a suf hd hg]; rfl
def piecesF (ln : Nat) : LS → List Pc → Except Er3 LS
  | t, [] => .ok t
  | t, p :: ps => (pieceF ln t p).bind fun t' => piecesF ln t' ps
def closeF (t : LS) : LS := ⟨t.bs, t.pd, if t.pd = [] then 0 else t.mn⟩
def rowF (ln : Nat) (t : LS) (r : LR) : Except Er3 LS := (piecesF ln t r.ps).map closeF
def rowsF : List LR → Nat → LS → Except Er3 LS
  | [], _, t => .ok t
  | r :: rs, ln, t => (rowF ln t r).bind (rowsF rs (ln + 1))
def endF (t : LS) : Except Er3 LS := match t.pd.getLast? with
  | some q => .error (.token, q.2.1, q.2.2)
  | none => .ok t
theorem pieces_sim {m : Bool} {txt : List Nat} {ps : List Pc} {ln : Nat} {s0 : Sc} (L : Lay m txt ps) (hne : ps ≠ []) : ∀ (n j : Nat) (s : Sc) (t : LS) (bf : List Nat) (pl : List Mk) (nl : Nat), ps.length - j = n → j ≤ ps.length → Row (txt.take (endAt ps j)) ln s0 s bf → (j = 0 → bf = []) → Rel s t → GM s pl nl →
    (∀ e, piecesF ln t (ps.drop j) = .error e → scanRow txt ln s0 = .error e) ∧
    (∀ t', piecesF ln t (ps.drop j) = .ok t' → ∃ s', scanRow txt ln s0 = .ok (fin ln s') ∧ Rel s' t' ∧ GM s' (pl ++ (ps.drop j).map (mkOf ln)) nl ∧ t'.mn = t.mn + (ps.length - j))
  | 0, j, s, t, bf, pl, nl, hn, hj, R, hbf, hR, hG => by
    have ej : j = ps.length := by omega
    subst ej
    rw [List.drop_length]
    have hE := L.cut.1.resolve_right hne
    rw [← hE, List.take_length] at R
    have := row_end R (tl := []) ⟨0, 0, rfl⟩
    rw [List.append_nil] at this
    refine ⟨(fun e h => by cases h), fun t' h => ?_⟩
    cases h
    exact ⟨s, this, hR, by rw [List.map_nil, List.append_nil]; exact hG, by omega⟩
  | n + 1, j, s, t, bf, pl, nl, hn, hj, R, hbf, hR, hG => by
    have hlt : j < ps.length := by omega
    have gj := List.getElem?_eq_getElem hlt
    have hdrop : ps.drop j = ps[j] :: ps.drop (j + 1) := List.drop_eq_getElem_cons hlt
    generalize ps[j] = p at gj hdrop
    rw [hdrop]
    obtain ⟨g, suf, c1, c2, c3, c4, c5⟩ := L.cut.2 j p gj
    have ho := L.ok p (List.mem_of_getElem? gj)
    have hg : bf = [] ∨ 1 ≤ g := by
      by_cases z : j = 0
      · exact .inl (hbf z)
      · exact .inr (c4 z)
    have hgp : Gp false suf := by
      rcases c5 with ⟨h, _⟩ | ⟨h, _⟩
      · exact .inl h
      · exact .inr ⟨rfl, h⟩
    have hst : p.it.st = true → p.it.off ≠ none → suf = [] := fun h1 h2 => by
      rcases c5 with ⟨h, _⟩ | ⟨_, h | h⟩
      · exact h
      · exact absurd h h2
      · rw [h1] at h; cases h
    have hpa : p.a = (txt.take (endAt ps j)).length + g := by rw [c3]; exact c2
    have hnext : txt.take (endAt ps (j + 1)) = txt.take (endAt ps j) ++ spn g ++ p.it.sp := by
      have : endAt ps (j + 1) = (txt.take (endAt ps j) ++ spn g ++ p.it.sp).length := by
        show (match ps[j]? with
          | some p => p.a + p.it.sp.length
          | none => 0) = _
        rw [gj, List.length_append, List.length_append, List.length_replicate, ← hpa]
      rw [this]
      have h9 := List.take_left (l₁ := txt.take (endAt ps j) ++ spn g ++ p.it.sp) (l₂ := suf)
      rw [← c1] at h9
      exact h9
    generalize hcur : txt.take (endAt ps j) = cur at *
    cases hp : pieceF ln t p with
    | error e =>
      have hrow := row_err (suf := suf) R ho.head hg (e := e) (by
        rw [← hpa]
        refine piece_err hR ho ?_ (.inl hgp) hst hp
        rw [hpa]
        have el : (cur ++ spn g).length = cur.length + g := by rw [List.length_append, List.length_replicate]
        rw [← el, List.append_assoc (cur ++ spn g), List.drop_left])
      rw [← c1] at hrow
      refine ⟨fun e' h => ?_, fun t' h => ?_⟩
      · have h : (pieceF ln t p).bind (fun t' => piecesF ln t' (ps.drop (j + 1))) = .error e' := h
        rw [hp] at h
        cases h
        exact hrow
      · have h : (pieceF ln t p).bind (fun t' => piecesF ln t' (ps.drop (j + 1))) = .ok t' := h
        rw [hp] at h; cases h
    | ok t1 =>
      obtain ⟨hoff, s1, s2, b1, b2, b3, b4, b5, b6⟩ := piece_ok (b := cur.length + g + p.it.sp.length + 1) hR hG ho hp
      have ht : TokL p.it.k p.it.w p.it.sp := by
        rcases ho with ⟨_, h⟩ | ⟨n, h, _⟩
        · exact h
        · rw [hoff] at h; cases h
      have R2 := row_tok (bf := bf) R (by rw [← hpa]; exact b1) (by rw [← hpa]; exact b2) ht hg
      rw [← hnext] at R2
      obtain ⟨i1, i2⟩ := pieces_sim L hne n (j + 1) _ t1 p.it.sp _ nl (by omega) (by omega) R2 (fun z => by cases z) b3 b4
      refine ⟨fun e' h => i1 e' ?_, fun t' h => ?_⟩
      · have h : (pieceF ln t p).bind (fun t' => piecesF ln t' (ps.drop (j + 1))) = .error e' := h
        rw [hp] at h; exact h
      · have h : (pieceF ln t p).bind (fun t' => piecesF ln t' (ps.drop (j + 1))) = .ok t' := h
        rw [hp] at h
        obtain ⟨s', k1, k2, k3, k4⟩ := i2 t' h
        exact ⟨s', k1, k2, by rw [List.map_cons]; rw [List.append_assoc] at k3; exact k3, by omega⟩
end D0
namespace D0
open PySem PySem.Spec PyProof.Rows L2 SX NumText
theorem spl_cons {c : Nat} (t acc : List Nat) : TL.spl [10] 0 acc (c :: t) = if c = 10 then acc :: TL.spl [10] 0 [] t else TL.spl [10] 0 (acc ++ [c]) t := by
  by_cases h : c = 10
  · subst h; rw [if_pos rfl]; rfl
  · rw [if_neg h]
    show (if TL.pre [10] (c :: t) = true then _ else _) = _
    rw [if_neg (by simp [TL.pre]; exact h)]
theorem spl_row : ∀ (r acc t : List Nat), 10 ∉ r → TL.spl [10] 0 acc (r ++ 10 :: t) = (acc ++ r) :: TL.spl [10] 0 [] t
  | [], acc, t, _ => by rw [List.nil_append, spl_cons, if_pos rfl, List.append_nil]
  | c :: r, acc, t, h => by
    rw [List.cons_append, spl_cons, if_neg (fun z => h (by rw [z]; exact List.mem_cons_self)), spl_row r (acc ++ [c]) t (fun z => h (List.mem_cons_of_mem _ z)), List.append_assoc]; rfl
theorem spl_one : ∀ (r acc : List Nat), 10 ∉ r → TL.spl [10] 0 acc r = [acc ++ r]
  | [], acc, _ => by rw [List.append_nil]; rfl
  | c :: r, acc, h => by
    rw [spl_cons, if_neg (fun z => h (by rw [z]; exact List.mem_cons_self)), spl_one r (acc ++ [c]) (fun z => h (List.mem_cons_of_mem _ z)), List.append_assoc]; rfl
theorem rowsOf_join : ∀ (rows : List (List Nat)), (∀ r ∈ rows, 10 ∉ r) → rows ≠ [] → rowsOf (TL.joinL [10] rows) = rows
  | [], _, h => absurd rfl h
  | [r], h, _ => by
    show TL.spl [10] 0 [] r = _
    rw [spl_one r [] (h r List.mem_cons_self)]; rfl
  | r :: q :: rs, h, _ => by
    have hr := h r List.mem_cons_self
    have ih := rowsOf_join (q :: rs) (fun x hx => h x (List.mem_cons_of_mem _ hx)) (fun z => by cases z)
    have : TL.joinL [10] (r :: q :: rs) = r ++ 10 :: TL.joinL [10] (q :: rs) := by
      show (r ++ ([10] ++ TL.joinL [10] (q :: rs))) = _
      simp
    rw [this]
    show TL.spl [10] 0 [] (r ++ 10 :: TL.joinL [10] (q :: rs)) = _
    rw [spl_row r [] _ hr]
    show r :: rowsOf (TL.joinL [10] (q :: rs)) = _
    rw [ih]
def sumL (rows : List (List Nat)) : Nat := (rows.map fun r => r.length + 1).sum
theorem join_len : ∀ (rows : List (List Nat)), rows ≠ [] → (TL.joinL [10] rows).length + 1 = sumL rows
  | [], h => absurd rfl h
  | [r], _ => by show r.length + 1 = r.length + 1 + 0; omega
  | r :: q :: rs, _ => by
    have ih := join_len (q :: rs) (fun z => by cases z)
    show (r ++ ([10] ++ TL.joinL [10] (q :: rs))).length + 1 = (r.length + 1) + sumL (q :: rs)
    rw [← ih, List.length_append, List.length_append]; show _ + (1 + _) + 1 = _; omega
def bal (ps : List Pc) : Int := (ps.map fun p => (if p.it.sp ∈ OPN then (1 : Int) else 0) - (if p.it.sp ∈ CLS then 1 else 0)).sum
def lnF : List LR → Int → Nat
  | [], _ => 0
  | r :: rs, d => (if r.ps ≠ [] ∧ d + bal r.ps = 0 then 1 else 0) + lnF rs (d + bal r.ps)
def dueF : List LR → Nat → List Mk
  | [], _ => []
  | r :: rs, ln => r.ps.map (mkOf ln) ++ dueF rs (ln + 1)
theorem brkF_len {ln : Nat} {p : Pc} {pd pd' : List (List Nat × Nat × Nat)} (h : brkF ln p pd = .ok pd') : (pd'.length : Int) = pd.length + ((if p.it.sp ∈ OPN then (1 : Int) else 0) - (if p.it.sp ∈ CLS then 1 else 0)) := by
  unfold brkF at h
  by_cases c1 : p.it.sp ∈ OPN
  · have c2 : p.it.sp ∉ CLS := by
      have : ∀ x ∈ OPN, x ∉ CLS := by decide
      exact this _ c1
    rw [if_pos c1] at h
    cases h
    rw [if_pos c1, if_neg c2, List.length_append]; simp
  · rw [if_neg c1] at h
    rw [if_neg c1]
    by_cases c2 : p.it.sp ∈ CLS
    · rw [if_pos c2] at h
      rw [if_pos c2]
      split at h
      · cases h
      · rename_i q hq
        split at h
        · cases h
          have hne : pd ≠ [] := fun z => by rw [z] at hq; cases hq
          have := List.length_pos_iff.mpr hne
          rw [List.length_dropLast]; omega
        · cases h
    · rw [if_neg c2] at h
      cases h
      rw [if_neg c2]; simp
theorem pieces_len {ln : Nat} : ∀ {ps : List Pc} {t t' : LS}, piecesF ln t ps = .ok t' → (t'.pd.length : Int) = t.pd.length + bal ps
  | [], t, t', h => by cases h; show _ = _ + (0 : Int); omega
  | p :: ps, t, t', h => by
    have h : (pieceF ln t p).bind (fun t' => piecesF ln t' ps) = .ok t' := h
    cases hp : pieceF ln t p with
    | error e => rw [hp] at h; cases h
    | ok t1 =>
      rw [hp] at h
      have i := pieces_len (ps := ps) h
      unfold pieceF at hp
      split at hp
      · cases hp
      split at hp
      · cases hp
      split at hp
      · cases hp
      cases hb : brkF ln p t.pd with
      | error e => rw [hb] at hp; cases hp
      | ok pd =>
        rw [hb] at hp
        cases hp
        have := brkF_len hb
        rw [i]
        show (pd.length : Int) + bal ps = t.pd.length + (((if p.it.sp ∈ OPN then (1 : Int) else 0) - (if p.it.sp ∈ CLS then 1 else 0)) + bal ps)
        rw [this, Int.add_assoc]
theorem row_sim {m : Bool} {r : LR} {ln : Nat} {s : Sc} {t : LS} {pl : List Mk} {nl : Nat} (ok : ROk m r) (hR : Rel s t) (hG : GM s pl nl) (hK : t.pd = [] → t.mn = 0) :
    (∀ e, rowF ln t r = .error e → scanRow r.txt ln s = .error e) ∧
    (∀ t', rowF ln t r = .ok t' → (t'.pd.length : Int) = t.pd.length + bal r.ps ∧ (t'.pd = [] → t'.mn = 0) ∧ ∃ s', scanRow r.txt ln s = .ok s' ∧ Rel s' t' ∧ GM s' (pl ++ r.ps.map (mkOf ln)) (nl + (if r.ps ≠ [] ∧ t'.pd = [] then 1 else 0))) := by
  have brnil : ∀ {s : Sc} {t : LS}, Rel s t → (s.br = [] ↔ t.pd = []) := fun R => by
    have := R.br
    constructor
    · intro h; rw [h] at this; exact List.reverse_eq_nil_iff.mp this
    · intro h; rw [h] at this; exact (List.map_eq_nil_iff.mp this.symm)
  unfold rowF
  rcases ok with ⟨hps, g, n, htx⟩ | ⟨hne, L⟩
  · rw [hps]
    have hr := row_end (row_start 0 ln s) (tl := r.txt) ⟨g, n, htx⟩
    have hr : scanRow r.txt ln s = .ok (fin ln s) := hr
    have hf : fin ln s = s := by
      unfold fin
      rw [if_neg]
      rintro ⟨h1, h2⟩
      have := hK ((brnil hR).mp h2)
      rw [hR.mn] at this
      omega
    rw [hf] at hr
    refine ⟨(fun e h => by cases h), fun t' h => ?_⟩
    have h : Except.ok (closeF t) = Except.ok t' := h
    cases h
    have hc : closeF t = t := by
      unfold closeF
      by_cases c : t.pd = []
      · rw [if_pos c, ← hK c]
      · rw [if_neg c]
    rw [hc]
    refine ⟨by show _ = _ + (0 : Int); omega, hK, s, hr, hR, ?_⟩
    rw [List.map_nil, List.append_nil, if_neg (fun z => z.1 rfl)]
    exact hG
  · have R0 : Row (r.txt.take (endAt r.ps 0)) ln s s [] := by
      show Row (r.txt.take 0) ln s s []
      rw [List.take_zero]; exact row_start 0 ln s
    obtain ⟨h1, h2⟩ := pieces_sim L hne _ 0 s t [] pl nl rfl (Nat.zero_le _) R0 (fun _ => rfl) hR hG
    rw [List.drop_zero] at h1 h2
    cases hp : piecesF ln t r.ps with
    | error e =>
      refine ⟨fun e' h => ?_, fun t' h => by cases h⟩
      cases h
      exact h1 e hp
    | ok t1 =>
      refine ⟨(fun e h => by cases h), fun t' h => ?_⟩
      have h : Except.ok (closeF t1) = Except.ok t' := h
      cases h
      obtain ⟨s1, k1, k2, k3, k4⟩ := h2 t1 hp
      have hlen := List.length_pos_iff.mpr hne
      have hmany : 0 < s1.many := by rw [← k2.mn]; omega
      have hmk : s1.marks ≠ [] := fun z => by have := k2.mz z; omega
      refine ⟨(show (t1.pd.length : Int) = _ from pieces_len hp), (fun z => by have z : t1.pd = [] := z; show (if t1.pd = [] then 0 else t1.mn) = 0; rw [if_pos z]), fin ln s1, k1, ?_⟩
      show Rel (fin ln s1) (closeF t1) ∧ GM (fin ln s1) _ (nl + if r.ps ≠ [] ∧ t1.pd = [] then 1 else 0)
      by_cases c : t1.pd = []
      · have hbr := (brnil k2).mpr c
        have hf : fin ln s1 = endLine ln s1 := if_pos ⟨hmany, hbr⟩
        rw [hf]
        refine ⟨⟨.inr ⟨(fun z => by have := congrArg List.length (show s1.marks ++ [_] = [] from z); rw [List.length_append] at this; cases this), ?_⟩, k2.ind, k2.il, k2.br, k2.bo, by show (if t1.pd = [] then 0 else t1.mn) = 0; rw [if_pos c], fun _ => rfl⟩, ?_, ?_, ?_, ?_⟩
        · rcases k2.blk with ⟨h, _⟩ | ⟨_, h⟩
          · exact absurd h hmk
          · exact h
        · show (s1.marks ++ [_]).filter _ = _
          rw [List.filter_append, k3.pl]
          show _ ++ List.filter _ [_] = _
          rw [List.filter_cons, if_neg (fun z => by cases z), List.filter_nil, List.append_nil]
        · show cnt isNl (s1.marks ++ [_]) = _
          rw [cnt_app, k3.nl, cnt_one, if_pos (show r.ps ≠ [] ∧ t1.pd = [] from ⟨hne, c⟩)]; rfl
        · show cnt isIn (s1.marks ++ [_]) + 1 = cnt isDe (s1.marks ++ [_]) + s1.ind.length
          rw [cnt_app, cnt_app, cnt_one, cnt_one]
          exact k3.id
        · show cnt isFi (s1.marks ++ [_]) = 0
          rw [cnt_app, k3.fi, cnt_one]; rfl
      · have hbr : s1.br ≠ [] := fun z => c ((brnil k2).mp z)
        have hf : fin ln s1 = s1 := if_neg fun z => hbr z.2
        rw [hf, if_neg (fun z => c z.2)]
        refine ⟨⟨k2.blk, k2.ind, k2.il, k2.br, k2.bo, by show (if t1.pd = [] then 0 else t1.mn) = _; rw [if_neg c]; exact k2.mn, k2.mz⟩, k3⟩
theorem rows_sim {m : Bool} : ∀ (rs : List LR) (ln : Nat) (s : Sc) (t : LS) (pl : List Mk) (nl : Nat), (∀ r ∈ rs, ROk m r) → Rel s t → GM s pl nl → (t.pd = [] → t.mn = 0) →
    (∀ e, rowsF rs ln t = .error e → scanRows (rs.map LR.txt) ln s = .error e) ∧
    (∀ t', rowsF rs ln t = .ok t' → ∃ s', scanRows (rs.map LR.txt) ln s = .ok s' ∧ Rel s' t' ∧ GM s' (pl ++ dueF rs ln) (nl + lnF rs t.pd.length))
  | [], ln, s, t, pl, nl, _, hR, hG, hK => by
    refine ⟨(fun e h => by cases h), fun t' h => ?_⟩
    cases h
    exact ⟨s, rfl, hR, by show GM s (pl ++ []) (nl + 0); rw [List.append_nil]; exact hG⟩
  | r :: rs, ln, s, t, pl, nl, ok, hR, hG, hK => by
    obtain ⟨h1, h2⟩ := row_sim (ln := ln) (ok r List.mem_cons_self) hR hG hK
    cases hr : rowF ln t r with
    | error e =>
      have e1 := h1 e hr
      refine ⟨fun e' h => ?_, fun t' h => ?_⟩
      · have h : (rowF ln t r).bind (rowsF rs (ln + 1)) = .error e' := h
        rw [hr] at h
        cases h
        show (scanRow r.txt ln s).bind (scanRows (rs.map LR.txt) (ln + 1)) = _
        rw [e1]; rfl
      · have h : (rowF ln t r).bind (rowsF rs (ln + 1)) = .ok t' := h
        rw [hr] at h; cases h
    | ok t1 =>
      obtain ⟨l1, k1, s1, e1, R1, G1⟩ := h2 t1 hr
      obtain ⟨i1, i2⟩ := rows_sim rs (ln + 1) s1 t1 _ _ (fun x hx => ok x (List.mem_cons_of_mem _ hx)) R1 G1 k1
      refine ⟨fun e' h => ?_, fun t' h => ?_⟩
      · have h : (rowF ln t r).bind (rowsF rs (ln + 1)) = .error e' := h
        rw [hr] at h
        show (scanRow r.txt ln s).bind (scanRows (rs.map LR.txt) (ln + 1)) = _
        rw [e1]; exact i1 e' h
      · have h : (rowF ln t r).bind (rowsF rs (ln + 1)) = .ok t' := h
        rw [hr] at h
        obtain ⟨s', e2, R2, G2⟩ := i2 t' h
        refine ⟨s', ?_, R2, ?_⟩
        · show (scanRow r.txt ln s).bind (scanRows (rs.map LR.txt) (ln + 1)) = _
          rw [e1]; exact e2
        · have hd : (t.pd.length : Int) + bal r.ps = t1.pd.length := l1.symm
          have hz : (t1.pd = []) ↔ ((t1.pd.length : Nat) : Int) = 0 := by
            rw [← List.length_eq_zero_iff]; omega
          show GM s' (pl ++ (r.ps.map (mkOf ln) ++ dueF rs (ln + 1))) (nl + ((if r.ps ≠ [] ∧ (t.pd.length : Int) + bal r.ps = 0 then 1 else 0) + lnF rs ((t.pd.length : Int) + bal r.ps)))
          rw [hd, ← List.append_assoc, ← Nat.add_assoc]
          have : (if r.ps ≠ [] ∧ ((t1.pd.length : Nat) : Int) = 0 then 1 else 0) = (if r.ps ≠ [] ∧ t1.pd = [] then 1 else 0) := by
            simp only [hz]
          rw [this]; exact G2
end D0
namespace D0
open PySem PySem.Spec PyProof.Rows L2 SX NumText
abbrev ls0 : LS := ⟨[], [], 0⟩
abbrev txts (rs : List LR) : List (List Nat) := rs.map LR.txt
/-- the first fault of a page -/
def faultF (rs : List LR) : Option Er3 :=
  if 6001 < sumL (txts rs) then some (.long, 1, 1) else
  match badAt (txts rs) 1 with
  | some e => some (.sign, e.1, e.2)
  | none => match longAt (txts rs) 1 with
    | some n => some (.long, n, 121)
    | none => match (rowsF rs 1 ls0).bind endF with
      | .error e => some e
      | .ok _ => none
structure Msd (rs : List LR) (ms : List Mk) : Prop where
  pl : ms.filter (fun m => isPl m.k) = dueF rs 1
  nl : cnt isNl ms = lnF rs 0
  id : cnt isIn ms = cnt isDe ms
  fi : cnt isFi ms = 1
  last : ∃ m0 m, ms = m0 ++ [m] ∧ m.k = .fin
theorem badAt_in : ∀ {rs : List (List Nat)} {n : Nat}, badAt rs n = none → ∀ r ∈ rs, rowBad r = none
  | [], _, _, r, hr => by cases hr
  | x :: rs, n, h, r, hr => by
    unfold badAt at h
    split at h
    · cases h
    · rename_i hx
      rcases List.mem_cons.mp hr with e | hr
      · rw [e]; exact hx
      · exact badAt_in h r hr
theorem rel0 : Rel sc0 ls0 := ⟨.inl ⟨rfl, rfl, rfl⟩, ⟨rfl, by decide⟩, by decide, rfl, (fun m h => by cases h), rfl, fun _ => rfl⟩
theorem gm0 : GM sc0 [] 0 := ⟨rfl, rfl, rfl, rfl⟩
theorem page_tok {m : Bool} {rs : List LR} (hne : rs ≠ []) (hch : ∀ r ∈ rs, 10 ∉ r.txt) (hok : badAt (txts rs) 1 = none → ∀ r ∈ rs, ROk m r) :
    (∀ e, faultF rs = some e → tokensP (TL.joinL [10] (txts rs)) = .error e) ∧ (faultF rs = none → ∃ ms, tokensP (TL.joinL [10] (txts rs)) = .ok ms ∧ Msd rs ms) := by
  have hne2 : txts rs ≠ [] := fun z => hne (List.map_eq_nil_iff.mp z)
  have hlen := join_len (txts rs) hne2
  have hrows := rowsOf_join (txts rs) (fun r hr => by obtain ⟨x, hx, rfl⟩ := List.mem_map.mp hr; exact hch x hx) hne2
  unfold faultF tokensP checkRows
  rw [hrows]
  by_cases c1 : 6001 < sumL (txts rs)
  · rw [if_pos c1, if_pos (show 6000 < (TL.joinL [10] (txts rs)).length by omega)]
    exact ⟨fun e h => by cases h; rfl, fun h => by cases h⟩
  rw [if_neg c1, if_neg (show ¬ 6000 < (TL.joinL [10] (txts rs)).length by omega)]
  cases hb : badAt (txts rs) 1 with
  | some e => exact ⟨fun e' h => by cases h; rfl, fun h => by cases h⟩
  | none =>
  cases hl : longAt (txts rs) 1 with
  | some n => exact ⟨fun e' h => by cases h; rfl, fun h => by cases h⟩
  | none =>
  obtain ⟨h1, h2⟩ := rows_sim rs 1 sc0 ls0 [] 0 (hok hb) rel0 gm0 (fun _ => rfl)
  dsimp only
  show (∀ e, _ → (scanRows (txts rs) 1 sc0).bind _ = _) ∧ (_ → ∃ ms, (scanRows (txts rs) 1 sc0).bind _ = _ ∧ _)
  cases hr : rowsF rs 1 ls0 with
  | error e =>
    rw [h1 e hr]
    exact ⟨fun e' h => by cases h; rfl, fun h => by cases h⟩
  | ok t =>
    obtain ⟨s, e1, R, G⟩ := h2 t hr
    rw [e1]
    show (∀ e, (match endF t with | .error e => some e | .ok _ => none) = some e → (endText s).map Sc.marks = _) ∧ ((match endF t with | .error e => some e | .ok _ => none) = none → ∃ ms, (endText s).map Sc.marks = _ ∧ _)
    have hbr := R.br
    unfold endF endText
    cases hbs : s.br with
    | cons b r =>
      rw [hbs] at hbr
      have hpd : t.pd = (r.map fun m => (clo (wl m.w), m.ln, m.col)).reverse ++ [(clo (wl b.w), b.ln, b.col)] := by
        have := congrArg List.reverse hbr
        rw [List.reverse_reverse, List.map_cons, List.reverse_cons] at this
        exact this
      rw [hpd, List.getLast?_concat]
      exact ⟨fun e' h => by cases h; rfl, fun h => by cases h⟩
    | nil =>
      rw [hbs] at hbr
      have hpd : t.pd = [] := List.reverse_eq_nil_iff.mp hbr
      rw [hpd]
      refine ⟨(fun e' h => by cases h), fun _ => ⟨_, rfl, ?_, ?_, ?_, ?_, ?_⟩⟩
      · show List.filter _ ((s.marks ++ List.replicate _ _) ++ [_]) = _
        rw [List.filter_append, List.filter_append, filt_rep _ _ rfl, G.pl, List.append_nil]
        show (dueF rs 1) ++ List.filter _ [_] = _
        rw [List.filter_cons, if_neg (fun z => by cases z), List.filter_nil, List.append_nil]
      · show cnt isNl ((s.marks ++ List.replicate _ _) ++ [_]) = _
        rw [cnt_app, cnt_app, G.nl, cnt_rep, cnt_one]
        show 0 + lnF rs 0 + 0 + 0 = _
        omega
      · show cnt isIn ((s.marks ++ List.replicate _ _) ++ [_]) = cnt isDe ((s.marks ++ List.replicate _ _) ++ [_])
        rw [cnt_app, cnt_app, cnt_app, cnt_app, cnt_rep, cnt_rep, cnt_one, cnt_one]
        show cnt isIn s.marks + 0 + 0 = cnt isDe s.marks + (s.ind.length - 1) + 0
        have := G.id
        have := List.length_pos_iff.mpr R.ind.ne
        omega
      · show cnt isFi ((s.marks ++ List.replicate _ _) ++ [_]) = 1
        rw [cnt_app, cnt_app, G.fi, cnt_rep, cnt_one]; rfl
      · exact ⟨_, _, rfl, rfl⟩
end D0
namespace D0
open PySem PySem.Spec PyProof.Rows L2 SX NumText
def dN (ns : List Nat) : List PyData := ns.map fun n => .int (n : Nat)
theorem dN_dp {K : PySem.W.Frag} {H : Hp} : ∀ ns : List Nat, DpAll K H (nats ns) (dN ns)
  | [] => .nil
  | n :: r => .cons (.int _) (dN_dp r)
theorem dN_sh : ∀ ns : List Nat, PyData.canLayAll0 (dN ns) = true ∧ PyData.depthAll (dN ns) ≤ 2
  | [] => ⟨rfl, by decide⟩
  | n :: r => by
    obtain ⟨a, b⟩ := dN_sh r
    unfold dN at a b ⊢
    refine ⟨?_, ?_⟩
    · rw [List.map_cons, PyData.canLayAll0, a, Bool.and_true, PyData.canLay0]
    · rw [List.map_cons, PyData.depthAll]
      exact Nat.max_le.mpr ⟨by show PyData.depth (.int _) ≤ 2; unfold PyData.depth; decide, b⟩
theorem dN_shaped (ns : List Nat) : SeqAt.shaped (.list (dN ns)) = true := by
  obtain ⟨a, b⟩ := dN_sh ns
  unfold SeqAt.shaped
  rw [PyData.canLay0, a, PyData.depth]
  exact decide_eq_true (by omega)
theorem dN_nil (ns : List Nat) : PyData.eqv (.list (dN ns)) (.list []) = decide (ns = []) := by
  cases ns with
  | nil => rfl
  | cons d r => rfl
def erN : Option Er → Str
  | none => Str.ofString ""
  | some e => e.nm
/-- blocks: none yet, or the first one is 0 -/
def BOk (bs : List Nat) : Prop := (bs = [] ∨ bs.reverse.getLast? = some 0) ∧ bs.length ≤ 12
def spBlk : Sp := fun vs H Q _ => ∃ (ba : Addr) (w : Nat) (bs : List Nat), vs = [.ref ba, .int (w : Nat)] ∧ H ba = some (.lst (nats bs)) ∧ BOk bs ∧
  ∀ H', H' ba = some (.lst (nats (blkF bs w).2)) → (∀ a o, a ≠ ba → H a = some o → H' a = some o) → Q (.str (erN (blkF bs w).1)) H'
theorem popW_head {w : Nat} : ∀ {l : List Nat}, ¬ w < (popW w l).headD 0
  | [] => fun h => by cases h
  | t :: r => by
    unfold popW
    split
    · exact popW_head
    · rename_i c; exact c
section
variable {P : Program} {w : World} {K : PySem.W.Frag} {mg : Str → Option Value} {base : Heap}
theorem ok__law_block_fault (T : Txt K w mg) : OkD P w K mg base CX0 1 "_law_block_fault" p__law_block_fault spBlk := by
  refine T.g__law_block_fault.ok sc__law_block_fault (fun vs H Q E h => ?_) (fun f cdv A outer s H vs Q E hr h => ?_)
  · obtain ⟨ba, w, bs, rfl, _⟩ := h; rfl
  obtain ⟨ba, w, bs, rfl, hba, ⟨hz, hl⟩, q⟩ := h
  have lim : (1100000 : Nat) ≤ sizeLine := by decide
  have hlen : ∀ l : List Nat, (nats l).length = l.length := fun l => List.length_map _
  have snoc : ∀ (t : Nat) (r : List Nat), nats (t :: r).reverse = nats r.reverse ++ [V.int (t : Nat)] := fun t r => by unfold nats; rw [List.reverse_cons, List.map_append]; rfl
  have top : ∀ (t : Nat) (r : List Nat), atI (nats (t :: r).reverse) (-1) = some (.int (t : Nat)) := fun t r => by rw [snoc]; exact atI_last _ _
  refine ⟨_, (pss_cons (ps_if (pt_cmpR (op_eqD hr.units) (pv 0) (pe_lst pa_nil) (nomark _)) (pss_cons (ps_expr (pe_bm PySem.F.plainAttrs_list PySem.F.slot_list_append PySem.F.type_list_append mt_append (pv 0) (pa_cons pe_int pa_nil)))
      (pss_one (ps_ret (pe_ifExp (pt_cmpR op_gt (pv 1) pe_int (nomark _)) pe_str pe_str)))) pss_nil)
      (pss_cons (ps_if (pt_cmpR op_gt (pv 1) (pe_ix ix_list (pv 0) (pe_un un_neg pe_int) (fun _ _ => rfl)) (nomark _)) (pss_cons (ps_expr (pe_bm PySem.F.plainAttrs_list PySem.F.slot_list_append PySem.F.type_list_append mt_append (pv 0) (pa_cons (pv 1) pa_nil)))
      (pss_one (ps_ret (pe_ifExp (pt_cmpR op_gt (pe_callB call_len_seq (by rfl) T.z_len PySem.boot_len (pa_cons (pv 0) pa_nil)) pe_int (nomark _)) pe_str pe_str)))) pss_nil)
      (pss_cons (ps_for PassesOwn.never rfl (pi_range1 rfl T.z_range (pa_cons (pe_callB call_len_seq (by rfl) T.z_len PySem.boot_len (pa_cons (pv 0) pa_nil)) pa_nil)) (pg_name (i := 2) sc__law_block_fault.nd rfl (Or.inl rfl)) (pss_one (ps_if (pt_cmpR op_gt (pe_ix ix_list (pv 0) (pe_un un_neg pe_int) (fun _ _ => rfl)) (pv 1) (nomark _)) (pss_one (ps_expr (pe_bm0 PySem.F.plainAttrs_list PySem.F.slot_list_pop PySem.F.type_list_pop mt_pop (pv 0)))) pss_nil)))
      (pss_one (ps_ret (pe_ifExp (pt_cmpR op_lt (pe_ix ix_list (pv 0) (pe_un un_neg pe_int) (fun _ _ => rfl)) (pv 1) (nomark _)) pe_str pe_str)))))), ?_⟩
  refine ⟨_, rfl, by show 0 ≤ sizeLine; omega, fun g hg => ?_⟩
  have s1 := same_new hg (.lst [])
  have h1 := s1 _ _ hba
  refine ⟨_, _, .lst (SqL.of h1) (dN_dp bs), .lst (SqL.of upd_same) .nil, dN_shaped bs, by decide, _, rfl, ?_⟩
  rw [dN_nil]
  generalize upd H g (.lst []) = H1 at h1 s1
  by_cases e : bs = []
  · rw [decide_eq_true e]
    subst e
    refine iteT ⟨_, rfl, .inl ⟨rfl, _, SqL.of h1⟩, ba, _, _, rfl, rfl, h1, by show 0 < sizeLine; omega, ?_⟩
    have kp : ∀ o a o', a ≠ ba → H a = some o' → upd H1 ba o a = some o' := fun o a o' n h => by rw [upd_ne n]; exact s1 _ _ h
    have q2 := fun o => q (upd H1 ba o)
    unfold blkF at q2
    rw [if_pos rfl] at q2
    refine ⟨_, rfl, _, _, rfl, rfl, _, rfl, iteB (α := True) (fun c => ?_) (fun c => ?_)⟩
    · have c : 0 < w := by have c : (0 : Int) < (w : Int) := c; omega
      rw [if_pos c] at q2
      exact q2 _ upd_same (kp _)
    · have c : ¬ 0 < w := fun z => c (by show (0 : Int) < (w : Int); omega)
      rw [if_neg c] at q2
      exact q2 _ upd_same (kp _)
  · rw [decide_eq_false e]
    refine iteF ?_
    obtain ⟨t, r, ebs⟩ : ∃ t r, bs = (t :: r).reverse := by
      cases h : bs.reverse with
      | nil => exact absurd (List.reverse_eq_nil_iff.mp h) e
      | cons t r => exact ⟨t, r, by rw [← h, List.reverse_reverse]⟩
    subst ebs
    have hz := hz.resolve_left e
    rw [List.reverse_reverse] at hz
    rw [List.length_reverse] at hl
    have q2 := q
    unfold blkF at q2
    rw [if_neg e, List.reverse_reverse, List.length_reverse] at q2
    refine ⟨_, rfl, _, rfl, _, rfl, ba, _, _, _, rfl, rfl, SqL.of h1, top t r, _, _, rfl, rfl, _, rfl, iteB (α := True) (fun c => ?_) (fun c => ?_)⟩
    · have c : t < w := by have c : (t : Int) < (w : Int) := c; omega
      rw [if_pos (show (t :: r).headD 0 < w from c)] at q2
      refine ⟨_, rfl, .inl ⟨rfl, _, SqL.of h1⟩, _, rfl, ba, _, _, rfl, rfl, h1, by rw [hlen, List.length_reverse]; omega, ?_⟩
      have ew : nats (t :: r).reverse ++ [V.int (w : Nat)] = nats ((t :: r).reverse ++ [w]) := by unfold nats; rw [List.map_append]; rfl
      rw [ew]
      refine ⟨_, rfl, ba, _, rfl, .inl (SqL.of upd_same), _, _, rfl, rfl, _, rfl, iteB (α := True) (fun d => ?_) (fun d => ?_)⟩
      · have d : 11 < (t :: r).length + 1 := by
          have d : (11 : Int) < ((nats ((t :: r).reverse ++ [w])).length : Nat) := d
          rw [hlen, List.length_append, List.length_reverse] at d
          have : ([w] : List Nat).length = 1 := rfl
          omega
        rw [if_pos d] at q2
        exact q2 _ upd_same (fun a o' n h => by rw [upd_ne n]; exact s1 _ _ h)
      · have d : ¬ 11 < (t :: r).length + 1 := fun z => d (by
          show (11 : Int) < ((nats ((t :: r).reverse ++ [w])).length : Nat)
          rw [hlen, List.length_append, List.length_reverse]
          have : ([w] : List Nat).length = 1 := rfl
          omega)
        rw [if_neg d] at q2
        exact q2 _ upd_same (fun a o' n h => by rw [upd_ne n]; exact s1 _ _ h)
    · have c : ¬ t < w := fun z => c (by show (t : Int) < (w : Int); omega)
      rw [if_neg (show ¬ (t :: r).headD 0 < w from c)] at q2
      refine ⟨_, rfl, ba, _, rfl, .inl (SqL.of h1), ((t :: r).length : Nat), by rw [hlen, List.length_reverse], by omega, by omega, ?_⟩
      refine for_range (lo := 0) (n := (((t :: r).length : Nat) : Int).toNat) (fun i σ H' => ∃ (l : List Nat) (y : Option V), σ = [some (.ref ba), some (.int (w : Nat)), y] ∧ H' ba = some (.lst (nats l.reverse)) ∧ l.getLast? = some 0 ∧ (l = popW w (t :: r) ∨ (popW w l = popW w (t :: r) ∧ l.length + i = (t :: r).length)) ∧ ∀ a o, a ≠ ba → H a = some o → H' a = some o) ⟨t :: r, none, rfl, h1, hz, .inr ⟨rfl, rfl⟩, fun a o _ h => s1 _ _ h⟩ ?_ ?_
      · rintro i σ H2 hi ⟨l, y, rfl, h2, hl0, hl2, kp⟩
        cases l with
        | nil => cases hl0
        | cons t2 r2 =>
        refine ⟨_, rfl, _, rfl, ba, _, _, _, rfl, rfl, SqL.of h2, top t2 r2, _, rfl, _, _, rfl, rfl, _, rfl, iteB (α := True) (fun d => ?_) (fun d => ?_)⟩
        · have d : w < t2 := by have d : (w : Int) < (t2 : Int) := d; omega
          have hr2 : r2 ≠ [] := fun z => by rw [z] at hl0; have := Option.some.inj hl0; have : t2 = 0 := this; omega
          refine ⟨_, rfl, .inl ⟨rfl, _, SqL.of h2⟩, ba, _, .int (t2 : Nat), rfl, rfl, h2, by rw [hlen, snoc, List.length_reverse, List.length_cons, Nat.add_sub_cancel, List.getElem?_append_right (by rw [hlen, List.length_reverse]; exact Nat.le_refl _), hlen, List.length_reverse, Nat.sub_self]; rfl, ?_⟩
          refine ⟨r2, _, rfl, by rw [upd_same, snoc, List.dropLast_concat], ?_, .inr ?_, fun a o n h => by rw [upd_ne n]; exact kp a o n h⟩
          · cases r2 with
            | nil => exact absurd rfl hr2
            | cons x y => rw [List.getLast?_cons_cons] at hl0; exact hl0
          · rcases hl2 with hl2 | ⟨g1, g2⟩
            · have := popW_head (w := w) (l := t :: r)
              rw [← hl2] at this
              exact absurd d this
            · refine ⟨?_, by rw [List.length_cons] at g2; omega⟩
              rw [← g1]
              show _ = popW w (t2 :: r2)
              conv => rhs; unfold popW
              rw [if_pos d]
        · have d : ¬ w < t2 := fun z => d (by show (w : Int) < (t2 : Int); omega)
          refine ⟨t2 :: r2, _, rfl, h2, hl0, .inl ?_, kp⟩
          rcases hl2 with hl2 | ⟨g1, g2⟩
          · exact hl2
          · rw [← g1]
            show _ = popW w (t2 :: r2)
            unfold popW
            rw [if_neg d]
      · rintro σ H2 ⟨l, y, rfl, h2, hl0, hl2, kp⟩
        have el : l = popW w (t :: r) := by
          rcases hl2 with h | ⟨_, h⟩
          · exact h
          · have : l.length = 0 := by rw [Int.toNat_natCast] at h; omega
            rw [List.length_eq_zero_iff.mp this] at hl0; cases hl0
        cases l with
        | nil => cases hl0
        | cons t2 r2 =>
        rw [← el] at q2
        refine ⟨_, rfl, _, rfl, ba, _, _, _, rfl, rfl, SqL.of h2, top t2 r2, _, rfl, _, _, rfl, rfl, _, rfl, iteB (α := True) (fun d => ?_) (fun d => ?_)⟩
        · have d : t2 < w := by have d : (t2 : Int) < (w : Int) := d; omega
          rw [if_pos (show (t2 :: r2).headD 0 < w from d)] at q2
          exact q2 _ h2 kp
        · have d : ¬ t2 < w := fun z => d (by show (t2 : Int) < (w : Int); omega)
          rw [if_neg (show ¬ (t2 :: r2).headD 0 < w from d)] at q2
          exact q2 _ h2 kp
end
end D0
namespace D0
open PySem PySem.Spec PyProof.Rows L2 SX NumText
theorem tab_idx {l : List Nat} (hch : ∀ c ∈ l, rowc c = true ∨ c = 9) (h : 9 ∈ l) : ∃ j rest, Builtin.Str.occurrences (S l) (S [9]) 0 (S l).length 1 = j :: rest ∧ rowBad l = some j := by
  have sub : ∀ i, StrLaws.At (S l) (S [9]) (S l).length i ↔ l[i]? = some 9 := fun i => by
    have := StrLaws.subAt_one (S l) 9 i
    unfold StrLaws.At
    have e : (S l).cps.toList = l := by simp [S]
    rw [e] at this
    exact this
  rcases StrLaws.occ_head (S l) (S [9]) 1 (Nat.le_refl _) with ⟨_, hn⟩ | ⟨j, r, h1, h2, h3⟩
  · obtain ⟨i, hi⟩ := List.mem_iff_getElem?.mp h
    exact absurd ((sub i).mpr hi) (hn i)
  · refine ⟨j, r, h1, ?_⟩
    unfold rowBad
    refine idx_at ((sub j).mp h2) rfl fun b hb => ?_
    obtain ⟨k, hk, e⟩ := List.mem_iff_getElem.mp hb
    rw [List.length_take] at hk
    rw [List.getElem_take] at e
    have hkl : k < l.length := by omega
    have hb9 : b ≠ 9 := fun z => h3 k (by omega) ((sub k).mpr (by rw [List.getElem?_eq_getElem hkl, e, z]))
    rcases hch b (by rw [← e]; exact List.getElem_mem hkl) with h | h
    · rw [h]; rfl
    · exact absurd h hb9
theorem no_tab {l : List Nat} (hch : ∀ c ∈ l, rowc c = true ∨ c = 9) (h : 9 ∉ l) : rowBad l = none := by
  unfold rowBad
  refine idx_none fun c hc => ?_
  rcases hch c hc with h' | h'
  · rw [h']; rfl
  · rw [h'] at hc; exact absurd hc h
theorem longN : ∀ {rs : List (List Nat)} {n : Nat}, (∀ r ∈ rs, r.length ≤ 120) → longAt rs n = none
  | [], _, _ => rfl
  | r :: rs, n, h => by
    unfold longAt
    have := h r List.mem_cons_self
    rw [if_neg (by omega)]; exact longN fun x hx => h x (List.mem_cons_of_mem _ hx)
theorem longA : ∀ {rs : List (List Nat)} {n j : Nat} {r : List Nat}, rs[j]? = some r → 120 < r.length → (∀ x ∈ rs.take j, x.length ≤ 120) → longAt rs n = some (n + j)
  | x :: rs, n, 0, r, h, hl, _ => by
    have : x = r := by simpa using h
    unfold longAt
    rw [this, if_pos hl]; rfl
  | x :: rs, n, j + 1, r, h, hl, ht => by
    have hx : x.length ≤ 120 := ht x (by rw [List.take_succ_cons]; exact List.mem_cons_self)
    unfold longAt
    rw [if_neg (by omega)]
    have := longA (n := n + 1) (by simpa using h) hl (fun y hy => ht y (by rw [List.take_succ_cons]; exact List.mem_cons_of_mem _ hy))
    rw [this]
    congr 1; omega
abbrev Qd := List Nat × Nat × Nat
def qv (q : Qd) : List V := [.str (S q.1), .int (q.2.1 : Nat), .int (q.2.2 : Nat)]
def dQ (q : Qd) : PyData := .list [.str (S q.1), .int (q.2.1 : Nat), .int (q.2.2 : Nat)]
/-- the open brackets stand at pa -/
structure PdA (H : Hp) (pa : Addr) (as : List Addr) (pd : List Qd) : Prop where
  at_ : H pa = some (.lst (as.map V.ref))
  len : as.length = pd.length
  el : ∀ (i : Nat) (q : Qd), pd[i]? = some q → ∃ a : Addr, as[i]? = some a ∧ H a = some (.lst (qv q))
  cls : ∀ q ∈ pd, q.1 ∈ CLS
theorem PdA.keep {H H' : Hp} {pa : Addr} {as : List Addr} {pd : List Qd} (x : PdA H pa as pd) (k : ∀ a o, (a = pa ∨ ∃ q, H a = some (.lst (qv q))) → H a = some o → H' a = some o) : PdA H' pa as pd :=
  ⟨k _ _ (.inl rfl) x.at_, x.len, fun i q h => by
    obtain ⟨a, h1, h2⟩ := x.el i q h
    exact ⟨a, h1, k _ _ (.inr ⟨q, h2⟩) h2⟩, x.cls⟩
theorem dQs_dp {K : PySem.W.Frag} {H : Hp} : ∀ {as : List Addr} {pd : List Qd}, as.length = pd.length → (∀ (i : Nat) (q : Qd), pd[i]? = some q → ∃ a : Addr, as[i]? = some a ∧ H a = some (.lst (qv q))) → DpAll K H (as.map V.ref) (pd.map dQ)
  | [], [], _, _ => .nil
  | [], p :: ps, h, _ => by cases h
  | a :: as, [], h, _ => by cases h
  | a :: as, p :: ps, h, h2 => by
    obtain ⟨x, e1, e2⟩ := h2 0 p rfl
    cases e1
    exact .cons (.lst (SqL.of e2) (.cons (.str _) (.cons (.int _) (.cons (.int _) .nil)))) (dQs_dp (Nat.succ.inj h) fun i q hq => h2 (i + 1) q hq)
theorem dQs_sh : ∀ {pd : List Qd}, (∀ q ∈ pd, q.1 ∈ CLS) → PyData.canLayAll0 (pd.map dQ) = true ∧ PyData.depthAll (pd.map dQ) ≤ 5
  | [], _ => ⟨rfl, by decide⟩
  | q :: r, h => by
    obtain ⟨a, b⟩ := dQs_sh (pd := r) fun x hx => h x (List.mem_cons_of_mem _ hx)
    have h1 := CLS_str _ (h q List.mem_cons_self)
    refine ⟨?_, ?_⟩
    · rw [List.map_cons, PyData.canLayAll0, a]
      simp only [dQ, PyData.canLay0, PyData.canLayAll0, h1, Bool.and_true]
    · rw [List.map_cons, PyData.depthAll]
      refine Nat.max_le.mpr ⟨?_, b⟩
      simp only [dQ, PyData.depth, PyData.depthAll]; omega
theorem dQs_shaped {pd : List Qd} (h : ∀ q ∈ pd, q.1 ∈ CLS) : SeqAt.shaped (.list (pd.map dQ)) = true := by
  obtain ⟨a, b⟩ := dQs_sh h
  unfold SeqAt.shaped
  rw [PyData.canLay0, a, PyData.depth]
  exact decide_eq_true (by omega)
theorem dQs_nil (pd : List Qd) : PyData.eqv (.list (pd.map dQ)) (.list []) = decide (pd = []) := by
  cases pd with
  | nil => rfl
  | cons d r => rfl
theorem PdA.dp {K : PySem.W.Frag} {H : Hp} {pa : Addr} {as : List Addr} {pd : List Qd} (x : PdA H pa as pd) : Dp K H (.ref pa) (.list (pd.map dQ)) := .lst (SqL.of x.at_) (dQs_dp x.len x.el)
theorem blkF_ok {bs : List Nat} {w : Nat} (h : (bs = [] ∨ bs.reverse.getLast? = some 0) ∧ bs.length ≤ 11) (hn : (blkF bs w).1 = none) : ((blkF bs w).2 = [] ∨ (blkF bs w).2.reverse.getLast? = some 0) ∧ (blkF bs w).2.length ≤ 11 := by
  unfold blkF at hn ⊢
  by_cases e : bs = []
  · rw [if_pos e] at hn ⊢
    exact ⟨.inr rfl, by show 1 ≤ 11; decide⟩
  · have hz := h.1.resolve_left e
    rw [if_neg e] at hn ⊢
    by_cases c : bs.reverse.headD 0 < w
    · rw [if_pos c] at hn ⊢
      by_cases d : 11 < bs.length + 1
      · rw [if_pos d] at hn; cases hn
      · refine ⟨.inr ?_, by show (bs ++ [w]).length ≤ 11; rw [List.length_append]; show _ + 1 ≤ 11; omega⟩
        show (bs ++ [w]).reverse.getLast? = some 0
        rw [List.reverse_append]
        show (w :: bs.reverse).getLast? = some 0
        cases hb : bs.reverse with
        | nil => rw [hb] at hz; cases hz
        | cons x y => rw [List.getLast?_cons_cons, ← hb]; exact hz
    · rw [if_neg c] at hn ⊢
      refine ⟨.inr ?_, ?_⟩
      · show (popW w bs.reverse).reverse.reverse.getLast? = some 0
        rw [List.reverse_reverse]; exact popW_ind hz
      · show (popW w bs.reverse).reverse.length ≤ 11
        rw [List.length_reverse]
        have := popW_len w bs.reverse
        rw [List.length_reverse] at this
        have := h.2; omega
end D0
namespace D0
open PySem PySem.Spec PyProof.Rows L2 SX NumText
abbrev rsE (es : List RE) : List LR := es.map RE.r
def erV (e : Er3) : List V := [.str e.1.nm, .int (e.2.1 : Nat), .int (e.2.2 : Nat)]
def spFirst : Sp := fun vs H Q _ => ∃ (m : Bool) (ra : Addr) (es : List RE), vs = [.ref ra] ∧ PgF m H ra es ∧ (∀ e, faultF (rsE es) = some e → ∀ H' p, Same H H' → H' p = some (.lst (erV e)) → Q (.ref p) H') ∧ (faultF (rsE es) = none → ∀ H' p, Same H H' → H' p = some (.lst []) → Q (.ref p) H')
/-- the scan's state on the heap -/
structure FS (H H' : Hp) (ba pa : Addr) (as : List Addr) (t : LS) : Prop where
  sm : Same H H'
  b : H' ba = some (.lst (nats t.bs))
  p : PdA H' pa as t.pd
  bi : (t.bs = [] ∨ t.bs.reverse.getLast? = some 0) ∧ t.bs.length ≤ 11
  d : ba ≠ pa
  fb : H ba = none
  fp : H pa = none
theorem qv_ne {H : Hp} {a : Addr} {q : Qd} {ns : List Nat} (h1 : H a = some (.lst (qv q))) (h2 : H a = some (.lst (nats ns))) : False := by
  rw [h1] at h2
  have := HO.lst.inj (Option.some.inj h2)
  cases ns with
  | nil => cases this
  | cons x y => cases (List.cons.inj this).1
theorem qv_ne2 {H : Hp} {a : Addr} {q : Qd} {as : List Addr} (h1 : H a = some (.lst (qv q))) (h2 : H a = some (.lst (as.map V.ref))) : False := by
  rw [h1] at h2
  have := HO.lst.inj (Option.some.inj h2)
  cases as with
  | nil => cases this
  | cons x y => cases (List.cons.inj this).1
theorem FS.same {H H1 H2 : Hp} {ba pa : Addr} {as : List Addr} {t : LS} (x : FS H H1 ba pa as t) (s : Same H1 H2) : FS H H2 ba pa as t :=
  ⟨x.sm.trans s, s _ _ x.b, x.p.keep (fun a o _ h => s a o h), x.bi, x.d, x.fb, x.fp⟩
theorem FS.blk {H H1 H2 : Hp} {ba pa : Addr} {as : List Addr} {t : LS} {bs : List Nat} (x : FS H H1 ba pa as t) (h : H2 ba = some (.lst (nats bs))) (k : ∀ a o, a ≠ ba → H1 a = some o → H2 a = some o) (bi : (bs = [] ∨ bs.reverse.getLast? = some 0) ∧ bs.length ≤ 11) : FS H H2 ba pa as ⟨bs, t.pd, t.mn⟩ :=
  ⟨fun a o e => k a o (ne_of_none e x.fb) (x.sm a o e), h, x.p.keep (fun a o hh e => k a o (fun z => by
    rcases hh with h' | ⟨q, h'⟩
    · exact x.d (z.symm.trans h')
    · rw [z] at h'; exact qv_ne h' x.b) e), bi, x.d, x.fb, x.fp⟩
theorem FS.push {H H1 : Hp} {ba pa u : Addr} {as : List Addr} {t : LS} {q : Qd} (x : FS H H1 ba pa as t) (hu : H1 u = some (.lst (qv q))) (hq : q.1 ∈ CLS) (mn : Nat) : FS H (upd H1 pa (.lst (as.map V.ref ++ [.ref u]))) ba pa (as ++ [u]) ⟨t.bs, t.pd ++ [q], mn⟩ := by
  have nq : ∀ {a : Addr} {q : Qd}, H1 a = some (.lst (qv q)) → a ≠ pa := fun h z => by rw [z] at h; exact qv_ne2 h x.p.at_
  refine ⟨fun a o e => by rw [upd_ne (ne_of_none e x.fp)]; exact x.sm a o e, by rw [upd_ne x.d]; exact x.b, ⟨by rw [upd_same, List.map_append]; rfl, by show (as ++ [u]).length = (t.pd ++ [q]).length; rw [List.length_append, List.length_append, x.p.len]; rfl, fun i q' h => ?_, fun q' hq' => ?_⟩, x.bi, x.d, x.fb, x.fp⟩
  · have h : (t.pd ++ [q])[i]? = some q' := h
    by_cases c : i < t.pd.length
    · rw [List.getElem?_append_left c] at h
      obtain ⟨a, h1, h2⟩ := x.p.el i q' h
      exact ⟨a, by rw [List.getElem?_append_left (by rw [x.p.len]; exact c)]; exact h1, by rw [upd_ne (nq h2)]; exact h2⟩
    · have hi := (List.getElem?_eq_some_iff.mp h).1
      rw [List.length_append] at hi
      have hi : i < t.pd.length + 1 := hi
      have ei : i = t.pd.length := by omega
      rw [ei, List.getElem?_append_right (Nat.le_refl _), Nat.sub_self] at h
      cases h
      exact ⟨u, by rw [ei, ← x.p.len, List.getElem?_append_right (Nat.le_refl _), Nat.sub_self]; rfl, by rw [upd_ne (nq hu)]; exact hu⟩
  · rcases List.mem_append.mp hq' with h | h
    · exact x.p.cls q' h
    · rw [List.mem_singleton.mp h]; exact hq
theorem FS.pop {H H1 : Hp} {ba pa : Addr} {as : List Addr} {t : LS} (x : FS H H1 ba pa as t) (mn : Nat) : FS H (upd H1 pa (.lst (as.map V.ref).dropLast)) ba pa as.dropLast ⟨t.bs, t.pd.dropLast, mn⟩ := by
  have nq : ∀ {a : Addr} {q : Qd}, H1 a = some (.lst (qv q)) → a ≠ pa := fun h z => by rw [z] at h; exact qv_ne2 h x.p.at_
  refine ⟨fun a o e => by rw [upd_ne (ne_of_none e x.fp)]; exact x.sm a o e, by rw [upd_ne x.d]; exact x.b, ⟨by rw [upd_same, List.map_dropLast], by show as.dropLast.length = t.pd.dropLast.length; rw [List.length_dropLast, List.length_dropLast, x.p.len], fun i q' h => ?_, fun q' hq' => x.p.cls q' ((List.dropLast_sublist _).subset hq')⟩, x.bi, x.d, x.fb, x.fp⟩
  have h : t.pd.dropLast[i]? = some q' := h
  have hi := (List.getElem?_eq_some_iff.mp h).1
  rw [List.length_dropLast] at hi
  rw [List.dropLast_eq_take, List.getElem?_take_of_lt hi] at h
  obtain ⟨a, h1, h2⟩ := x.p.el i q' h
  exact ⟨a, by rw [List.dropLast_eq_take, List.getElem?_take_of_lt (by rw [x.p.len]; exact hi)]; exact h1, by rw [upd_ne (nq h2)]; exact h2⟩
theorem clo_at : ∀ sp ∈ OPN, ∃ (i c : Nat), Builtin.Str.occurrences (S [40, 91, 123]) (S sp) 0 (S [40, 91, 123]).length 1 = [i] ∧ ([41, 93, 125] : List Nat)[i]? = some c ∧ [c] ∈ CLS ∧ clo sp = [c] := by
  intro sp h
  rcases List.mem_cons.mp h with h | h
  · subst h; exact ⟨0, 41, by decide +kernel, rfl, by decide, rfl⟩
  rcases List.mem_cons.mp h with h | h
  · subst h; exact ⟨1, 93, by decide +kernel, rfl, by decide, rfl⟩
  rw [List.mem_singleton.mp h]
  exact ⟨2, 125, by decide +kernel, rfl, by decide, rfl⟩
theorem erN_ne (e : Er) : erN (some e) ≠ Str.ofString "" := by cases e <;> decide +kernel
def fb : Stmt → List Stmt
  | .For _ _ b _ _ => b
  | _ => []
section
variable {P : Program} {w : World} {K : PySem.W.Frag} {mg : Str → Option Value} {base : Heap}
/-- one piece -/
theorem ff_piece (T : Txt K w mg) (Ob : OkD P w K mg base CX0 1 "_law_block_fault" p__law_block_fault spBlk) {f : Addr} {cdv : Value} {A : Around} {outer : List Env} {s : Shared} {H : Hp} {E : XK} (hr : Room 1 (A.deeper (envOfC "_law_first_fault" (defScope s__law_first_fault) s.heap.objs.size f cdv))) :
    ∃ t, PSs (cxOf CX0 P w K mg base n__law_first_fault "_law_first_fault" (defScope s__law_first_fault) f cdv A outer s H E).nox (fb ((fb ((defBody s__law_first_fault).getD 6 (.Pass ⟨0, 0, 0, 0⟩))).getD 0 (.Pass ⟨0, 0, 0, 0⟩))) t ∧
      ∀ (D : Ends) (H0 H1 : Hp) (ra ba pa ca : Addr) (i : Nat) (as : List Addr) (t0 : LS) (p : Pc) (y6 : Option V), FS H0 H1 ba pa as t0 → H1 ca = some (.lst p.vs) → t0.pd.length ≤ 200000 →
      (∀ e, pieceF (i + 1) t0 p = .error e → ∀ H' q, Same H0 H' → H' q = some (.lst (erV e)) → D.rt (.ref q) H') →
      (∀ t', pieceF (i + 1) t0 p = .ok t' → ∀ H' as' y6', FS H0 H' ba pa as' t' → D.nx [some (.ref ra), some (.int (i : Nat)), some (.ref ba), some (.ref pa), some (.int (t'.mn : Nat)), some (.ref ca), y6'] H') →
      t D [some (.ref ra), some (.int (i : Nat)), some (.ref ba), some (.ref pa), some (.int (t0.mn : Nat)), some (.ref ca), y6] H1 := by
  refine ⟨_, (pss_cons (PS.of (t' := fun D σ H => ∃ (H0 : Hp) (ra ba pa ca : Addr) (i : Nat) (as : List Addr) (t0 : LS) (p : Pc) (y6 : Option V), σ = [some (.ref ra), some (.int (i : Nat)), some (.ref ba), some (.ref pa), some (.int (t0.mn : Nat)), some (.ref ca), y6] ∧ FS H0 H ba pa as t0 ∧ H ca = some (.lst p.vs) ∧
        ∀ H', H' ba = some (.lst (nats (blk0 p.a t0).2)) → (∀ a o, a ≠ ba → H a = some o → H' a = some o) → D.nx [some (.ref ra), some (.int (i : Nat)), some (.ref ba), some (.ref pa), some (.int (t0.mn : Nat)), some (.ref ca), some (.str (erN (blk0 p.a t0).1))] H')
      (ps_set (i := 6) sc__law_first_fault.nd rfl (.inl rfl) (pe_ifExp (pt_cmpR op_eq (pv 4) pe_int (nomark _)) (pcall Ob hr (pa_cons (pv 2) (pa_cons (pe_ix ix_list (pv 5) pe_int (fun _ _ => rfl)) pa_nil))) pe_str)) ?ifb)
      (pss_cons (ps_set (i := 4) sc__law_first_fault.nd rfl (.inl rfl) (pe_op op_add (pv 4) pe_int))
      (pss_cons (ps_if (pt_cmpR op_ne (pv 6) pe_str (nomark _)) (pss_one (ps_ret (pe_lst (pa_cons (pv 6) (pa_cons (pe_op op_add (pv 1) pe_int) (pa_cons (pe_op op_add (pe_ix ix_list (pv 5) pe_int (fun _ _ => rfl)) pe_int) pa_nil)))))) pss_nil)
      (pss_cons (ps_if (pt_cmpR op_ge (pe_ix ix_list (pv 5) pe_int (fun _ _ => rfl)) pe_int (nomark _)) (pss_one (ps_ret (pe_lst (pa_cons pe_str (pa_cons (pe_op op_add (pv 1) pe_int) (pa_cons (pe_op op_add (pe_op op_add (pe_ix ix_list (pv 5) pe_int (fun _ _ => rfl)) (pe_ix ix_list (pv 5) pe_int (fun _ _ => rfl))) pe_int) pa_nil)))))) pss_nil)
      (pss_cons (ps_if (pt_cmpR op_gt (pv 4) pe_int (nomark _)) (pss_one (ps_ret (pe_lst (pa_cons pe_str (pa_cons (pe_op op_add (pv 1) pe_int) (pa_cons (pe_op op_add (pe_ix ix_list (pv 5) pe_int (fun _ _ => rfl)) pe_int) pa_nil)))))) pss_nil)
      (pss_cons (ps_if (pt_cmpR (show OpR _ _ (rIn K false) from op_in_seq) (pe_ix ix_list (pv 5) pe_int (fun _ _ => rfl)) (pe_lst (pa_cons pe_str (pa_cons pe_str (pa_cons pe_str pa_nil)))) (by rfl)) (pss_one (ps_expr (pe_bm PySem.F.plainAttrs_list PySem.F.slot_list_append PySem.F.type_list_append mt_append (pv 3) (pa_cons (pe_lst (pa_cons (pe_ix ix_str pe_str (pe_bm PySem.F.plainAttrs_str PySem.F.slot_str_index PySem.F.type_str_index mt_sindex pe_str (pa_cons (pe_ix ix_list (pv 5) pe_int (fun _ _ => rfl)) pa_nil)) (fun _ _ => rfl)) (pa_cons (pe_op op_add (pv 1) pe_int) (pa_cons (pe_op op_add (pe_ix ix_list (pv 5) pe_int (fun _ _ => rfl)) pe_int) pa_nil)))) pa_nil)))) pss_nil)
      (pss_one (ps_if (pt_cmpR (show OpR _ _ (rIn K false) from op_in_seq) (pe_ix ix_list (pv 5) pe_int (fun _ _ => rfl)) (pe_lst (pa_cons pe_str (pa_cons pe_str (pa_cons pe_str pa_nil)))) (by rfl)) (pss_cons (ps_if (PW.pt (pw_or (pt_cmpR (op_eqD hr.units) (pv 3) (pe_lst pa_nil) (nomark _)) (pw_or1 (pt_cmpR op_ne (pe_ix ix_list (pe_ix ix_list (pv 3) (pe_un un_neg pe_int) (fun _ _ => rfl)) pe_int (fun _ _ => rfl)) (pe_ix ix_list (pv 5) pe_int (fun _ _ => rfl)) (nomark _))))) (pss_one (ps_ret (pe_lst (pa_cons pe_str (pa_cons (pe_op op_add (pv 1) pe_int) (pa_cons (pe_op op_add (pe_ix ix_list (pv 5) pe_int (fun _ _ => rfl)) pe_int) pa_nil)))))) pss_nil)
      (pss_one (ps_expr (pe_bm0 PySem.F.plainAttrs_list PySem.F.slot_list_pop PySem.F.type_list_pop mt_pop (pv 3))))) pss_nil)))))))), ?_⟩
  case ifb =>
    rintro D σ H ⟨H0, ra, ba, pa, ca, i, as, t0, p, y6, rfl, F, hca, q⟩
    refine ⟨_, rfl, rfl, _, rfl, iteB (α := True) (fun c => ?_) (fun c => ?_)⟩
    · have c : V.int (t0.mn : Nat) = V.int 0 := c
      have c : t0.mn = 0 := by have := V.int.inj c; omega
      have eb : blk0 p.a t0 = blkF t0.bs p.a := by unfold blk0; rw [if_pos c]
      rw [eb] at q
      exact ⟨_, rfl, _, rfl, ca, _, 0, .int (p.a : Nat), rfl, rfl, SqL.of hca, rfl, ba, p.a, t0.bs, rfl, F.b, ⟨F.bi.1, by have := F.bi.2; omega⟩, fun H' h k => q H' h k⟩
    · have c : t0.mn ≠ 0 := fun z => c (by rw [z]; rfl)
      have eb : blk0 p.a t0 = (none, t0.bs) := by unfold blk0; rw [if_neg c]
      rw [eb] at q
      exact q H F.b (fun a o _ h => h)
  intro D H0 H1 ra ba pa ca i as t0 p y6 F hca hpl qe qo
  have lim : (1100000 : Nat) ≤ sizeLine := by decide
  have three : 3 ≤ sizeLine := by omega
  have z : Str.ofString "([{" = S [40, 91, 123] ∧ Str.ofString ")]}" = S [41, 93, 125] := by decide +kernel
  have zn : Str.ofString "BadToken" = Er.token.nm ∧ Str.ofString "TooLong" = Er.long.nm := by decide +kernel
  have zb : Str.ofString "(" = S [40] ∧ Str.ofString "[" = S [91] ∧ Str.ofString "{" = S [123] ∧ Str.ofString ")" = S [41] ∧ Str.ofString "]" = S [93] ∧ Str.ofString "}" = S [125] := by decide +kernel
  have cab : ca ≠ ba := fun y => by
    have h := F.b
    rw [← y, hca] at h
    have := congrArg (fun l => l[1]?) (HO.lst.inj (Option.some.inj h))
    unfold nats at this
    simp only [List.getElem?_map] at this
    cases h : t0.bs[1]? with
    | none => rw [h] at this; cases this
    | some z => rw [h] at this; cases this
  have cap : ca ≠ pa := fun y => by
    have h := F.p.at_
    rw [← y, hca] at h
    have := HO.lst.inj (Option.some.inj h)
    cases h : as with
    | nil => rw [h] at this; cases this
    | cons p t => rw [h] at this; cases (List.cons.inj this).1
  refine ⟨H0, ra, ba, pa, ca, i, as, t0, p, y6, rfl, F, hca, fun H2 hb2 k2 => ?_⟩
  have hca2 := k2 _ _ cab hca
  have sm2 : Same H0 H2 := fun a o e => k2 a o (ne_of_none e F.fb) (F.sm a o e)
  have ix0 : atI p.vs (0 : Int) = some (.int (p.a : Nat)) := rfl
  have ix1 : atI p.vs (1 : Int) = some (.str (S p.it.sp)) := rfl
  refine ⟨_, rfl, _, _, rfl, rfl, ?_⟩
  have hpf : ∀ X, pieceF (i + 1) t0 p = X → pieceF (i + 1) t0 p = X := fun X h => h
  cases hblk : (blk0 p.a t0).1 with
  | some e =>
    have hp : pieceF (i + 1) t0 p = .error (e, i + 1, p.a + 1) := by unfold pieceF; rw [hblk]
    refine ⟨_, rfl, rfl, _, rfl, iteT' (by cases e <;> decide +kernel) ?_⟩
    refine ⟨_, rfl, _, rfl, _, _, rfl, rfl, _, rfl, ca, _, 0, .int (p.a : Nat), rfl, rfl, SqL.of hca2, ix0, _, _, rfl, rfl, three, fun q hq => ?_⟩
    exact qe _ hp _ q (sm2.trans (same_new hq _)) (by rw [upd_same]; rfl)
  | none =>
    have F2 : FS H0 H2 ba pa as ⟨(blk0 p.a t0).2, t0.pd, t0.mn⟩ := F.blk hb2 k2 (by
      unfold blk0 at hblk ⊢
      by_cases c : t0.mn = 0
      · rw [if_pos c] at hblk ⊢; exact blkF_ok F.bi hblk
      · rw [if_neg c]; exact F.bi)
    refine ⟨_, rfl, rfl, _, rfl, iteF' (by decide +kernel) ?_⟩
    have ix4 : atI p.vs (4 : Int) = some (.int (match p.it.off with | none => -1 | some n => (n : Nat))) := rfl
    cases hoff : p.it.off with
    | some n =>
      have hp : pieceF (i + 1) t0 p = .error (.token, i + 1, p.a + n + 1) := by unfold pieceF; rw [hblk, hoff]
      rw [hoff] at ix4
      refine ⟨_, rfl, ca, _, 4, .int (n : Nat), rfl, rfl, SqL.of hca2, ix4, _, _, rfl, rfl, _, rfl, iteT' (decide_eq_true (show (0 : Int) ≤ (n : Int) by omega)) ?_⟩
      refine ⟨_, rfl, _, _, rfl, rfl, _, rfl, ca, _, 0, .int (p.a : Nat), rfl, rfl, SqL.of hca2, ix0, _, rfl, ca, _, 4, .int (n : Nat), rfl, rfl, SqL.of hca2, ix4, _, _, rfl, rfl, _, _, rfl, rfl, three, fun q hq => ?_⟩
      exact qe _ hp _ q (sm2.trans (same_new hq _)) (by rw [upd_same, zn.1]; rfl)
    | none =>
      rw [hoff] at ix4
      refine ⟨_, rfl, ca, _, 4, .int (-1), rfl, rfl, SqL.of hca2, ix4, _, _, rfl, rfl, _, rfl, iteF' (by decide) ?_⟩
      refine ⟨_, rfl, _, _, rfl, rfl, _, rfl, iteB (α := True) (fun c => ?_) (fun c => ?_)⟩
      · have c : 120 < t0.mn + 1 := by have c : (120 : Int) < (t0.mn : Int) + 1 := c; omega
        have hp : pieceF (i + 1) t0 p = .error (.long, i + 1, p.a + 1) := by unfold pieceF; rw [hblk, hoff]; show (if 120 < t0.mn + 1 then _ else _) = _; rw [if_pos c]
        refine ⟨_, rfl, _, _, rfl, rfl, _, rfl, ca, _, 0, .int (p.a : Nat), rfl, rfl, SqL.of hca2, ix0, _, _, rfl, rfl, three, fun q hq => ?_⟩
        exact qe _ hp _ q (sm2.trans (same_new hq _)) (by rw [upd_same, zn.2]; rfl)
      have c : ¬ 120 < t0.mn + 1 := fun z => c (by show (120 : Int) < (t0.mn : Int) + 1; omega)
      have hpe : ∀ e, brkF (i + 1) p t0.pd = .error e → pieceF (i + 1) t0 p = .error e := fun e h => by unfold pieceF; rw [hblk, hoff]; show (if 120 < t0.mn + 1 then _ else _) = _; rw [if_neg c, h]; rfl
      have hpo : ∀ pd, brkF (i + 1) p t0.pd = .ok pd → pieceF (i + 1) t0 p = .ok ⟨(blk0 p.a t0).2, pd, t0.mn + 1⟩ := fun e h => by unfold pieceF; rw [hblk, hoff]; show (if 120 < t0.mn + 1 then _ else _) = _; rw [if_neg c, h]; rfl
      have hd : ([.str (Str.ofString "("), .str (Str.ofString "["), .str (Str.ofString "{")] : List V) = OPN.map fun l => V.str (S l) := by rw [zb.1, zb.2.1, zb.2.2.1]; rfl
      have hd2 : ([.str (Str.ofString ")"), .str (Str.ofString "]"), .str (Str.ofString "}")] : List V) = CLS.map fun l => V.str (S l) := by rw [zb.2.2.2.1, zb.2.2.2.2.1, zb.2.2.2.2.2]; rfl
      have e1 := in_strs p.it.sp OPN
      have e2 := in_strs p.it.sp CLS
      refine ⟨_, rfl, ca, _, 1, _, rfl, rfl, SqL.of hca2, ix1, by show 3 ≤ sizeLine; omega, fun g hg => ?_⟩
      have s3 := same_new hg (.lst [.str (Str.ofString "("), .str (Str.ofString "["), .str (Str.ofString "{")])
      refine ⟨g, OPN.map fun l => V.str (S l), rfl, .inl (SqL.of (by rw [upd_same, ← hd])), rfl, flat_strs OPN, _, rfl, ?_⟩
      have F3 := F2.same s3
      have hca3 := s3 _ _ hca2
      generalize upd H2 g _ = H3 at F3 hca3 s3
      have sm3 := sm2.trans s3
      by_cases o1 : p.it.sp ∈ OPN
      · refine iteT' (by show (if false = true then !inV _ _ else inV _ _) = true; rw [if_neg Bool.false_ne_true, e1, decide_eq_true o1]) ?_
        obtain ⟨k, c1, w1, w2, w3, w4⟩ := clo_at p.it.sp o1
        have hbk : brkF (i + 1) p t0.pd = .ok (t0.pd ++ [([c1], i + 1, p.a + 1)]) := by unfold brkF; rw [if_pos o1, w4]
        rw [z.1, z.2]
        refine ⟨_, rfl, .inl ⟨rfl, _, SqL.of F3.p.at_⟩, ?_⟩
        refine ⟨rfl, _, rfl, ca, _, 1, _, rfl, rfl, SqL.of hca3, ix1, S [40, 91, 123], S p.it.sp, k, [], rfl, rfl, w1, S [41, 93, 125], k, c1, rfl, rfl, by rw [S_len]; show 3 ≤ sizeLine; omega, at_S w2, ?_⟩
        refine ⟨_, rfl, _, _, rfl, rfl, _, rfl, ca, _, 0, .int (p.a : Nat), rfl, rfl, SqL.of hca3, ix0, _, _, rfl, rfl, three, fun u hu => ?_⟩
        have s4 := same_new hu (.lst [.str (S [c1]), .int ((i : Int) + 1), .int ((p.a : Int) + 1)])
        have F4 := F3.same s4
        have hu4 : upd H3 u (.lst [.str (S [c1]), .int ((i : Int) + 1), .int ((p.a : Int) + 1)]) u = some (.lst (qv ([c1], i + 1, p.a + 1))) := by rw [upd_same]; rfl
        refine ⟨pa, _, _, rfl, rfl, F4.p.at_, by rw [List.length_map, F4.p.len]; show t0.pd.length < _; omega, ?_⟩
        have F5 := F4.push (q := ([c1], i + 1, p.a + 1)) hu4 w3 (t0.mn + 1)
        have hca5 : upd (upd H3 u (.lst [.str (S [c1]), .int ((i : Int) + 1), .int ((p.a : Int) + 1)])) pa (.lst (as.map V.ref ++ [.ref u])) ca = some (.lst p.vs) := by rw [upd_ne cap]; exact s4 _ _ hca3
        generalize upd (upd H3 u _) pa _ = H5 at F5 hca5
        have o2 : p.it.sp ∉ CLS := by
          have : ∀ x ∈ OPN, x ∉ CLS := by decide
          exact this _ o1
        refine ⟨_, rfl, ca, _, 1, _, rfl, rfl, SqL.of hca5, ix1, by show 3 ≤ sizeLine; omega, fun g hg => ?_⟩
        have s6 := same_new hg (.lst [.str (Str.ofString ")"), .str (Str.ofString "]"), .str (Str.ofString "}")])
        refine ⟨g, CLS.map fun l => V.str (S l), rfl, .inl (SqL.of (by rw [upd_same, ← hd2])), rfl, flat_strs CLS, _, rfl, ?_⟩
        refine iteF' (by show (if false = true then !inV _ _ else inV _ _) = false; rw [if_neg Bool.false_ne_true, e2, decide_eq_false o2]) ?_
        exact qo _ (hpo _ hbk) _ _ _ (F5.same s6)
      · refine iteF' (by show (if false = true then !inV _ _ else inV _ _) = false; rw [if_neg Bool.false_ne_true, e1, decide_eq_false o1]) ?_
        refine ⟨_, rfl, ca, _, 1, _, rfl, rfl, SqL.of hca3, ix1, by show 3 ≤ sizeLine; omega, fun g hg => ?_⟩
        have s6 := same_new hg (.lst [.str (Str.ofString ")"), .str (Str.ofString "]"), .str (Str.ofString "}")])
        refine ⟨g, CLS.map fun l => V.str (S l), rfl, .inl (SqL.of (by rw [upd_same, ← hd2])), rfl, flat_strs CLS, _, rfl, ?_⟩
        have F6 := F3.same s6
        have hca6 := s6 _ _ hca3
        generalize upd H3 g _ = H6 at F6 hca6 s6
        have sm6 := sm3.trans s6
        by_cases o2 : p.it.sp ∈ CLS
        · refine iteT' (by show (if false = true then !inV _ _ else inV _ _) = true; rw [if_neg Bool.false_ne_true, e2, decide_eq_true o2]) ?_
          refine ⟨_, rfl, by show 0 ≤ sizeLine; omega, fun g2 hg2 => ?_⟩
          have s7 := same_new hg2 (.lst [])
          have F7 := F6.same s7
          have hca7 := s7 _ _ hca6
          have sm7 := sm6.trans s7
          refine ⟨_, _, F7.p.dp, .lst (SqL.of upd_same) .nil, dQs_shaped F7.p.cls, by decide, _, rfl, ?_⟩
          rw [dQs_nil]
          generalize upd H6 g2 _ = H7 at F7 hca7 s7 sm7
          have ret : ∀ H8, Same H7 H8 → brkF (i + 1) p t0.pd = .error (.token, i + 1, p.a + 1) → ∀ q, H8 q = none → D.rt (.ref q) (upd H8 q (.lst [.str (Str.ofString "BadToken"), .int ((i : Int) + 1), .int ((p.a : Int) + 1)])) := fun H8 s8 hb q hq => qe _ (hpe _ hb) _ q (sm7.trans (s8.trans (same_new hq _))) (by rw [upd_same, zn.1]; rfl)
          show if (decide (t0.pd = [])) = true then _ else _
          by_cases ep : t0.pd = []
          · rw [decide_eq_true ep]
            have hb : brkF (i + 1) p t0.pd = .error (.token, i + 1, p.a + 1) := by unfold brkF; rw [if_neg o1, if_pos o2, ep]; rfl
            refine iteT ⟨_, rfl, _, _, rfl, rfl, _, rfl, ca, _, 0, .int (p.a : Nat), rfl, rfl, SqL.of hca7, ix0, _, _, rfl, rfl, three, fun q hq => ?_⟩
            exact ret H7 (Same.refl _) hb q hq
          · rw [decide_eq_false ep]
            obtain ⟨r, q, epd⟩ : ∃ r q, t0.pd = r ++ [q] := ⟨_, _, (List.dropLast_concat_getLast ep).symm⟩
            have hal : as.length = r.length + 1 := by have := F7.p.len; rw [this]; show t0.pd.length = _; rw [epd, List.length_append]; rfl
            obtain ⟨a, ha1, ha2⟩ := F7.p.el r.length q (by show t0.pd[r.length]? = some q; rw [epd, List.getElem?_append_right (Nat.le_refl _), Nat.sub_self]; rfl)
            have eas : as = as.dropLast ++ [a] := by
              have hne : as ≠ [] := fun z => by rw [z] at hal; cases hal
              have h3 := List.dropLast_concat_getLast hne
              have h4 : as.getLast hne = a := by
                have : as.getLast? = some a := by rw [List.getLast?_eq_getElem?, hal]; exact ha1
                rw [List.getLast?_eq_some_getLast hne] at this
                exact Option.some.inj this
              rw [h4] at h3; exact h3.symm
            have hat : atI (as.map V.ref) (-1) = some (.ref a) := by rw [eas, List.map_append]; exact atI_last _ _
            have hb : brkF (i + 1) p t0.pd = if q.1 = p.it.sp then .ok t0.pd.dropLast else .error (.token, i + 1, p.a + 1) := by unfold brkF; rw [if_neg o1, if_pos o2, epd, List.getLast?_concat]
            refine iteF ⟨_, rfl, _, rfl, pa, _, _, .ref a, rfl, rfl, SqL.of F7.p.at_, hat, a, _, 0, .str (S q.1), rfl, rfl, SqL.of ha2, rfl, _, rfl, ca, _, 1, _, rfl, rfl, SqL.of hca7, ix1, rfl, _, rfl, ?_⟩
            by_cases c3 : q.1 = p.it.sp
            · rw [if_pos c3] at hb
              refine iteF' (by show (!decide (V.str _ = V.str _)) = false; rw [c3, decide_eq_true rfl]; rfl) ?_
              refine ⟨_, rfl, .inl ⟨rfl, _, SqL.of F7.p.at_⟩, pa, _, .ref a, rfl, rfl, F7.p.at_, by rw [List.length_map, hal, List.getElem?_map, Nat.add_sub_cancel, ha1]; rfl, ?_⟩
              exact qo _ (hpo _ hb) _ _ _ (F7.pop (t0.mn + 1))
            · rw [if_neg c3] at hb
              refine iteT' (by show (!decide (V.str _ = V.str _)) = true; rw [decide_eq_false (fun z => c3 (S_inj (V.str.inj z)))]; rfl) ?_
              refine ⟨_, rfl, _, _, rfl, rfl, _, rfl, ca, _, 0, .int (p.a : Nat), rfl, rfl, SqL.of hca7, ix0, _, _, rfl, rfl, three, fun q hq => ?_⟩
              exact ret H7 (Same.refl _) hb q hq
        · refine iteF' (by show (if false = true then !inV _ _ else inV _ _) = false; rw [if_neg Bool.false_ne_true, e2, decide_eq_false o2]) ?_
          have hbk : brkF (i + 1) p t0.pd = .ok t0.pd := by unfold brkF; rw [if_neg o1, if_neg o2]
          exact qo _ (hpo _ hbk) _ _ _ ⟨F6.sm, F6.b, F6.p, F6.bi, F6.d, F6.fb, F6.fp⟩
end
end D0
namespace D0
open PySem PySem.Spec PyProof.Rows L2 SX NumText
theorem PgF.same {m : Bool} {H H' : Hp} {ra : Addr} {es : List RE} (x : PgF m H ra es) (s : Same H H') : PgF m H' ra es := ⟨s _ _ x.at_, fun e he => (x.row e he).same s, x.sz, x.ne, x.len, x.ok⟩
theorem PgF.ch {m : Bool} {H : Hp} {ra : Addr} {es : List RE} (x : PgF m H ra es) : ∀ e ∈ es, ∀ c ∈ e.r.txt, rowc c = true ∨ c = 9 := by
  rcases x.ok with h | ⟨h, _⟩
  · exact fun e he c hc => .inl (List.all_eq_true.mp (h e he).row c hc)
  · exact h
theorem tx_es (es : List RE) : txts (rsE es) = es.map fun e => e.r.txt := by unfold txts rsE; rw [List.map_map]; rfl
theorem sumL_es (es : List RE) : ((sumL (txts (rsE es)) : Nat) : Int) = (es.map fun e => ((e.r.txt.length : Nat) + 1 : Int)).sum := by
  rw [tx_es]
  unfold sumL
  rw [List.map_map]
  induction es with
  | nil => rfl
  | cons e r ih =>
    rw [List.map_cons, List.map_cons, List.sum_cons, List.sum_cons, ← ih]
    show (((e.r.txt.length + 1 + _ : Nat)) : Int) = _
    omega
section
variable {P : Program} {w : World} {K : PySem.W.Frag} {mg : Str → Option Value} {base : Heap}
theorem ok__law_first_fault (T : Txt K w mg) (Ob : OkD P w K mg base CX0 1 "_law_block_fault" p__law_block_fault spBlk) : OkD P w K mg base CX0 2 "_law_first_fault" p__law_first_fault spFirst := by
  refine T.g__law_first_fault.ok sc__law_first_fault (fun vs H Q E h => ?_) (fun f cdv A outer s H vs Q E hr h => ?_)
  · obtain ⟨m, ra, es, rfl, _⟩ := h; rfl
  obtain ⟨m, ra, es, rfl, hpg, qe, qn⟩ := h
  have lim : (1100000 : Nat) ≤ sizeLine := by decide
  have three : 3 ≤ sizeLine := by omega
  have z : Str.ofString "\t" = S [9] := by decide +kernel
  have zn : Str.ofString "BadToken" = Er.token.nm ∧ Str.ofString "TooLong" = Er.long.nm ∧ Str.ofString "BadSign" = Er.sign.nm := by decide +kernel
  have hel := hpg.len
  have hlen : (es.map fun e => V.ref e.a).length = es.length := List.length_map _
  have htx := tx_es es
  have hgt : ∀ (i : Nat) (e : RE), es[i]? = some e → (txts (rsE es))[i]? = some e.r.txt := fun i e h => by rw [htx, List.getElem?_map, h]; rfl
  obtain ⟨tp, hP, hf⟩ := ff_piece (H := H) (E := E) (outer := outer) T Ob hr
  refine ⟨_, (pss_cons (ps_if (pt_cmpR op_gt (pe_callB (cr_sum rfl) (by rfl) T.z_sum (by decide +kernel) (pa_cons (pe_lc (own := [("row", 1)]) (g := gName 1) (tt := tYes) rfl sc__law_first_fault.nd (pi_list (pv 0)) (blkOk_by (own := [("row", 1)]) (N := n__law_first_fault) (sc := defScope s__law_first_fault) (by decide +kernel))
        (fun _ _ _ _ _ => (pg_name (i := 1) sc__law_first_fault.nd rfl (Or.inl rfl))) (fun _ _ _ _ _ => pts_nil) (fun _ _ _ _ _ => (pe_op op_add (pe_callB call_len_str (by rfl) T.z_len PySem.boot_len (pa_cons (pe_ix (show IxR _ (rIxL K) from ix_list) (pv 1) pe_int (fun _ _ => rfl)) pa_nil)) pe_int))) pa_nil)) pe_int (nomark _)) (pss_one (ps_ret (pe_lst (pa_cons pe_str (pa_cons pe_int (pa_cons pe_int pa_nil)))))) pss_nil)
      (pss_cons (ps_for PassesOwn.never rfl (pi_range1 rfl T.z_range (pa_cons (pe_callB call_len_seq (by rfl) T.z_len PySem.boot_len (pa_cons (pv 0) pa_nil)) pa_nil)) (pg_name (i := 1) sc__law_first_fault.nd rfl (Or.inl rfl)) (pss_one (ps_if (pt_cmpR op_in_sign pe_str (pe_ix ix_list (pe_ix ix_list (pv 0) (pv 1) (fun _ _ => rfl)) pe_int (fun _ _ => rfl)) (by rfl)) (pss_one (ps_ret (pe_lst (pa_cons pe_str (pa_cons (pe_op op_add (pv 1) pe_int) (pa_cons (pe_op op_add (pe_bm PySem.F.plainAttrs_str PySem.F.slot_str_index PySem.F.type_str_index mt_sindex (pe_ix ix_list (pe_ix ix_list (pv 0) (pv 1) (fun _ _ => rfl)) pe_int (fun _ _ => rfl)) (pa_cons pe_str pa_nil)) pe_int) pa_nil)))))) pss_nil)))
      (pss_cons (ps_for PassesOwn.never rfl (pi_range1 rfl T.z_range (pa_cons (pe_callB call_len_seq (by rfl) T.z_len PySem.boot_len (pa_cons (pv 0) pa_nil)) pa_nil)) (pg_name (i := 1) sc__law_first_fault.nd rfl (Or.inl rfl)) (pss_one (ps_if (pt_cmpR op_gt (pe_callB call_len_str (by rfl) T.z_len PySem.boot_len (pa_cons (pe_ix ix_list (pe_ix ix_list (pv 0) (pv 1) (fun _ _ => rfl)) pe_int (fun _ _ => rfl)) pa_nil)) pe_int (nomark _)) (pss_one (ps_ret (pe_lst (pa_cons pe_str (pa_cons (pe_op op_add (pv 1) pe_int) (pa_cons pe_int pa_nil)))))) pss_nil)))
      (pss_cons (ps_set (i := 2) sc__law_first_fault.nd rfl (.inl rfl) (pe_lst pa_nil))
      (pss_cons (ps_set (i := 3) sc__law_first_fault.nd rfl (.inl rfl) (pe_lst pa_nil))
      (pss_cons (ps_set (i := 4) sc__law_first_fault.nd rfl (.inl rfl) pe_int)
      (pss_cons (ps_for PassesOwn.never rfl (pi_range1 rfl T.z_range (pa_cons (pe_callB call_len_seq (by rfl) T.z_len PySem.boot_len (pa_cons (pv 0) pa_nil)) pa_nil)) (pg_name (i := 1) sc__law_first_fault.nd rfl (Or.inl rfl)) (pss_cons (ps_for PassesOwn.never rfl (pi_list (pe_ix ix_list (pe_ix ix_list (pv 0) (pv 1) (fun _ _ => rfl)) pe_int (fun _ _ => rfl))) (pg_name (i := 5) sc__law_first_fault.nd rfl (Or.inl rfl)) hP)
      (pss_one (ps_if (pt_cmpR (op_eqD hr.units) (pv 3) (pe_lst pa_nil) (nomark _)) (pss_one (ps_set (i := 4) sc__law_first_fault.nd rfl (.inl rfl) pe_int)) pss_nil))))
      (pss_one (ps_ret (pe_ifExp (pt_cmpR (op_neD hr.units) (pv 3) (pe_lst pa_nil) (nomark _)) (pe_lst (pa_cons pe_str (pa_cons (pe_ix ix_list (pe_ix ix_list (pv 3) (pe_un un_neg pe_int) (fun _ _ => rfl)) pe_int (fun _ _ => rfl)) (pa_cons (pe_ix ix_list (pe_ix ix_list (pv 3) (pe_un un_neg pe_int) (fun _ _ => rfl)) pe_int (fun _ _ => rfl)) pa_nil)))) (pe_lst pa_nil))))))))))), ?_⟩
  refine ⟨_, rfl, ra, rfl, ⟨_, SqL.of hpg.at_⟩, fun D hD => ?_⟩
  refine lc_it (walk_list (xs := es.map fun e => V.ref e.a)) (fun i H' => Same H H' ∧ H' D = some (.lst ((es.take i).map fun e => V.int ((e.r.txt.length : Nat) + 1)))) ⟨same_new hD _, upd_same⟩ (fun i H' _ h => SqL.of (h.1 _ _ hpg.at_)) ?_ ?_
  · rintro i x H3 H4 hi ⟨sm, hl⟩ ⟨rfl, hx⟩
    rw [List.getElem?_map] at hx
    obtain ⟨e, he, rfl⟩ := Option.map_eq_some_iff.mp hx
    have hrow := (hpg.row e (List.mem_of_getElem? he)).same sm
    have hsz := (hpg.sz e (List.mem_of_getElem? he)).1
    refine ⟨rfl, iteT (B := True) (iteT ?_)⟩
    refine ⟨_, rfl, e.a, _, 0, _, rfl, rfl, SqL.of hrow.at_, rfl, _, rfl, by rw [S_len]; omega, _, _, rfl, rfl, _, hl, by rw [List.length_map, List.length_take]; omega, same_upd sm hD, ?_⟩
    rw [upd_same, List.take_add_one, he, List.map_append, S_len]; rfl
  · rintro H3 ⟨sm, hl⟩
    rw [List.length_map, List.take_length] at hl
    refine ⟨D, es.map fun e => ((e.r.txt.length : Nat) + 1 : Int), rfl, SqL.of (by rw [hl, List.map_map]; rfl), ?_⟩
    rw [← sumL_es]
    refine ⟨_, _, rfl, rfl, _, rfl, iteB (α := True) (fun c => ?_) (fun c => ?_)⟩
    · have c : 6001 < sumL (txts (rsE es)) := by have c : (6001 : Int) < (sumL (txts (rsE es)) : Nat) := c; omega
      refine ⟨three, fun q hq => ?_⟩
      exact qe (.long, 1, 1) (by unfold faultF; rw [if_pos c]) _ q (sm.trans (same_new hq _)) (by rw [upd_same, zn.2.1]; rfl)
    have c : ¬ 6001 < sumL (txts (rsE es)) := fun z => c (by show (6001 : Int) < (sumL (txts (rsE es)) : Nat); omega)
    have pg3 := hpg.same sm
    refine ⟨_, rfl, ra, _, rfl, .inl (SqL.of pg3.at_), ((es.length : Nat) : Int), by rw [hlen], by omega, by omega, ?_⟩
    refine for_range (lo := 0) (n := (((es.length : Nat) : Int)).toNat) (fun i σ H' => ∃ y : Option V, σ = [some (.ref ra), y, none, none, none, none, none] ∧ H' = H3 ∧ ∀ x ∈ (txts (rsE es)).take i, rowBad x = none) ⟨none, rfl, rfl, fun x hx => by rw [List.take_zero] at hx; cases hx⟩ ?_ ?_
    · rintro i σ H4 hi ⟨y, rfl, rfl, hno⟩
      rw [Int.toNat_natCast] at hi
      have gi := List.getElem?_eq_getElem hi
      generalize es[i]'_ = e at gi
      have he := List.mem_of_getElem? gi
      have hrow := pg3.row e he
      have hsz := (pg3.sz e he).1
      have hat : atI (es.map fun e => V.ref e.a) (((0 : Int) + (i : Nat))) = some (.ref e.a) := by rw [Int.zero_add]; exact atI_nat (by rw [List.getElem?_map, gi]; rfl)
      have hS : (S e.r.txt).cps.toList = e.r.txt := by simp [S]
      refine ⟨_, rfl, _, rfl, ra, _, _, .ref e.a, rfl, rfl, SqL.of pg3.at_, hat, e.a, _, 0, .str (S e.r.txt), rfl, rfl, SqL.of hrow.at_, rfl, ?_⟩
      refine ⟨9, S e.r.txt, by rw [z], rfl, _, rfl, ?_⟩
      rw [hS]
      refine iteB (α := True) (fun c9 => ?_) (fun c9 => ?_)
      · obtain ⟨j, rest, o1, o2⟩ := tab_idx (hpg.ch e he) c9
        refine ⟨_, rfl, _, _, rfl, rfl, _, rfl, _, rfl, ra, _, _, .ref e.a, rfl, rfl, SqL.of pg3.at_, hat, e.a, _, 0, .str (S e.r.txt), rfl, rfl, SqL.of hrow.at_, rfl, ?_⟩
        refine ⟨rfl, S e.r.txt, S [9], j, rest, rfl, by rw [z], o1, _, _, rfl, rfl, three, fun q hq => ?_⟩
        have hb := badAt_at (n := 1) (hgt i e gi) o2 hno
        refine qe (.sign, 1 + i, j + 1) (by unfold faultF; rw [if_neg c, hb]; try rfl) _ q (sm.trans (same_new hq _)) ?_
        rw [upd_same, zn.2.2]
        show some (HO.lst [_, V.int ((0 : Int) + (i : Nat) + 1), V.int ((j : Int) + 1)]) = some (HO.lst [_, V.int ((1 + i : Nat) : Int), V.int ((j + 1 : Nat) : Int)])
        rw [show ((0 : Int) + (i : Nat) + 1) = ((1 + i : Nat) : Int) by omega]; try rfl
      · refine ⟨_, rfl, rfl, fun x hx => ?_⟩
        rw [List.take_add_one, hgt i e gi] at hx
        rcases List.mem_append.mp hx with h | h
        · exact hno x h
        · rw [List.mem_singleton.mp h]; exact no_tab (hpg.ch e he) c9
    · rintro σ H4 ⟨y, rfl, rfl, hno⟩
      rw [Int.toNat_natCast] at hno
      have htl : (txts (rsE es)).length = es.length := by rw [htx, List.length_map]
      rw [← htl, List.take_length] at hno
      have hbad : badAt (txts (rsE es)) 1 = none := badAt_none hno
      refine ⟨_, rfl, ra, _, rfl, .inl (SqL.of pg3.at_), ((es.length : Nat) : Int), by rw [hlen], by omega, by omega, ?_⟩
      refine for_range (lo := 0) (n := (((es.length : Nat) : Int)).toNat) (fun i σ H' => ∃ y : Option V, σ = [some (.ref ra), y, none, none, none, none, none] ∧ H' = H4 ∧ ∀ x ∈ (txts (rsE es)).take i, ¬ 120 < x.length) ⟨_, rfl, rfl, fun x hx => by rw [List.take_zero] at hx; cases hx⟩ ?_ ?_
      · rintro i σ H5 hi ⟨y, rfl, rfl, hsh⟩
        rw [Int.toNat_natCast] at hi
        have gi := List.getElem?_eq_getElem hi
        generalize es[i]'_ = e at gi
        have he := List.mem_of_getElem? gi
        have hrow := pg3.row e he
        have hsz := (pg3.sz e he).1
        have hat : atI (es.map fun e => V.ref e.a) (((0 : Int) + (i : Nat))) = some (.ref e.a) := by rw [Int.zero_add]; exact atI_nat (by rw [List.getElem?_map, gi]; rfl)
        refine ⟨_, rfl, _, rfl, ra, _, _, .ref e.a, rfl, rfl, SqL.of pg3.at_, hat, e.a, _, 0, .str (S e.r.txt), rfl, rfl, SqL.of hrow.at_, rfl, _, rfl, by rw [S_len]; omega, _, _, rfl, rfl, _, rfl, ?_⟩
        rw [S_len]
        refine iteB (α := True) (fun cl => ?_) (fun cl => ?_)
        · have cl : 120 < e.r.txt.length := by have cl : (120 : Int) < (e.r.txt.length : Nat) := cl; omega
          refine ⟨_, rfl, _, _, rfl, rfl, three, fun q hq => ?_⟩
          have hb := longAt_at (n := 1) (hgt i e gi) cl hsh
          refine qe (.long, 1 + i, 121) (by unfold faultF; rw [if_neg c, hbad, hb]; try rfl) _ q (sm.trans (same_new hq _)) ?_
          rw [upd_same, zn.2.1]
          show some (HO.lst [_, V.int ((0 : Int) + (i : Nat) + 1), V.int 121]) = some (HO.lst [_, V.int ((1 + i : Nat) : Int), V.int ((121 : Nat) : Int)])
          rw [show ((0 : Int) + (i : Nat) + 1) = ((1 + i : Nat) : Int) by omega]; try rfl
        · have cl : ¬ 120 < e.r.txt.length := fun z => cl (by show (120 : Int) < (e.r.txt.length : Nat); omega)
          refine ⟨_, rfl, rfl, fun x hx => ?_⟩
          rw [List.take_add_one, hgt i e gi] at hx
          rcases List.mem_append.mp hx with h | h
          · exact hsh x h
          · rw [List.mem_singleton.mp h]; exact cl
      · rintro σ H5 ⟨y, rfl, rfl, hsh⟩
        rw [Int.toNat_natCast, ← htl, List.take_length] at hsh
        have hlong : longAt (txts (rsE es)) 1 = none := longAt_none hsh
        have hff : faultF (rsE es) = match (rowsF (rsE es) 1 ls0).bind endF with
          | .error e => some e
          | .ok _ => none := by unfold faultF; rw [if_neg c, hbad, hlong]; try rfl
        refine ⟨by show 0 ≤ sizeLine; omega, fun ba hba => ⟨by show 0 ≤ sizeLine; omega, fun pa hpa => ?_⟩⟩
        generalize hH6 : upd H5 ba _ = H6 at hpa
        generalize hH7 : upd H6 pa _ = H7
        have s6 : Same H5 H6 := by rw [← hH6]; exact same_new hba _
        have s7 : Same H6 H7 := by rw [← hH7]; exact same_new hpa _
        have t6 : H6 ba = some (.lst (nats [])) := by rw [← hH6]; exact upd_same
        have F0 : FS H5 H7 ba pa [] ls0 := ⟨s6.trans s7, s7 _ _ t6, ⟨by rw [← hH7]; exact upd_same, rfl, (fun i q h => by cases h), (fun q h => by cases h)⟩, ⟨.inl rfl, Nat.zero_le _⟩, ne_of_none t6 hpa, hba, s6.free hpa⟩
        have pg7 := pg3.same F0.sm
        refine ⟨_, rfl, ra, _, rfl, .inl (SqL.of pg7.at_), ((es.length : Nat) : Int), by rw [hlen], by omega, by omega, ?_⟩
        refine for_range (lo := 0) (n := (((es.length : Nat) : Int)).toNat) (fun i σ H' => ∃ (as : List Addr) (t : LS) (y1 y5 y6 : Option V), σ = [some (.ref ra), y1, some (.ref ba), some (.ref pa), some (.int (t.mn : Nat)), y5, y6] ∧ FS H5 H' ba pa as t ∧ t.pd.length ≤ 300 * i ∧ rowsF (rsE es) 1 ls0 = rowsF ((rsE es).drop i) (1 + i) t) ⟨[], ls0, _, _, _, rfl, F0, Nat.zero_le _, rfl⟩ ?_ ?_
        · rintro i σ H8 hi ⟨as, t, y1, y5, y6, rfl, F, hpl, hrw⟩
          rw [Int.toNat_natCast] at hi
          have gi := List.getElem?_eq_getElem hi
          have hdr : (rsE es).drop i = (es[i]).r :: (rsE es).drop (i + 1) := by
            rw [List.drop_eq_getElem_cons (by rw [List.length_map]; exact hi), List.getElem_map]
          generalize es[i]'_ = e at gi hdr
          rw [hdr] at hrw
          have he := List.mem_of_getElem? gi
          have pg8 := pg3.same F.sm
          have hrow := pg8.row e he
          have hsz := (pg8.sz e he).2
          have hat : atI (es.map fun e => V.ref e.a) (((0 : Int) + (i : Nat))) = some (.ref e.a) := by rw [Int.zero_add]; exact atI_nat (by rw [List.getElem?_map, gi]; rfl)
          have hrf : rowsF (e.r :: (rsE es).drop (i + 1)) (1 + i) t = ((piecesF (1 + i) t e.r.ps).map closeF).bind (rowsF ((rsE es).drop (i + 1)) (1 + i + 1)) := rfl
          rw [hrf] at hrw
          refine ⟨_, rfl, _, rfl, ra, _, _, .ref e.a, rfl, rfl, SqL.of pg8.at_, hat, e.a, _, 1, .ref e.pl, rfl, rfl, SqL.of hrow.at_, rfl, e.pl, rfl, ⟨_, SqL.of hrow.pl⟩, ?_⟩
          refine for_it (walk_list (xs := e.pa.map V.ref)) (fun j σ H' => ∃ (as : List Addr) (t1 : LS) (y5 y6 : Option V), σ = [some (.ref ra), some (.int (i : Nat)), some (.ref ba), some (.ref pa), some (.int (t1.mn : Nat)), y5, y6] ∧ FS H5 H' ba pa as t1 ∧ t1.pd.length ≤ 300 * i + j ∧ piecesF (1 + i) t e.r.ps = piecesF (1 + i) t1 (e.r.ps.drop j)) ⟨as, t, _, _, by rw [Int.zero_add]; rfl, F, hpl, rfl⟩ (fun j σ H' _ h => by obtain ⟨_, _, _, _, _, F', _, _⟩ := h; exact SqL.of (F'.sm _ _ (pg3.row e he).pl)) ?_ ?_
          · rintro j x σ H9 H10 hj ⟨as1, t1, y5, y6, rfl, F1, hpl1, hpc⟩ ⟨rfl, hx⟩
            rw [List.length_map, (pg3.row e he).len] at hj
            have gj := List.getElem?_eq_getElem hj
            have hdj : e.r.ps.drop j = e.r.ps[j] :: e.r.ps.drop (j + 1) := List.drop_eq_getElem_cons hj
            generalize e.r.ps[j]'_ = p at gj hdj
            obtain ⟨a, ha1, ha2⟩ := (pg3.row e he).ps j p gj
            rw [List.getElem?_map, ha1] at hx
            cases hx
            have hpj : piecesF (1 + i) t e.r.ps = (pieceF (1 + i) t1 p).bind fun t' => piecesF (1 + i) t' (e.r.ps.drop (j + 1)) := by rw [hpc, hdj]; rfl
            rw [Nat.add_comm 1 i] at hpj
            refine hf _ H5 H10 ra ba pa a i as1 t1 p _ F1 (F1.sm _ _ ha2) (by omega) (fun e' he' H' q s' hq => ?_) (fun t' ht' H' as' y6' F' => ?_)
            · refine qe e' ?_ H' q (sm.trans s') hq
              rw [hff, hrw, Nat.add_comm 1 i, hpj, he']; rfl
            · refine ⟨as', t', _, _, rfl, F', ?_, ?_⟩
              · have : t'.pd.length ≤ t1.pd.length + 1 := by
                  unfold pieceF at ht'
                  split at ht'
                  · cases ht'
                  split at ht'
                  · cases ht'
                  split at ht'
                  · cases ht'
                  cases hb : brkF (i + 1) p t1.pd with
                  | error e => rw [hb] at ht'; cases ht'
                  | ok pd =>
                    rw [hb] at ht'
                    cases ht'
                    have hbl := brkF_len hb
                    have : (if p.it.sp ∈ OPN then (1 : Int) else 0) ≤ 1 := by split <;> omega
                    have : (0 : Int) ≤ (if p.it.sp ∈ CLS then (1 : Int) else 0) := by split <;> omega
                    show pd.length ≤ _
                    omega
                omega
              · rw [Nat.add_comm 1 i, hpj, ht']; rfl
          · rintro σ H9 ⟨as1, t1, y5, y6, rfl, F1, hpl1, hpc⟩
            rw [List.length_map, (pg3.row e he).len] at hpl1 hpc
            rw [List.drop_length] at hpc
            have hpc : piecesF (1 + i) t e.r.ps = .ok t1 := hpc
            rw [hpc] at hrw
            have hrw : rowsF (rsE es) 1 ls0 = rowsF ((rsE es).drop (i + 1)) (1 + (i + 1)) (closeF t1) := hrw
            refine ⟨_, rfl, by show 0 ≤ sizeLine; omega, fun g hg => ?_⟩
            have s10 := same_new hg (.lst [])
            have F2 := F1.same s10
            refine ⟨_, _, F2.p.dp, .lst (SqL.of upd_same) .nil, dQs_shaped F2.p.cls, by decide, _, rfl, ?_⟩
            rw [dQs_nil]
            generalize upd H9 g _ = H10 at F2
            have nxt : ∀ mn, closeF t1 = ⟨t1.bs, t1.pd, mn⟩ → ∃ (as : List Addr) (t : LS) (y1 y5' y6' : Option V), [some (V.ref ra), some (V.int (i : Nat)), some (V.ref ba), some (V.ref pa), some (V.int (mn : Nat)), y5, y6] = [some (.ref ra), y1, some (.ref ba), some (.ref pa), some (.int (t.mn : Nat)), y5', y6'] ∧ FS H5 H10 ba pa as t ∧ t.pd.length ≤ 300 * (i + 1) ∧ rowsF (rsE es) 1 ls0 = rowsF ((rsE es).drop (i + 1)) (1 + (i + 1)) t := fun mn hc => ⟨as1, closeF t1, _, _, _, by rw [hc], ⟨F2.sm, F2.b, F2.p, F2.bi, F2.d, F2.fb, F2.fp⟩, by show t1.pd.length ≤ _; omega, hrw⟩
            by_cases ep : t1.pd = []
            · rw [decide_eq_true ep]
              exact iteT (nxt 0 (by unfold closeF; rw [if_pos ep]))
            · rw [decide_eq_false ep]
              exact iteF (nxt t1.mn (by unfold closeF; rw [if_neg ep]))
        · rintro σ H8 ⟨as, t, y1, y5, y6, rfl, F, hpl, hrw⟩
          rw [Int.toNat_natCast] at hrw
          have hl2 : (rsE es).length = es.length := List.length_map _
          rw [← hl2, List.drop_length] at hrw
          have hrw : rowsF (rsE es) 1 ls0 = .ok t := hrw
          rw [hrw] at hff
          have hff : faultF (rsE es) = match endF t with
            | .error e => some e
            | .ok _ => none := hff
          refine ⟨_, rfl, by show 0 ≤ sizeLine; omega, fun g hg => ?_⟩
          have s10 := same_new hg (.lst [])
          have F2 := F.same s10
          refine ⟨_, _, F2.p.dp, .lst (SqL.of upd_same) .nil, dQs_shaped F2.p.cls, by decide, _, rfl, ?_⟩
          rw [dQs_nil]
          generalize upd H8 g _ = H10 at F2
          by_cases ep : t.pd = []
          · rw [decide_eq_true ep]
            refine iteF ⟨by show 0 ≤ sizeLine; omega, fun q hq => ?_⟩
            refine qn (by rw [hff]; unfold endF; rw [ep]; rfl) _ q (sm.trans (F2.sm.trans (same_new hq _))) upd_same
          · rw [decide_eq_false ep]
            obtain ⟨r, qd, epd⟩ : ∃ r q, t.pd = r ++ [q] := ⟨_, _, (List.dropLast_concat_getLast ep).symm⟩
            have hal : as.length = r.length + 1 := by have := F2.p.len; rw [this]; show t.pd.length = _; rw [epd, List.length_append]; rfl
            obtain ⟨a, ha1, ha2⟩ := F2.p.el r.length qd (by rw [epd, List.getElem?_append_right (Nat.le_refl _), Nat.sub_self]; rfl)
            have eas : as = as.dropLast ++ [a] := by
              have hne : as ≠ [] := fun z => by rw [z] at hal; cases hal
              have h3 := List.dropLast_concat_getLast hne
              have h4 : as.getLast hne = a := by
                have : as.getLast? = some a := by rw [List.getLast?_eq_getElem?, hal]; exact ha1
                rw [List.getLast?_eq_some_getLast hne] at this
                exact Option.some.inj this
              rw [h4] at h3; exact h3.symm
            have hat : atI (as.map V.ref) (-1) = some (.ref a) := by rw [eas, List.map_append]; exact atI_last _ _
            refine iteT ⟨_, rfl, _, rfl, pa, _, _, .ref a, rfl, rfl, SqL.of F2.p.at_, hat, a, _, 1, .int (qd.2.1 : Nat), rfl, rfl, SqL.of ha2, rfl, _, rfl, _, rfl, pa, _, _, .ref a, rfl, rfl, SqL.of F2.p.at_, hat, a, _, 2, .int (qd.2.2 : Nat), rfl, rfl, SqL.of ha2, rfl, three, fun q hq => ?_⟩
            refine qe (.token, qd.2.1, qd.2.2) (by rw [hff]; unfold endF; rw [epd, List.getLast?_concat]) _ q (sm.trans (F2.sm.trans (same_new hq _))) (by rw [upd_same, zn.1]; rfl)
end
end D0
namespace D0
open PySem PySem.Spec PyProof.Rows L2 SX NumText
def spLines : Sp := fun vs H Q _ => ∃ (m : Bool) (ra : Addr) (es : List RE), vs = [.ref ra] ∧ PgF m H ra es ∧ (∀ e ∈ es, ∀ p ∈ e.r.ps, ItOk m p.it) ∧ ∀ H', Same H H' → Q (.int ((lnF (rsE es) 0 : Nat) : Int)) H'
section
variable {P : Program} {w : World} {K : PySem.W.Frag} {mg : Str → Option Value} {base : Heap}
theorem ok__law_logical_lines (T : Txt K w mg) : OkD P w K mg base CX0 1 "_law_logical_lines" p__law_logical_lines spLines := by
  refine T.g__law_logical_lines.ok sc__law_logical_lines (fun vs H Q E h => ?_) (fun f cdv A outer s H vs Q E hr h => ?_)
  · obtain ⟨m, ra, es, rfl, _⟩ := h; rfl
  obtain ⟨m, ra, es, rfl, hpg, hit, q⟩ := h
  have lim : (1100000 : Nat) ≤ sizeLine := by decide
  have zb : Str.ofString "(" = S [40] ∧ Str.ofString "[" = S [91] ∧ Str.ofString "{" = S [123] ∧ Str.ofString ")" = S [41] ∧ Str.ofString "]" = S [93] ∧ Str.ofString "}" = S [125] := by decide +kernel
  have hd : ([.str (Str.ofString "("), .str (Str.ofString "["), .str (Str.ofString "{")] : List V) = OPN.map fun l => V.str (S l) := by rw [zb.1, zb.2.1, zb.2.2.1]; rfl
  have hd2 : ([.str (Str.ofString ")"), .str (Str.ofString "]"), .str (Str.ofString "}")] : List V) = CLS.map fun l => V.str (S l) := by rw [zb.2.2.2.1, zb.2.2.2.2.1, zb.2.2.2.2.2]; rfl
  refine ⟨_, (pss_cons (ps_set (i := 1) sc__law_logical_lines.nd rfl (.inl rfl) pe_int)
      (pss_cons (ps_set (i := 2) sc__law_logical_lines.nd rfl (.inl rfl) pe_int)
      (pss_cons (ps_for PassesOwn.never rfl (pi_list (pv 0)) (pg_name (i := 3) sc__law_logical_lines.nd rfl (Or.inl rfl)) (pss_cons (ps_for PassesOwn.never rfl (pi_list (pe_ix ix_list (pv 3) pe_int (fun _ _ => rfl))) (pg_name (i := 4) sc__law_logical_lines.nd rfl (Or.inl rfl)) (pss_one (ps_set (i := 2) sc__law_logical_lines.nd rfl (.inl rfl) (pe_op op_sub (pe_op op_add (pv 2) (pe_callTy call_int1 (by rfl) T.z_int PyProof.Rows.boot_int (pa_cons (pe_cmpR (show OpR _ _ (rIn K false) from op_in_seq) (pe_ix ix_list (pv 4) pe_int (fun _ _ => rfl)) (pe_lst (pa_cons pe_str (pa_cons pe_str (pa_cons pe_str pa_nil)))) (by rfl)) pa_nil))) (pe_callTy call_int1 (by rfl) T.z_int PyProof.Rows.boot_int (pa_cons (pe_cmpR (show OpR _ _ (rIn K false) from op_in_seq) (pe_ix ix_list (pv 4) pe_int (fun _ _ => rfl)) (pe_lst (pa_cons pe_str (pa_cons pe_str (pa_cons pe_str pa_nil)))) (by rfl)) pa_nil))))))
      (pss_one (ps_set (i := 1) sc__law_logical_lines.nd rfl (.inl rfl) (pe_op op_add (pv 1) (pe_callTy call_int1 (by rfl) T.z_int PyProof.Rows.boot_int (pa_cons (pe_and (pe_cmpR (op_neD hr.units) (pe_ix ix_list (pv 3) pe_int (fun _ _ => rfl)) (pe_lst pa_nil) (nomark _)) (pe_one (pe_cmpR op_eq (pv 2) pe_int (nomark _)))) pa_nil)))))))
      (pss_one (ps_ret (pv 1)))))), ?_⟩
  have hel := hpg.len
  refine ⟨_, rfl, ra, rfl, ⟨_, SqL.of hpg.at_⟩, ?_⟩
  refine for_it (walk_list (xs := es.map fun e => V.ref e.a)) (fun i σ H' => ∃ (fo : Nat) (pd : Int) (y3 y4 : Option V), σ = [some (.ref ra), some (.int (fo : Nat)), some (.int pd), y3, y4] ∧ Same H H' ∧ fo + lnF ((rsE es).drop i) pd = lnF (rsE es) 0) ⟨0, 0, none, none, rfl, Same.refl H, by rw [List.drop_zero, Nat.zero_add]⟩ (fun i σ H' _ h => by obtain ⟨_, _, _, _, _, h, _⟩ := h; exact SqL.of (h _ _ hpg.at_)) ?_ ?_
  · rintro i x σ H1 H2 hi ⟨fo, pd, y3, y4, rfl, sm, hfo⟩ ⟨rfl, hx⟩
    rw [List.length_map] at hi
    rw [List.getElem?_map] at hx
    obtain ⟨e, gi, rfl⟩ := Option.map_eq_some_iff.mp hx
    have he := List.mem_of_getElem? gi
    have hrow0 := hpg.row e he
    have hrow := hrow0.same sm
    have hdr : (rsE es).drop i = e.r :: (rsE es).drop (i + 1) := by
      rw [List.drop_eq_getElem_cons (by rw [List.length_map]; exact hi), List.getElem_map]
      congr 1
      have := List.getElem?_eq_getElem hi
      rw [gi] at this
      rw [← Option.some.inj this]
    rw [hdr] at hfo
    have hfo : fo + ((if e.r.ps ≠ [] ∧ pd + bal e.r.ps = 0 then 1 else 0) + lnF ((rsE es).drop (i + 1)) (pd + bal e.r.ps)) = lnF (rsE es) 0 := hfo
    refine ⟨_, rfl, e.a, _, 1, .ref e.pl, rfl, rfl, SqL.of hrow.at_, rfl, e.pl, rfl, ⟨_, SqL.of hrow.pl⟩, ?_⟩
    refine for_it (walk_list (xs := e.pa.map V.ref)) (fun j σ H' => ∃ (pd1 : Int) (y4 : Option V), σ = [some (.ref ra), some (.int (fo : Nat)), some (.int pd1), some (.ref e.a), y4] ∧ Same H H' ∧ pd1 + bal (e.r.ps.drop j) = pd + bal e.r.ps) ⟨pd, _, rfl, sm, by rw [List.drop_zero]⟩ (fun i σ H' _ h => by obtain ⟨_, _, _, h, _⟩ := h; exact SqL.of (h _ _ hrow0.pl)) ?_ ?_
    · rintro j x σ H3 H4 hj ⟨pd1, y4, rfl, sm3, hpd⟩ ⟨rfl, hx⟩
      rw [List.length_map, hrow0.len] at hj
      have gj := List.getElem?_eq_getElem hj
      have hdj : e.r.ps.drop j = e.r.ps[j] :: e.r.ps.drop (j + 1) := List.drop_eq_getElem_cons hj
      generalize e.r.ps[j]'_ = p at gj hdj
      obtain ⟨a, ha1, ha2⟩ := hrow0.ps j p gj
      rw [List.getElem?_map, ha1] at hx
      cases hx
      rw [hdj] at hpd
      have hpd : pd1 + (((if p.it.sp ∈ OPN then (1 : Int) else 0) - (if p.it.sp ∈ CLS then 1 else 0)) + bal (e.r.ps.drop (j + 1))) = pd + bal e.r.ps := hpd
      have ix1 : atI p.vs (1 : Int) = some (.str (S p.it.sp)) := rfl
      have e1 := in_strs p.it.sp OPN
      have e2 := in_strs p.it.sp CLS
      refine ⟨_, rfl, _, rfl, a, _, 1, _, rfl, rfl, SqL.of (sm3 _ _ ha2), ix1, by show 3 ≤ sizeLine; omega, fun g hg => ?_⟩
      have s4 := sm3.trans (same_new hg (.lst [.str (Str.ofString "("), .str (Str.ofString "["), .str (Str.ofString "{")]))
      refine ⟨g, OPN.map fun l => V.str (S l), rfl, .inl (SqL.of (by rw [upd_same, ← hd])), rfl, flat_strs OPN, ?_⟩
      rw [show (if false = true then !inV (.str (S p.it.sp)) (OPN.map fun l => V.str (S l)) else inV (.str (S p.it.sp)) (OPN.map fun l => V.str (S l))) = decide (p.it.sp ∈ OPN) by rw [if_neg Bool.false_ne_true, e1]]
      generalize upd H4 g _ = H5 at s4
      refine .inr ⟨_, rfl, _, _, rfl, rfl, ?_⟩
      refine ⟨_, rfl, a, _, 1, _, rfl, rfl, SqL.of (s4 _ _ ha2), ix1, by show 3 ≤ sizeLine; omega, fun g hg => ?_⟩
      have s5 := s4.trans (same_new hg (.lst [.str (Str.ofString ")"), .str (Str.ofString "]"), .str (Str.ofString "}")]))
      refine ⟨g, CLS.map fun l => V.str (S l), rfl, .inl (SqL.of (by rw [upd_same, ← hd2])), rfl, flat_strs CLS, ?_⟩
      rw [show (if false = true then !inV (.str (S p.it.sp)) (CLS.map fun l => V.str (S l)) else inV (.str (S p.it.sp)) (CLS.map fun l => V.str (S l))) = decide (p.it.sp ∈ CLS) by rw [if_neg Bool.false_ne_true, e2]]
      refine .inr ⟨_, rfl, _, _, rfl, rfl, ?_⟩
      refine ⟨_, _, rfl, s5, ?_⟩
      rw [← hpd]
      by_cases o1 : p.it.sp ∈ OPN <;> by_cases o2 : p.it.sp ∈ CLS <;> simp [o1, o2] <;> omega
    · rintro σ H3 ⟨pd1, y4, rfl, sm3, hpd⟩
      rw [List.length_map, hrow0.len, List.drop_length] at hpd
      have hpd : pd1 = pd + bal e.r.ps := by have : pd1 + (0 : Int) = pd + bal e.r.ps := hpd; omega
      subst hpd
      have hrow3 := hrow0.same sm3
      refine ⟨_, rfl, _, rfl, e.a, _, 1, .ref e.pl, rfl, rfl, SqL.of hrow3.at_, rfl, by show 0 ≤ sizeLine; omega, fun g hg => ?_⟩
      have s10 := same_new hg (.lst [])
      refine ⟨_, _, (hrow3.same s10).dp, .lst (SqL.of upd_same) .nil, dPs_shaped (hit e he), by decide, ?_⟩
      rw [dPs_nil]
      have sN := sm3.trans s10
      by_cases ep : e.r.ps = []
      · refine ⟨_, rfl, ?_⟩
        rw [decide_eq_true ep]
        rw [if_neg (fun z => z.1 ep)] at hfo
        refine iteF' rfl (.inr ⟨false, rfl, _, _, rfl, rfl, ⟨fo, pd + bal e.r.ps, some (.ref e.a), y4, ?_, sN, by rw [Nat.zero_add] at hfo; exact hfo⟩⟩)
        show [_, some (V.int ((fo : Int) + 0)), _, _, _] = _
        rw [Int.add_zero]
      · refine ⟨_, rfl, ?_⟩
        rw [decide_eq_false ep]
        refine iteT' rfl ⟨_, rfl, rfl, .inr ⟨_, rfl, _, _, rfl, rfl, ?_⟩⟩
        by_cases c : pd + bal e.r.ps = 0
        · rw [if_pos ⟨ep, c⟩] at hfo
          refine ⟨fo + 1, pd + bal e.r.ps, some (.ref e.a), y4, ?_, sN, by rw [Nat.add_assoc]; exact hfo⟩
          rw [c]; rfl
        · rw [if_neg (fun z => c z.2)] at hfo
          refine ⟨fo, pd + bal e.r.ps, some (.ref e.a), y4, ?_, sN, by rw [Nat.zero_add] at hfo; exact hfo⟩
          show [_, some (V.int ((fo : Int) + (if (decide (V.int (pd + bal e.r.ps) = V.int 0)) = true then 1 else 0))), _, _, _] = _
          rw [decide_eq_false (fun z => c (V.int.inj z)), if_neg Bool.false_ne_true, Int.add_zero]
  · rintro σ H1 ⟨fo, pd, y3, y4, rfl, sm, hfo⟩
    rw [List.length_map] at hfo
    have hl2 : (rsE es).length = es.length := List.length_map _
    rw [← hl2, List.drop_length] at hfo
    have hfo : fo + 0 = lnF (rsE es) 0 := hfo
    rw [← hfo] at q
    exact ⟨_, rfl, q H1 sm⟩
end
end D0
namespace D0
open PySem PySem.Spec PyProof.Rows L2 SX NumText
def isN : Kd → Bool
  | .number => true
  | _ => false
def Sg (l : List Nat) : Prop := ∀ c ∈ l, c < 1114112
def GW (k : Kd) (w : Wd) : Prop := (isN k = true ∧ ∃ n, w = .n n) ∨ (isN k = false ∧ ∃ l, w = .s l ∧ Sg l)
theorem escV_sg {c : Nat} {m : List Nat} (h : escV [c] = some m) : Sg m := by
  unfold escV at h
  split at h <;> first | (cases h; intro x hx; rw [List.mem_singleton.mp hx]; decide) | cases h
theorem scanT_form {q st : Nat} : ∀ {r : List Nat} {b : Bool} {k : Nat} {acc : List Nat} {t : Tr}, scanT q st b r k acc = .ok t → Sg r → Sg acc → GW t.1 t.2.1
  | [], b, k, acc, t, h, _, _ => by unfold scanT at h; cases b <;> cases h
  | c :: r, true, k, acc, t, h, hr, ha => by
    unfold scanT at h
    cases hx : escV [c] with
    | none => rw [hx] at h; cases h
    | some m =>
      rw [hx] at h
      refine scanT_form (r := r) (b := false) h (fun x hx => hr x (List.mem_cons_of_mem _ hx)) (fun x hx2 => ?_)
      rcases List.mem_append.mp hx2 with h1 | h1
      · exact ha x h1
      · exact escV_sg hx x h1
  | c :: r, false, k, acc, t, h, hr, ha => by
    unfold scanT at h
    split at h
    · cases h; exact .inr ⟨rfl, _, rfl, ha⟩
    split at h
    · exact scanT_form (r := r) h (fun x hx => hr x (List.mem_cons_of_mem _ hx)) ha
    · refine scanT_form (r := r) h (fun x hx => hr x (List.mem_cons_of_mem _ hx)) (fun x hx2 => ?_)
      rcases List.mem_append.mp hx2 with h1 | h1
      · exact ha x h1
      · rw [List.mem_singleton.mp h1]; exact hr c List.mem_cons_self
theorem tok_gw {l : List Nat} {i : Nat} {t : Tr} (h : scanTok l i = .ok t) (hc : Sg l) : GW t.1 t.2.1 := by
  have hsub : ∀ j, Sg (word l i j) := fun j c hx => hc c (List.mem_of_mem_drop (List.mem_of_mem_take hx))
  unfold scanTok at h
  split at h
  · unfold scanName at h
    split at h
    · cases h
    · cases h
      refine .inr ⟨?_, _, rfl, hsub _⟩
      show isN (if _ then _ else _) = false
      split <;> rfl
  split at h
  · unfold scanNumber at h
    split at h
    · cases h
    · cases h; exact .inl ⟨rfl, _, rfl⟩
  split at h
  · unfold scanText at h
    exact scanT_form h (fun c hx => hc c (List.mem_of_mem_drop hx)) (fun c hx => by cases hx)
  · unfold scanSign at h
    split at h
    · rename_i s hs
      cases h
      have hm := List.mem_of_find?_eq_some hs
      have : ∀ s ∈ SG, ∀ c ∈ s, c < 1114112 := by decide
      exact .inr ⟨rfl, _, rfl, this _ hm⟩
    · cases h
def GS (s : Sc) : Prop := ∀ m ∈ s.marks, GW m.k m.w
theorem gw_nil {k : Kd} (h : isN k = false) : GW k (.s []) := .inr ⟨h, [], rfl, fun c hc => by cases hc⟩
theorem gs_app {s : Sc} {ms : List Mk} (h : GS s) (hm : ∀ m ∈ ms, GW m.k m.w) : ∀ m ∈ s.marks ++ ms, GW m.k m.w := fun m hx => by
  rcases List.mem_append.mp hx with h1 | h1
  · exact h m h1
  · exact hm m h1
theorem gs_rep {n ln col : Nat} : ∀ m ∈ List.replicate n (dedent ln col), GW m.k m.w := fun m h => by rw [(List.mem_replicate.mp h).2]; exact gw_nil rfl
theorem gs_finish {n ln col : Nat} {s s1 : Sc} (h : GS s) (e : finish n ln col s = .ok s1) : GS s1 := by
  unfold finish at e
  split at e
  · cases e
  · cases e; exact gs_app h gs_rep
theorem gs_begin {ln col : Nat} {s s1 : Sc} (h : GS s) (e : beginLine ln col s = .ok s1) : GS s1 := by
  unfold beginLine at e
  split at e
  · cases e
  split at e
  · split at e
    · cases e
    · refine gs_finish (s := { s with ind := (col - 1) :: s.ind, marks := s.marks ++ [⟨.indent, .s [], ln, col⟩] }) (gs_app h fun m hm => ?_) e
      rw [List.mem_singleton.mp hm]; exact gw_nil rfl
  · exact gs_finish h e
theorem gs_gather {m : Mk} {s s1 : Sc} (h : GS s) (hm : GW m.k m.w) (e : gatherP m s = .ok s1) : GS s1 := by
  have one : ∀ x ∈ [m], GW x.k x.w := fun x hx => by rw [List.mem_singleton.mp hx]; exact hm
  unfold gatherP at e
  split at e
  · cases e
  split at e
  · unfold matchBr at e
    split at e
    · cases e; exact gs_app h one
    split at e
    · cases e; exact gs_app h one
    split at e
    · cases e
    split at e
    · cases e; exact gs_app h one
    · cases e
  · cases e; exact gs_app h one
theorem gs_step {l : List Nat} {ln i : Nat} {s : Sc} {r : Nat × Sc} (hl : Sg l) (h : GS s) (e : stepR l ln i s = .ok r) : GS r.2 := by
  unfold stepR at e
  have hb : ∀ s1, beg ln i s = .ok s1 → GS s1 := fun s1 e1 => by
    unfold beg at e1
    split at e1
    · exact gs_begin h e1
    · cases e1; exact h
  cases hb2 : beg ln i s with
  | error x => rw [hb2] at e; cases e
  | ok s1 =>
    rw [hb2] at e
    have e : tokS l ln i s1 = .ok r := e
    unfold tokS at e
    cases ht : scanTok l i with
    | error c => rw [ht] at e; cases e
    | ok t =>
      rw [ht] at e
      have e : (gatherP ⟨t.1, t.2.1, ln, i + 1⟩ s1).map (fun s2 => (twl spc l t.2.2, { s2 with behind := t.2.2 + 1 })) = .ok r := e
      cases hg : gatherP ⟨t.1, t.2.1, ln, i + 1⟩ s1 with
      | error x => rw [hg] at e; cases e
      | ok s2 =>
        rw [hg] at e
        cases e
        have g : GS s2 := gs_gather (m := ⟨t.1, t.2.1, ln, i + 1⟩) (hb s1 hb2) (tok_gw ht hl) hg
        exact g
theorem gs_run {l : List Nat} {ln : Nat} (hl : Sg l) : ∀ (f i : Nat) (s s1 : Sc), GS s → runRow l ln f i s = .ok s1 → GS s1
  | 0, _, s, s1, h, e => by cases e; exact h
  | f + 1, i, s, s1, h, e => by
    unfold runRow at e
    split at e
    · cases hs : stepR l ln i s with
      | error x => rw [hs] at e; cases e
      | ok r => rw [hs] at e; exact gs_run hl f r.1 r.2 s1 (gs_step hl h hs) e
    · cases e; exact h
theorem gs_rows : ∀ (rows : List (List Nat)) (ln : Nat) (s s1 : Sc), (∀ r ∈ rows, Sg r) → GS s → scanRows rows ln s = .ok s1 → GS s1
  | [], _, s, s1, _, h, e => by cases e; exact h
  | r :: rs, ln, s, s1, hr, h, e => by
    have e : (scanRow r ln s).bind (scanRows rs (ln + 1)) = .ok s1 := e
    cases hs : scanRow r ln s with
    | error x => rw [hs] at e; cases e
    | ok s2 =>
      rw [hs] at e
      refine gs_rows rs (ln + 1) s2 s1 (fun x hx => hr x (List.mem_cons_of_mem _ hx)) ?_ e
      unfold scanRow at hs
      cases hq : runRow r ln (r.length + 1) (twl spc r 0) s with
      | error x => rw [hq] at hs; cases hs
      | ok s3 =>
        rw [hq] at hs
        cases hs
        have h3 := gs_run (hr r List.mem_cons_self) _ _ _ _ h hq
        unfold fin
        split
        · exact gs_app h3 fun m hm => by rw [List.mem_singleton.mp hm]; exact gw_nil rfl
        · exact h3
theorem gs_tokens {l : List Nat} {ms : List Mk} (h : tokensP l = .ok ms) : ∀ m ∈ ms, GW m.k m.w := by
  unfold tokensP at h
  cases hc : checkRows l with
  | error e => rw [hc] at h; cases h
  | ok rs =>
    rw [hc] at h
    have h : ((scanRows rs 1 sc0).bind fun s => (endText s).map Sc.marks) = .ok ms := h
    have hrs : ∀ r ∈ rs, Sg r := by
      unfold checkRows at hc
      split at hc
      · cases hc
      cases hb : badAt (rowsOf l) 1 with
      | some e => rw [hb] at hc; cases hc
      | none =>
        rw [hb] at hc
        have hc : (match longAt (rowsOf l) 1 with
          | some n => (.error (.long, n, 121) : Except Er3 (List (List Nat)))
          | none => .ok (rowsOf l)) = .ok rs := hc
        cases hlg : longAt (rowsOf l) 1 with
        | some n => rw [hlg] at hc; cases hc
        | none =>
          rw [hlg] at hc
          cases hc
          have hbad : ∀ (rows : List (List Nat)) (ln : Nat), badAt rows ln = none → ∀ r ∈ rows, Sg r := by
            intro rows
            induction rows with
            | nil => intro ln _ r hr; cases hr
            | cons a t ih =>
              intro ln hb r hr
              unfold badAt at hb
              cases hx : rowBad a with
              | some j => rw [hx] at hb; cases hb
              | none =>
                rw [hx] at hb
                rcases List.mem_cons.mp hr with h1 | h1
                · rw [h1]
                  intro c hcm
                  unfold rowBad at hx
                  have := List.findIdx?_eq_none_iff.mp hx c hcm
                  have hrc : rowc c = true := by simpa using this
                  have := of_decide_eq_true hrc
                  omega
                · exact ih (ln + 1) hb r h1
          exact hbad _ _ hb
    cases hs : scanRows rs 1 sc0 with
    | error e => rw [hs] at h; cases h
    | ok s =>
      rw [hs] at h
      have h : (endText s).map Sc.marks = .ok ms := h
      have hg := gs_rows rs 1 sc0 s hrs (fun m hm => by cases hm) hs
      unfold endText at h
      split at h
      · cases h
      · cases h
        intro m hm
        rcases List.mem_append.mp hm with h1 | h1
        · exact gs_app hg gs_rep m h1
        · rw [List.mem_singleton.mp h1]; exact gw_nil rfl
end D0
namespace D0
open PySem PySem.Spec PyProof.Rows L2 SX NumText
def dM (m : Mk) : PyData := .tuple [.str (S m.k.cp), dW m.w, .int (m.ln : Nat), .int (m.col : Nat)]
theorem dM_ok {m : Mk} (h : WOk m.w) : (dM m).canLay0 = true ∧ (dM m).depth ≤ 5 := by
  have h1 := strOk_of (cp_ok m.k)
  have h2 : (dW m.w).canLay0 = true ∧ (dW m.w).depth ≤ 2 := by
    cases hw : m.w with
    | s l => rw [hw] at h; exact ⟨by show PyData.canLay0 (.str _) = true; rw [PyData.canLay0]; exact strOk_of h, by show PyData.depth (.str _) ≤ 2; unfold PyData.depth; decide⟩
    | n k => exact ⟨by show PyData.canLay0 (.int _) = true; rw [PyData.canLay0], by show PyData.depth (.int _) ≤ 2; unfold PyData.depth; decide⟩
  unfold dM
  refine ⟨?_, ?_⟩
  · simp only [PyData.canLay0, PyData.canLayAll0, h1, h2.1, Bool.and_true]
  · simp only [PyData.depth, PyData.depthAll]
    have := h2.2
    omega
theorem dMs_ok : ∀ {ms : List Mk}, (∀ m ∈ ms, WOk m.w) → PyData.canLayAll0 (ms.map dM) = true ∧ PyData.depthAll (ms.map dM) ≤ 5
  | [], _ => ⟨rfl, by decide⟩
  | m :: r, h => by
    obtain ⟨a, b⟩ := dMs_ok (ms := r) fun x hx => h x (List.mem_cons_of_mem _ hx)
    obtain ⟨c, d⟩ := dM_ok (h m List.mem_cons_self)
    refine ⟨by rw [List.map_cons, PyData.canLayAll0, a, c]; rfl, ?_⟩
    rw [List.map_cons, PyData.depthAll]
    exact Nat.max_le.mpr ⟨d, b⟩
theorem dMs_shaped {ms : List Mk} (h : ∀ m ∈ ms, WOk m.w) : SeqAt.shaped (.list (ms.map dM)) = true := by
  obtain ⟨a, b⟩ := dMs_ok h
  unfold SeqAt.shaped
  rw [PyData.canLay0, a, PyData.depth]
  exact decide_eq_true (by omega)
theorem dM_shaped {m : Mk} (h : WOk m.w) : SeqAt.shaped (dM m) = true := by
  obtain ⟨a, b⟩ := dM_ok h
  unfold SeqAt.shaped
  rw [a]
  exact decide_eq_true (by omega)
theorem dM_refl {m : Mk} (h : WOk m.w) : PyData.eqv (dM m) (dM m) = true := by
  have := (dM_ok h).1
  unfold dM at this ⊢
  rw [PyData.eqv]
  exact PySem.SeqAt.eqvAll_refl _ (by rw [PyData.canLay0] at this; exact this)
theorem dMs_nil (ms : List Mk) : PyData.eqv (.list (ms.map dM)) (.list []) = decide (ms = []) := by
  cases ms with
  | nil => rfl
  | cons d r => rfl
theorem dM_dp {K : PySem.W.Frag} {H : Hp} {a : Addr} {m : Mk} (h : H a = some (.tup m.vs)) : Dp K H (.ref a) (dM m) := by
  refine .tup (SqT.of h) (.cons (.str _) (.cons ?_ (.cons (.int _) (.cons (.int _) .nil))))
  cases m.w with
  | s l => exact .str _
  | n k => exact .int _
theorem dMs_dp {K : PySem.W.Frag} {H : Hp} : ∀ {us : List V} {ms : List Mk}, Mks H us ms → DpAll K H us (ms.map dM)
  | [], [], _ => .nil
  | [], m :: r, h => by have := h.1; simp at this
  | u :: us, [], h => by have := h.1; simp at this
  | u :: us, m :: r, h => by
    obtain ⟨a, e1, e2⟩ := h.2 0 m rfl
    have : u = .ref a := by simpa using e1
    subst this
    exact .cons (dM_dp e2) (dMs_dp ⟨by have := h.1; simpa using this, fun i x hx => h.2 (i + 1) x (by simpa using hx)⟩)
def spWhole : Sp := fun vs H Q _ => ∃ (i : Int), vs = [.int i] ∧ Q (.bl true) H
def spIsTok : Sp := fun vs H Q _ => ∃ (p : Addr) (us : List V) (ms : List Mk), vs = [.ref p] ∧ H p = some (.lst us) ∧ Mks H us ms ∧ (∀ m ∈ ms, GW m.k m.w) ∧ Q (.bl true) H
theorem gw_ok {k : Kd} {w : Wd} (h : GW k w) : WOk w := by
  rcases h with ⟨_, n, rfl⟩ | ⟨_, l, rfl, hl⟩
  · trivial
  · exact hl
section
variable {P : Program} {w : World} {K : PySem.W.Frag} {mg : Str → Option Value} {base : Heap} {ec : Er → Addr}
theorem ok__law_whole (T : Txt K w mg) : OkD P w K mg base CX0 1 "_law_whole" p__law_whole spWhole := by
  refine T.g__law_whole.ok sc__law_whole (fun vs H Q E h => ?_) (fun f cdv A outer s H vs Q E hr h => ?_)
  · obtain ⟨i, rfl, _⟩ := h; rfl
  obtain ⟨i, rfl, q⟩ := h
  refine ⟨_, (pss_one (ps_ret (pe_and (pe_callB call_isi (by rfl) T.z_isinstance PyProof.Rows.boot_isinstance (pa_cons (pv 0) (pa_cons (pe_bltn (v := .ty "int") rfl T.z_int PyProof.Rows.boot_int rfl) pa_nil))) (pe_one (pe_not (pe_callB call_isi (by rfl) T.z_isinstance PyProof.Rows.boot_isinstance (pa_cons (pv 0) (pa_cons (pe_bltn (v := .ty "bool") rfl T.z_bool PyProof.Rows.boot_bool rfl) pa_nil)))))))), ?_⟩
  refine ⟨_, rfl, _, _, _, _, _, rfl, .ty _, .base (.int i), kit_ty (by decide +kernel : kitB "int" "int" = some true), _, rfl, ?_⟩
  exact iteT ⟨_, rfl, _, _, _, _, _, rfl, .ty _, .base (.int i), kit_ty (by decide +kernel : kitB "int" "bool" = some false), _, rfl, q⟩
theorem ok__law_is_tokens (T : Txt K w mg) (Ow : OkD P w K mg base CX0 1 "_law_whole" p__law_whole spWhole) : OkD P w K mg base CX0 2 "_law_is_tokens" p__law_is_tokens spIsTok := by
  refine T.g__law_is_tokens.ok sc__law_is_tokens (fun vs H Q E h => ?_) (fun f cdv A outer s H vs Q E hr h => ?_)
  · obtain ⟨p, us, ms, rfl, _⟩ := h; rfl
  obtain ⟨p, us, ms, rfl, hp, hm, hok, q⟩ := h
  refine ⟨_, (pss_cons (ps_if (pt_not (pt_val (pe_callB call_isi (by rfl) T.z_isinstance PyProof.Rows.boot_isinstance (pa_cons (pv 0) (pa_cons (pe_bltn (v := .ty "list") rfl T.z_list PyProof.Rows.boot_list rfl) pa_nil))))) (pss_one (ps_ret pe_bl)) pss_nil)
      (pss_cons (ps_for PassesOwn.never rfl (pi_list (pv 0)) (pg_name (i := 1) sc__law_is_tokens.nd rfl (Or.inl rfl)) (pss_cons (ps_if (PW.pt (pw_or (pt_not (pt_val (pe_callB call_isi (by rfl) T.z_isinstance PyProof.Rows.boot_isinstance (pa_cons (pv 1) (pa_cons (pe_bltn (v := .ty "tuple") rfl T.z_tuple PyProof.Rows.boot_tuple rfl) pa_nil))))) (pw_or (pt_cmpR op_ne (pe_callB call_len_seq (by rfl) T.z_len PySem.boot_len (pa_cons (pv 1) pa_nil)) pe_int (nomark _)) (pw_or1 (pt_not (pt_val (pe_callB call_isi (by rfl) T.z_isinstance PyProof.Rows.boot_isinstance (pa_cons (pe_ix ix_tup (pv 1) pe_int (fun _ _ => rfl)) (pa_cons (pe_bltn (v := .ty "str") rfl T.z_str PyProof.Rows.boot_str rfl) pa_nil))))))))) (pss_one (ps_ret pe_bl)) pss_nil)
      (pss_cons (ps_if (PW.pt (pw_or (pt_not (pt_val (pcall Ow hr (pa_cons (pe_ix ix_tup (pv 1) pe_int (fun _ _ => rfl)) pa_nil)))) (pw_or1 (pt_not (pt_val (pcall Ow hr (pa_cons (pe_ix ix_tup (pv 1) pe_int (fun _ _ => rfl)) pa_nil))))))) (pss_one (ps_ret pe_bl)) pss_nil)
      (pss_one (ps_if (PW.pt (pw_and (pt_not (pt_val (pe_callB call_isi (by rfl) T.z_isinstance PyProof.Rows.boot_isinstance (pa_cons (pe_ix ix_tup (pv 1) pe_int (fun _ _ => rfl)) (pa_cons (pe_bltn (v := .ty "str") rfl T.z_str PyProof.Rows.boot_str rfl) pa_nil))))) (pw_and1 (PW.pt (pw_or (pt_cmpR op_ne (pe_ix ix_tup (pv 1) pe_int (fun _ _ => rfl)) pe_str (nomark _)) (pw_or1 (pt_not (pt_val (pcall Ow hr (pa_cons (pe_ix ix_tup (pv 1) pe_int (fun _ _ => rfl)) pa_nil)))))))))) (pss_one (ps_ret pe_bl)) pss_nil)))))
      (pss_one (ps_ret pe_bl)))), ?_⟩
  have zn : Str.ofString "number" = S (Kd.cp .number) := by decide +kernel
  refine ⟨_, rfl, _, _, _, _, _, rfl, .ty _, .base (.lst hp), kit_ty (by decide +kernel : kitB "list" "list" = some true), _, rfl, iteF' rfl ?_⟩
  refine ⟨_, rfl, p, rfl, ⟨_, SqL.of hp⟩, for_it (walk_list (xs := us)) (fun j σ H' => (∃ y, σ = [some (.ref p), y]) ∧ H' = H) ⟨⟨none, rfl⟩, rfl⟩ (fun j σ H' _ h => by obtain ⟨_, rfl⟩ := h; exact SqL.of hp) ?_ ?_⟩
  · rintro j x σ H1 H2 hj ⟨⟨y, rfl⟩, rfl⟩ ⟨rfl, hx⟩
    rw [hm.1] at hj
    have hmj : ms[j]? = some ms[j] := List.getElem?_eq_getElem hj
    obtain ⟨a, ha, hta⟩ := hm.2 j _ hmj
    have : x = .ref a := Option.some.inj (hx.symm.trans ha)
    subst this
    have k0 := hok _ (List.getElem_mem hj)
    generalize ms[j] = m at *
    have hT : SqT K H2 a m.vs := SqT.of hta
    have a0 : atI m.vs (0 : Int) = some (.str (S m.k.cp)) := atI_nat (j := 0) rfl
    have a1 : atI m.vs (1 : Int) = some m.w.v := atI_nat (j := 1) rfl
    have a2 : atI m.vs (2 : Int) = some (.int (m.ln : Nat)) := atI_nat (j := 2) rfl
    have a3 : atI m.vs (3 : Int) = some (.int (m.col : Nat)) := atI_nat (j := 3) rfl
    refine ⟨_, rfl, _, _, _, _, _, rfl, .ty _, .base (.tup hta), kit_ty (by decide +kernel : kitB "tuple" "tuple" = some true), _, rfl, iteF' rfl ?_⟩
    refine ⟨_, rfl, a, _, rfl, .inr hT, rfl, _, rfl, iteF' (by show (!decide (V.int ((4 : Nat) : Int) = V.int 4)) = false; rfl) ?_⟩
    refine ⟨_, rfl, a, _, 0, _, rfl, rfl, hT, a0, _, _, _, _, _, rfl, .ty _, .base (.str _), kit_ty (by decide +kernel : kitB "str" "str" = some true), _, rfl, iteF' rfl ?_⟩
    refine ⟨_, rfl, a, _, 2, _, rfl, rfl, hT, a2, _, rfl, _, rfl, iteF' rfl ?_⟩
    refine ⟨_, rfl, a, _, 3, _, rfl, rfl, hT, a3, _, rfl, _, rfl, iteF' rfl ?_⟩
    have e1 : decide (V.str (S m.k.cp) = V.str (Str.ofString "number")) = isN m.k := by
      rw [zn, str_dec]; cases m.k <;> rfl
    rcases k0 with ⟨hN, n, hw⟩ | ⟨hN, l, hw, _⟩
    · rw [hw] at a1
      refine ⟨_, rfl, a, _, 1, _, rfl, rfl, hT, a1, _, _, _, _, _, rfl, .ty _, .base (.int _), kit_ty (by decide +kernel : kitB "int" "str" = some false), _, rfl, iteT' rfl ?_⟩
      refine ⟨_, rfl, a, _, 0, _, rfl, rfl, hT, a0, rfl, _, rfl, iteF' (by show (!decide (V.str (S m.k.cp) = V.str (Str.ofString "number"))) = false; rw [e1, hN]; rfl) ?_⟩
      exact ⟨_, rfl, a, _, 1, _, rfl, rfl, hT, a1, _, rfl, _, rfl, iteF' rfl ⟨⟨_, rfl⟩, rfl⟩⟩
    · rw [hw] at a1
      exact ⟨_, rfl, a, _, 1, _, rfl, rfl, hT, a1, _, _, _, _, _, rfl, .ty _, .base (.str _), kit_ty (by decide +kernel : kitB "str" "str" = some true), _, rfl, iteF' rfl ⟨⟨_, rfl⟩, rfl⟩⟩
  · rintro σ H1 ⟨⟨y, rfl⟩, rfl⟩
    exact q
end
end D0
namespace D0
open PySem PySem.Spec PyProof.Rows L2 SX NumText
theorem countIn_strs (k : Str) : ∀ ys : List Str, countIn (.str k) (ys.map PyData.str) = ((ys.count k : Nat) : Int)
  | [] => rfl
  | y :: r => by
    rw [List.map_cons, countIn, countIn_strs k r, List.count_cons]
    simp only [same]
    rcases Bool.eq_false_or_eq_true (y == k) with hb | hb <;> simp only [hb, Bool.false_eq_true, if_true, if_false] <;> push_cast <;> omega
/-- a text counted in a list of texts -/
def rCntS (K : PySem.W.Frag) : V → List V → Hp → VK → Prop := fun x xs H Q => ∃ (p : Addr) (ys : List Str) (k : Str), x = .ref p ∧ xs = [.str k] ∧ SqL K H p (ys.map V.str) ∧ Q (.int ((ys.count k : Nat) : Int)) H
theorem mt_countS {X : Cx} : MtR X "list.count" (rCntS X.K) := by
  intro pins s σ H x xs v us Q I rx rxs h
  obtain ⟨p, ys, k, rfl, rfl, hs, q⟩ := h
  cases rx
  obtain ⟨u, rfl, ru⟩ := rxs.one
  obtain ⟨t, rfl⟩ := ru
  obtain ⟨its, rv, hl, hlen⟩ := I.list hs
  obtain ⟨o, n, ho, hc, hdn, hd⟩ := hl
  refine count_list_strs (vs := its) ⟨o, ho, hc, n, hd⟩ (strs_of_vals rv) ⟨.int ((ys.count k : Nat) : Int), H, I.tok _, ⟨s.toks, ?_⟩, q⟩
  rw [countIn_strs]
end D0
namespace D0
open PySem PySem.Spec PyProof.Rows L2 SX NumText
def spGood2 : Sp := fun vs H Q _ => ∃ (m : Bool) (ra : Addr) (es : List RE), vs = [.ref ra] ∧ PgF m H ra es ∧ faultF (rsE es) = none ∧ ∀ H', Q (.bl true) H'
/-- the page's tokens, when nothing is wrong -/
theorem PgF.good {m : Bool} {H : Hp} {ra : Addr} {es : List RE} (x : PgF m H ra es) : (∀ e, faultF (rsE es) = some e → tokensP (TL.joinL [10] (txts (rsE es))) = .error e) ∧ (faultF (rsE es) = none → ∃ ms, tokensP (TL.joinL [10] (txts (rsE es))) = .ok ms ∧ Msd (rsE es) ms) := by
  refine page_tok (m := m) (fun z => x.ne (List.map_eq_nil_iff.mp z)) (fun r hr h => ?_) (fun hb r hr => ?_)
  · obtain ⟨e, he, rfl⟩ := List.mem_map.mp hr
    rcases x.ch e he 10 h with h | h
    · revert h; decide
    · cases h
  · obtain ⟨e, he, rfl⟩ := List.mem_map.mp hr
    rcases x.ok with h | ⟨_, e9, he9, h9⟩
    · exact h e he
    · exfalso
      have h1 := badAt_in hb e9.r.txt (List.mem_map.mpr ⟨e9.r, List.mem_map.mpr ⟨e9, he9, rfl⟩, rfl⟩)
      unfold rowBad at h1
      rw [List.findIdx?_eq_none_iff] at h1
      exact absurd (h1 9 h9) (by decide)
theorem none_items {m : Bool} {H : Hp} {ra : Addr} {es : List RE} (x : PgF m H ra es) (h : faultF (rsE es) = none) : (∀ e ∈ es, ROk m e.r) := by
  rcases x.ok with h' | ⟨_, e9, he9, h9⟩
  · exact h'
  · exfalso
    unfold faultF at h
    split at h
    · cases h
    · split at h
      · cases h
      · rename_i hb
        have h1 := badAt_in hb e9.r.txt (List.mem_map.mpr ⟨e9.r, List.mem_map.mpr ⟨e9, he9, rfl⟩, rfl⟩)
        unfold rowBad at h1
        rw [List.findIdx?_eq_none_iff] at h1
        exact absurd (h1 9 h9) (by decide)
theorem rowsF_off : ∀ {rs : List LR} {ln : Nat} {t t' : LS}, rowsF rs ln t = .ok t' → ∀ r ∈ rs, ∀ p ∈ r.ps, p.it.off = none := by
  have one : ∀ {ln : Nat} {ps : List Pc} {t t' : LS}, piecesF ln t ps = .ok t' → ∀ p ∈ ps, p.it.off = none := by
    intro ln ps
    induction ps with
    | nil => intro t t' _ p hp; cases hp
    | cons p0 ps ih =>
      intro t t' h p hp
      have h : (pieceF ln t p0).bind (fun t' => piecesF ln t' ps) = .ok t' := h
      cases hc : pieceF ln t p0 with
      | error e => rw [hc] at h; cases h
      | ok t1 =>
        rw [hc] at h
        rcases List.mem_cons.mp hp with e | hp
        · rw [e]
          unfold pieceF at hc
          split at hc
          · cases hc
          split at hc
          · cases hc
          rename_i ho
          exact ho
        · exact ih h p hp
  intro rs
  induction rs with
  | nil => intro ln t t' _ r hr; cases hr
  | cons r0 rs ih =>
    intro ln t t' h r hr p hp
    have h : ((piecesF ln t r0.ps).map closeF).bind (rowsF rs (ln + 1)) = .ok t' := h
    cases hc : piecesF ln t r0.ps with
    | error e => rw [hc] at h; cases h
    | ok t1 =>
      rw [hc] at h
      rcases List.mem_cons.mp hr with e | hr
      · rw [e] at hp; exact one hc p hp
      · exact ih h r hr p hp
theorem none_off {rs : List LR} (h : faultF rs = none) : ∀ r ∈ rs, ∀ p ∈ r.ps, p.it.off = none := by
  unfold faultF at h
  split at h
  · cases h
  split at h
  · cases h
  split at h
  · cases h
  cases hc : rowsF rs 1 ls0 with
  | error e => rw [hc] at h; cases h
  | ok t => exact rowsF_off hc
theorem dueF_snoc : ∀ (rs : List LR) (r : LR) (ln : Nat), dueF (rs ++ [r]) ln = dueF rs ln ++ r.ps.map (mkOf (ln + rs.length))
  | [], r, ln => by show r.ps.map _ ++ [] = [] ++ _; rw [List.append_nil, List.nil_append]; rfl
  | x :: rs, r, ln => by
    show x.ps.map (mkOf ln) ++ dueF (rs ++ [r]) (ln + 1) = (x.ps.map (mkOf ln) ++ dueF rs (ln + 1)) ++ _
    rw [dueF_snoc rs r (ln + 1), List.append_assoc, List.length_cons, show ln + 1 + rs.length = ln + (rs.length + 1) by omega]
theorem sum_eq : ∀ l : List (List Nat), ((l.map S).map (·.length)).sum + (l.map S).length * (S [10]).length = sumL l
  | [] => rfl
  | x :: r => by
    have ih := sum_eq r
    have e1 : (S [10]).length = 1 := rfl
    rw [e1, Nat.mul_one] at ih ⊢
    rw [List.map_cons, List.map_cons, List.sum_cons, List.length_cons]
    show (S x).length + _ + (_ + 1) = (x.length + 1) + sumL r
    rw [S_len, ← ih]; omega
theorem none_sum {rs : List LR} (h : faultF rs = none) : sumL (txts rs) ≤ 6001 := by
  unfold faultF at h
  split at h
  · cases h
  · omega
theorem mkOf_vs {e : RE} {p : Pc} {i : Nat} (h : p.it.off = none) : ∃ v, p.vs[3]? = some v ∧ v = p.it.w.v := ⟨_, rfl, by rw [h]⟩
theorem Mks.app2 {H : Hp} {us vs : List V} {ms ns : List Mk} (h : Mks H us ms) (h2 : Mks H vs ns) : Mks H (us ++ vs) (ms ++ ns) := by
  refine ⟨by rw [List.length_append, List.length_append, h.1, h2.1], fun i m hm => ?_⟩
  by_cases c : i < ms.length
  · rw [List.getElem?_append_left c] at hm
    obtain ⟨a, e1, e2⟩ := h.2 i m hm
    exact ⟨a, by rw [List.getElem?_append_left (by rw [h.1]; exact c)]; exact e1, e2⟩
  · rw [List.getElem?_append_right (by omega)] at hm
    obtain ⟨a, e1, e2⟩ := h2.2 _ m hm
    exact ⟨a, by rw [List.getElem?_append_right (by rw [h.1]; omega), h.1]; exact e1, e2⟩
theorem scanRows_len : ∀ (rows : List (List Nat)) (ln : Nat) (s s' : Sc), scanRows rows ln s = .ok s' → SI s → (∀ r ∈ rows, r.length ≤ 120) → SI s' ∧ s'.marks.length ≤ s.marks.length + 1700 * rows.length
  | [], ln, s, s', h, hs, _ => by cases h; exact ⟨hs, by simp⟩
  | r :: rs, ln, s, s', h, hs, hl => by
    have h : (scanRow r ln s).bind (scanRows rs (ln + 1)) = .ok s' := h
    cases hr : scanRow r ln s with
    | error e => rw [hr] at h; cases h
    | ok s1 =>
      rw [hr] at h
      obtain ⟨a, b⟩ := scanRow_ok hr hs (hl r List.mem_cons_self)
      obtain ⟨c, d⟩ := scanRows_len rs (ln + 1) s1 s' h a (fun x hx => hl x (List.mem_cons_of_mem _ hx))
      refine ⟨c, ?_⟩
      rw [List.length_cons]; omega
theorem tok_len {l : List Nat} {ms : List Mk} (h : tokensP l = .ok ms) : ms.length ≤ 1700 * (rowsOf l).length + 20 := by
  unfold tokensP at h
  cases hc : checkRows l with
  | error e => rw [hc] at h; cases h
  | ok rs =>
    rw [hc] at h
    have h : ((scanRows rs 1 sc0).bind fun s => (endText s).map Sc.marks) = .ok ms := h
    unfold checkRows at hc
    split at hc
    · cases hc
    split at hc
    · cases hc
    split at hc
    · cases hc
    rename_i hlong
    cases hc
    cases hs : scanRows (rowsOf l) 1 sc0 with
    | error e => rw [hs] at h; cases h
    | ok s =>
      rw [hs] at h
      have si0 : SI sc0 := ⟨⟨rfl, by decide⟩, by decide, (fun b hb => by cases hb), by decide, by decide⟩
      obtain ⟨a, b⟩ := scanRows_len _ _ _ _ hs si0 (longAt_le hlong)
      have h : (endText s).map Sc.marks = .ok ms := h
      unfold endText at h
      split at h
      · cases h
      · cases h
        show ((s.marks ++ List.replicate _ _) ++ [_]).length ≤ _
        have := a.il
        rw [List.length_append, List.length_append, List.length_replicate]
        have e0 : sc0.marks.length = 0 := rfl
        show _ + _ + 1 ≤ _
        omega
def KS4 : List (List Nat) := [Kd.newline.cp, Kd.indent.cp, Kd.dedent.cp, Kd.fin.cp]
theorem ks4 (k : Kd) : (!decide (k.cp ∈ KS4)) = isPl k := by cases k <;> decide +kernel
theorem cntK {k0 : Kd} {f : Kd → Bool} (h : ∀ k : Kd, (S k.cp == S k0.cp) = f k) (ms : List Mk) : ((ms.map fun m => S m.k.cp).count (S k0.cp)) = cnt f ms := by
  unfold cnt
  rw [List.count, List.countP_map]
  congr 1
  funext m
  exact h m.k
theorem nl_k : ∀ k : Kd, (S k.cp == S Kd.newline.cp) = isNl k := by intro k; cases k <;> decide +kernel
theorem in_k : ∀ k : Kd, (S k.cp == S Kd.indent.cp) = isIn k := by intro k; cases k <;> decide +kernel
theorem de_k : ∀ k : Kd, (S k.cp == S Kd.dedent.cp) = isDe k := by intro k; cases k <;> decide +kernel
theorem fi_k : ∀ k : Kd, (S k.cp == S Kd.fin.cp) = isFi k := by intro k; cases k <;> decide +kernel
section
variable {P : Program} {w : World} {K : PySem.W.Frag} {mg : Str → Option Value} {base : Heap} {ec : Er → Addr}
theorem ok__law_is_good (T : Txt K w mg) (Ot : OkD P w K mg base (L2.CX P w) 6 "tokens" p_tokens (spTokens ec)) (Oi : OkD P w K mg base CX0 2 "_law_is_tokens" p__law_is_tokens spIsTok) (Ol : OkD P w K mg base CX0 1 "_law_logical_lines" p__law_logical_lines spLines) :
    OkD P w K mg base CX0 7 "_law_is_good" p__law_is_good spGood2 := by
  refine T.g__law_is_good.ok sc__law_is_good (fun vs H Q E h => ?_) (fun f cdv A outer s H vs Q E hr h => ?_)
  · obtain ⟨m, ra, es, rfl, _⟩ := h; rfl
  obtain ⟨m, ra, es, rfl, hpg, hnone, q⟩ := h
  have lim : (1100000 : Nat) ≤ sizeLine := by decide
  obtain ⟨ms, htk, M⟩ := hpg.good.2 hnone
  refine ⟨_, (pss_cons (ps_set (i := 2) sc__law_is_good.nd rfl (.inl rfl) (pcallE Ot hr passL (pa_cons (pe_bm PySem.F.plainAttrs_str PySem.F.slot_str_join PySem.F.type_str_join mt_join pe_str (pa_cons (pe_lc (own := [("row", 1)]) (g := gName 1) (tt := tYes) rfl sc__law_is_good.nd (pi_list (pv 0)) (blkOk_by (own := [("row", 1)]) (N := n__law_is_good) (sc := defScope s__law_is_good) (by decide +kernel))
        (fun _ _ _ _ _ => (pg_name (i := 1) sc__law_is_good.nd rfl (Or.inl rfl))) (fun _ _ _ _ _ => pts_nil) (fun _ _ _ _ _ => (pe_ix (show IxR _ (rIxL K) from ix_list) (pv 1) pe_int (fun _ _ => rfl)))) pa_nil)) pa_nil)))
      (pss_cons (ps_if (pt_not (pt_val (pcall Oi hr (pa_cons (pv 2) pa_nil)))) (pss_one (ps_ret pe_bl)) pss_nil)
      (pss_cons (ps_set (i := 3) sc__law_is_good.nd rfl (.inl rfl) (pe_lst pa_nil))
      (pss_cons (ps_for PassesOwn.never rfl (pi_range1 rfl T.z_range (pa_cons (pe_callB call_len_seq (by rfl) T.z_len PySem.boot_len (pa_cons (pv 0) pa_nil)) pa_nil)) (pg_name (i := 1) sc__law_is_good.nd rfl (Or.inr rfl)) (pss_one (ps_expr (pe_bm PySem.F.plainAttrs_list PySem.F.slot_list_extend PySem.F.type_list_extend mt_extend (pv 3) (pa_cons (pe_lc (own := [("piece", 7)]) (g := gName 7) (tt := tYes) rfl sc__law_is_good.nd (pi_list (pe_ix ix_list (pe_ix ix_list (pv 0) (pv 1) (fun _ _ => rfl)) pe_int (fun _ _ => rfl))) (blkOk_by (own := [("piece", 7)]) (N := n__law_is_good) (sc := defScope s__law_is_good) (by decide +kernel))
        (fun _ _ _ _ _ => (pg_name (i := 7) sc__law_is_good.nd rfl (Or.inl rfl))) (fun _ _ _ _ _ => pts_nil) (fun _ _ _ _ _ => (pe_tup (pa_cons (pe_ix (show IxR _ (rIxL K) from ix_list) (pv 7) pe_int (fun _ _ => rfl)) (pa_cons (pe_ix (show IxR _ (rIxL K) from ix_list) (pv 7) pe_int (fun _ _ => rfl)) (pa_cons (pe_op op_add (pv 1) pe_int) (pa_cons (pe_op op_add (pe_ix (show IxR _ (rIxL K) from ix_list) (pv 7) pe_int (fun _ _ => rfl)) pe_int) pa_nil))))))) pa_nil)))))
      (pss_cons (ps_setLc (i := 4) (own := [("token", 6)]) (g := gName 6) (tt := tYes) rfl sc__law_is_good.nd rfl rfl rfl (pi_list (pv 2)) (blkOk_by (own := [("token", 6)]) (N := n__law_is_good) (sc := defScope s__law_is_good) (by decide +kernel)) (fun _ _ _ _ _ => (pg_name (i := 6) sc__law_is_good.nd rfl (Or.inl rfl))) (fun _ _ _ _ _ => pts_nil) (fun _ _ _ _ _ => (pe_ix (show IxR _ (rIxT K) from ix_tup) (pv 6) pe_int (fun _ _ => rfl))))
      (pss_cons (ps_setLc (i := 5) (own := [("token", 6)]) (g := gName 6) rfl sc__law_is_good.nd rfl rfl rfl (pi_list (pv 2)) (blkOk_by (own := [("token", 6)]) (N := n__law_is_good) (sc := defScope s__law_is_good) (by decide +kernel)) (fun _ _ _ _ _ => (pg_name (i := 6) sc__law_is_good.nd rfl (Or.inl rfl))) (fun _ _ _ _ _ => pts_one (pt_cmpR (show OpR _ _ (rIn K true) from op_notIn_seq) (pe_ix (show IxR _ (rIxT K) from ix_tup) (pv 6) pe_int (fun _ _ => rfl)) (pe_lst (pa_cons pe_str (pa_cons pe_str (pa_cons pe_str (pa_cons pe_str pa_nil))))) (by rfl))) (fun _ _ _ _ _ => (pv 6)))
      (pss_cons (ps_if (PW.pt (pw_or (pt_cmpR (op_neD hr.units) (pv 5) (pv 3) (nomark _)) (pw_or1 (pt_cmpR op_ne (pe_bm PySem.F.plainAttrs_list PySem.F.slot_list_count PySem.F.type_list_count mt_countS (pv 4) (pa_cons pe_str pa_nil)) (pcall Ol hr (pa_cons (pv 0) pa_nil)) (nomark _))))) (pss_one (ps_ret pe_bl)) pss_nil)
      (pss_cons (ps_if (PW.pt (pw_or (pt_cmpR op_ne (pe_bm PySem.F.plainAttrs_list PySem.F.slot_list_count PySem.F.type_list_count mt_countS (pv 4) (pa_cons pe_str pa_nil)) (pe_bm PySem.F.plainAttrs_list PySem.F.slot_list_count PySem.F.type_list_count mt_countS (pv 4) (pa_cons pe_str pa_nil)) (nomark _)) (pw_or1 (pt_cmpR op_ne (pe_bm PySem.F.plainAttrs_list PySem.F.slot_list_count PySem.F.type_list_count mt_countS (pv 4) (pa_cons pe_str pa_nil)) pe_int (nomark _))))) (pss_one (ps_ret pe_bl)) pss_nil)
      (pss_one (ps_ret (pe_cmpR op_eq (pe_ix ix_list (pv 4) (pe_un un_neg pe_int) (fun _ _ => rfl)) pe_str (nomark _)))))))))))), ?_⟩
  have hlenE : (es.map fun e => V.ref e.a).length = es.length := List.length_map _
  have hel := hpg.len
  refine ⟨rfl, _, rfl, ra, rfl, ⟨_, SqL.of hpg.at_⟩, fun D hD => ?_⟩
  refine lc_it (walk_list (xs := es.map fun e => V.ref e.a)) (fun i H' => Same H H' ∧ H' D = some (.lst ((es.take i).map fun e => V.str (S e.r.txt)))) ⟨same_new hD _, upd_same⟩ (fun i H' _ h => SqL.of (h.1 _ _ hpg.at_)) ?_ ?_
  · rintro i x H3 H4 hi ⟨sm, hl⟩ ⟨rfl, hx⟩
    rw [List.getElem?_map] at hx
    obtain ⟨e, he, rfl⟩ := Option.map_eq_some_iff.mp hx
    have hrow := (hpg.row e (List.mem_of_getElem? he)).same sm
    refine ⟨rfl, iteT (B := True) (iteT ?_)⟩
    refine ⟨_, rfl, e.a, _, 0, _, rfl, rfl, SqL.of hrow.at_, rfl, _, hl, by rw [List.length_map, List.length_take]; omega, same_upd sm hD, ?_⟩
    rw [upd_same, List.take_add_one, he, List.map_append]; rfl
  rintro H1 ⟨sm1, hl1⟩
  rw [List.length_map, List.take_length] at hl1
  have etx : (es.map fun e => V.str (S e.r.txt)) = ((txts (rsE es)).map S).map V.str := by rw [tx_es, List.map_map, List.map_map]; rfl
  rw [etx] at hl1
  have z10 : Str.ofString "\n" = S [10] := by decide +kernel
  rw [z10]
  refine ⟨S [10], D, (txts (rsE es)).map S, rfl, rfl, .inl (SqL.of hl1), by rw [sum_eq]; have := none_sum hnone; omega, ?_⟩
  rw [join_S]
  have hjl := join_len (txts (rsE es)) (fun z => hpg.ne (by rw [tx_es] at z; exact List.map_eq_nil_iff.mp z))
  have hs6 := none_sum hnone
  refine ⟨TL.joinL [10] (txts (rsE es)), rfl, by show _ ≤ 1000000; omega, fun e he => ?_, fun ms' hms H2 tp us s2 htp htp2 hmk => ?_⟩
  · rw [htk] at he; cases he
  rw [htk] at hms
  cases hms
  have hgw := gs_tokens htk
  have hml : ms.length ≤ 1000000 := by
    have h1 := tok_len htk
    have hrw := rowsOf_join (txts (rsE es)) (fun r hr => by
      obtain ⟨x, hx, rfl⟩ := List.mem_map.mp hr
      obtain ⟨e, he, rfl⟩ := List.mem_map.mp hx
      intro h
      rcases hpg.ch e he 10 h with h | h
      · revert h; decide
      · cases h) (fun z => hpg.ne (by rw [tx_es] at z; exact List.map_eq_nil_iff.mp z))
    rw [hrw, tx_es, List.length_map] at h1
    omega
  have hok : ∀ m ∈ ms, WOk m.w := fun m hm => gw_ok (hgw m hm)
  have sm2 := sm1.trans s2
  refine ⟨_, rfl, tp, us, ms, rfl, htp2, hmk, hgw, _, rfl, iteF' rfl ?_⟩
  refine ⟨by show 0 ≤ sizeLine; omega, fun d hd => ?_⟩
  generalize hH3 : upd H2 d _ = H3
  have s3 : Same H2 H3 := by rw [← hH3]; exact same_new hd _
  have hoff := none_off hnone
  refine ⟨_, rfl, ra, _, rfl, .inl (SqL.of ((sm2.trans s3) _ _ hpg.at_)), ((es.length : Nat) : Int), by rw [hlenE], by omega, by omega, ?_⟩
  refine for_range (lo := 0) (n := (((es.length : Nat) : Int)).toNat) (fun i σ H' => ∃ (us2 : List V) (y1 y6 y7 : Option V), σ = [some (.ref ra), y1, some (.ref tp), some (.ref d), none, none, none, none] ∧ (∀ a o, a ≠ d → H2 a = some o → H' a = some o) ∧ H' d = some (.lst us2) ∧ Mks H' us2 (dueF ((rsE es).take i) 1) ∧ us2.length ≤ 300 * i) ⟨[], none, none, none, rfl, fun a o n h => by rw [← hH3, upd_ne n]; exact h, by rw [← hH3]; exact upd_same, Mks.nil, Nat.zero_le _⟩ ?_ ?_
  · rintro i σ H4 hi ⟨us2, y1, y6, y7, rfl, kp, hd4, hm4, hl4⟩
    rw [Int.toNat_natCast] at hi
    have gi := List.getElem?_eq_getElem hi
    generalize es[i]'_ = e at gi
    have he := List.mem_of_getElem? gi
    have smd : ∀ a o, H a = some o → H4 a = some o := fun a o h => kp a o (ne_of_none (sm2 _ _ h) hd) (sm2 _ _ h)
    have hrow0 := hpg.row e he
    have hrow := hrow0.keep fun a _ o h => smd a o h
    have hsz := (hpg.sz e he).2
    have hat : atI (es.map fun e => V.ref e.a) (((0 : Int) + (i : Nat))) = some (.ref e.a) := by rw [Int.zero_add]; exact atI_nat (by rw [List.getElem?_map, gi]; rfl)
    have hofe : ∀ p ∈ e.r.ps, p.it.off = none := hoff e.r (List.mem_map.mpr ⟨e, he, rfl⟩)
    refine ⟨_, rfl, .inl ⟨rfl, _, SqL.of hd4⟩, ?_⟩
    refine ⟨_, rfl, _, rfl, ra, _, _, .ref e.a, rfl, rfl, SqL.of (smd _ _ hpg.at_), hat, e.a, _, 1, .ref e.pl, rfl, rfl, SqL.of hrow.at_, rfl, e.pl, rfl, ⟨_, SqL.of hrow.pl⟩, fun D2 hD2 => ?_⟩
    refine lc_it (walk_list (xs := e.pa.map V.ref)) (fun j H' => Same H4 H' ∧ ∃ vs, H' D2 = some (.lst vs) ∧ Mks H' vs ((e.r.ps.take j).map (mkOf (i + 1)))) ⟨same_new hD2 _, [], upd_same, Mks.nil⟩ (fun j H' _ h => SqL.of (h.1 _ _ hrow.pl)) ?_ ?_
    · rintro j x H5 H6 hj ⟨sm5, vs, hl5, hm5⟩ ⟨rfl, hx⟩
      rw [List.length_map, hrow0.len] at hj
      have gj := List.getElem?_eq_getElem hj
      generalize e.r.ps[j]'_ = p at gj
      obtain ⟨a, ha1, ha2⟩ := hrow.ps j p gj
      rw [List.getElem?_map, ha1] at hx
      cases hx
      have ha6 := sm5 _ _ ha2
      have ix3 : atI p.vs (3 : Int) = some p.it.w.v := by
        show some _ = _
        rw [hofe p (List.mem_of_getElem? gj)]
      refine ⟨rfl, iteT (B := True) (iteT ?_)⟩
      refine ⟨_, rfl, a, _, 2, .str (S p.it.k.cp), rfl, rfl, SqL.of ha6, rfl, _, rfl, a, _, 3, p.it.w.v, rfl, rfl, SqL.of ha6, ix3, _, rfl, _, _, rfl, rfl, _, rfl, a, _, 0, .int (p.a : Nat), rfl, rfl, SqL.of ha6, rfl, _, _, rfl, rfl, by show 4 ≤ sizeLine; omega, fun t ht => ?_⟩
      have s7 := same_new ht (.tup [.str (S p.it.k.cp), p.it.w.v, .int ((0 : Int) + (i : Nat) + 1), .int ((p.a : Int) + 1)])
      have ht7 : upd H6 t (.tup [.str (S p.it.k.cp), p.it.w.v, .int ((0 : Int) + (i : Nat) + 1), .int ((p.a : Int) + 1)]) t = some (.tup (mkOf (i + 1) p).vs) := by
        rw [upd_same, Int.zero_add]; rfl
      have hvl : vs.length = j := by rw [hm5.1, List.length_map, List.length_take]; omega
      refine ⟨_, s7 _ _ hl5, by omega, same_upd (sm5.trans s7) hD2, vs ++ [.ref t], upd_same, ?_⟩
      rw [List.take_add_one, gj, List.map_append]
      refine Mks.snoc (Mks.mono hm5 fun a' t' e' => ?_) ?_
      · rw [upd_ne (fun z => by rw [z, hl5] at e'; cases e')]; exact s7 _ _ e'
      · rw [upd_ne (fun z => by rw [z, hl5] at ht; cases ht)]; exact ht7
    · rintro H5 ⟨sm5, vs, hl5, hm5⟩
      rw [List.length_map, hrow0.len, List.take_length] at hm5
      have hvl : vs.length = e.r.ps.length := by rw [hm5.1, List.length_map]
      refine ⟨d, D2, us2, vs, rfl, rfl, sm5 _ _ hd4, hl5, by omega, ?_⟩
      have mono : ∀ a t', H5 a = some (.tup t') → upd H5 d (.lst (us2 ++ vs)) a = some (.tup t') := fun a t' e' => by rw [upd_ne (fun z => by rw [z, sm5 _ _ hd4] at e'; cases e')]; exact e'
      refine ⟨us2 ++ vs, _, none, none, rfl, fun a o n h => by rw [upd_ne n]; exact sm5 _ _ (kp a o n h), upd_same, ?_, by rw [List.length_append]; omega⟩
      have hdr : (rsE es).take (i + 1) = (rsE es).take i ++ [e.r] := by rw [List.take_add_one, List.getElem?_map, gi]; rfl
      have htl : ((rsE es).take i).length = i := by rw [List.length_take, List.length_map]; omega
      rw [hdr, dueF_snoc, htl, Nat.add_comm 1 i]
      exact ((hm4.mono fun a t' e' => sm5 _ _ e').app2 hm5).mono mono
  · rintro σ H4 ⟨us2, y1, y6, y7, rfl, kp, hd4, hm4, hl4⟩
    have hl2 : (rsE es).length = es.length := List.length_map _
    rw [Int.toNat_natCast, ← hl2, List.take_length] at hm4
    have zk : Str.ofString "newline" = S Kd.newline.cp ∧ Str.ofString "indent" = S Kd.indent.cp ∧ Str.ofString "dedent" = S Kd.dedent.cp ∧ Str.ofString "end" = S Kd.fin.cp := by decide +kernel
    have ndt : tp ≠ d := ne_of_none htp2 hd
    have htp4 := kp _ _ ndt htp2
    have hmk4 : Mks H4 us ms := hmk.mono fun a t e => kp a _ (ne_of_none e hd) e
    have smH : Same H H4 := fun a o e => kp a o (ne_of_none (sm2 _ _ e) hd) (sm2 _ _ e)
    refine ⟨_, rfl, tp, rfl, ⟨_, SqL.of htp4⟩, fun D1 hD1 => ?_⟩
    refine lc_it (walk_list (xs := us)) (fun j H' => Same H4 H' ∧ H' D1 = some (.lst ((ms.take j).map fun m => V.str (S m.k.cp)))) ⟨same_new hD1 _, upd_same⟩ (fun j H' _ h => SqL.of (h.1 _ _ htp4)) ?_ ?_
    · rintro j x H5 H6 hj ⟨sm5, hl5⟩ ⟨rfl, hx⟩
      rw [hmk4.1] at hj
      obtain ⟨a, ha, hta⟩ := hmk4.2 j _ (List.getElem?_eq_getElem hj)
      have gm := List.getElem?_eq_getElem hj
      generalize ms[j]'_ = mk at gm hta
      have : x = .ref a := Option.some.inj (hx.symm.trans ha)
      subst this
      refine ⟨rfl, iteT (B := True) (iteT ?_)⟩
      refine ⟨_, rfl, a, _, 0, _, rfl, rfl, SqT.of (sm5 _ _ hta), rfl, _, hl5, ?_, same_upd sm5 hD1, ?_⟩
      · rw [List.length_map, List.length_take]
        have : ms.length ≤ 1000000 := hml
        omega
      · rw [upd_same, List.take_add_one, gm, List.map_append]; rfl
    rintro H5 ⟨sm5, hl5⟩
    rw [hmk4.1, List.take_length] at hl5
    have ekk : (ms.map fun m => V.str (S m.k.cp)) = (ms.map fun m => S m.k.cp).map V.str := by rw [List.map_map]; rfl
    have htp5 := sm5 _ _ htp4
    have hmk5 : Mks H5 us ms := hmk4.mono fun a t e => sm5 _ _ e
    have hd5 : ([.str (Str.ofString "newline"), .str (Str.ofString "indent"), .str (Str.ofString "dedent"), .str (Str.ofString "end")] : List V) = KS4.map fun l => V.str (S l) := by rw [zk.1, zk.2.1, zk.2.2.1, zk.2.2.2]; rfl
    refine ⟨_, rfl, tp, rfl, ⟨_, SqL.of htp5⟩, fun D2 hD2 => ?_⟩
    refine lc_it (walk_list (xs := us)) (fun j H' => Same H5 H' ∧ ∃ vs, H' D2 = some (.lst vs) ∧ Mks H' vs ((ms.take j).filter fun m => isPl m.k)) ⟨same_new hD2 _, [], upd_same, Mks.nil⟩ (fun j H' _ h => SqL.of (h.1 _ _ htp5)) ?_ ?_
    · rintro j x H6 H7 hj ⟨sm6, vs, hl6, hm6⟩ ⟨rfl, hx⟩
      rw [hmk5.1] at hj
      obtain ⟨a, ha, hta⟩ := hmk5.2 j _ (List.getElem?_eq_getElem hj)
      have gm := List.getElem?_eq_getElem hj
      generalize ms[j]'_ = mk at gm hta
      have : x = .ref a := Option.some.inj (hx.symm.trans ha)
      subst this
      have hvl : vs.length ≤ 1000000 := by
        rw [hm6.1]
        exact Nat.le_trans (List.length_filter_le _ _) (by rw [List.length_take]; omega)
      refine ⟨rfl, ?_⟩
      refine ⟨_, rfl, a, _, 0, _, rfl, rfl, SqT.of (sm6 _ _ hta), rfl, by show 4 ≤ sizeLine; omega, fun g hg => ?_⟩
      have s8 := same_new hg (.lst [.str (Str.ofString "newline"), .str (Str.ofString "indent"), .str (Str.ofString "dedent"), .str (Str.ofString "end")])
      refine ⟨g, KS4.map fun l => V.str (S l), rfl, .inl (SqL.of (by rw [upd_same, ← hd5])), rfl, flat_strs KS4, _, rfl, ?_⟩
      have e2 := in_strs mk.k.cp KS4
      have hl8 := s8 _ _ hl6
      have hm8 := hm6.mono fun a t e => s8 _ _ e
      have hta8 := s8 _ _ (sm6 _ _ hta)
      have sm8 := sm6.trans s8
      generalize upd H7 g _ = H8 at hl8 hm8 hta8 sm8
      have hf : (ms.take (j + 1)).filter (fun m => isPl m.k) = (ms.take j).filter (fun m => isPl m.k) ++ (if isPl mk.k = true then [mk] else []) := by
        rw [List.take_add_one, gm, List.filter_append]
        congr 1
        show List.filter _ [mk] = _
        rw [List.filter_cons, List.filter_nil]
      rw [hf, ← ks4 mk.k]
      by_cases c : mk.k.cp ∈ KS4
      · refine iteF' (by show (!inV _ _) = false; rw [e2, decide_eq_true c]; rfl) ⟨sm8, vs, hl8, ?_⟩
        rw [if_neg (by rw [decide_eq_true c]; exact Bool.false_ne_true), List.append_nil]
        exact hm8
      · refine iteT' (by show (!inV _ _) = true; rw [e2, decide_eq_false c]; rfl) ?_
        refine ⟨_, rfl, _, hl8, by omega, same_upd sm8 hD2, vs ++ [.ref a], upd_same, ?_⟩
        rw [if_pos (by rw [decide_eq_false c]; rfl)]
        have mono : ∀ a' t', H8 a' = some (.tup t') → upd H8 D2 (.lst (vs ++ [.ref a])) a' = some (.tup t') := fun a' t' e' => by rw [upd_ne (fun z => by rw [z, hl8] at e'; cases e')]; exact e'
        exact Mks.snoc (hm8.mono mono) (mono _ _ hta8)
    rintro H6 ⟨sm6, vs, hl6, hm6⟩
    rw [hmk5.1, List.take_length, M.pl] at hm6
    have hdok : ∀ m ∈ dueF (rsE es) 1, WOk m.w := fun m hm => by rw [← M.pl] at hm; exact hok m (List.mem_filter.mp hm).1
    have sm46 := sm5.trans sm6
    refine ⟨_, rfl, _, rfl, _, _, .lst (SqL.of hl6) (dMs_dp hm6), .lst (SqL.of (sm46 _ _ hd4)) (dMs_dp (hm4.mono fun a t e => sm46 _ _ e)), dMs_shaped hdok, dMs_shaped hdok, _, rfl, ?_⟩
    have heq : PyData.eqv (.list ((dueF (rsE es) 1).map dM)) (.list ((dueF (rsE es) 1).map dM)) = true := by
      rw [PyData.eqv]
      exact PySem.SeqAt.eqvAll_refl _ (dMs_ok hdok).1
    rw [heq]
    refine iteF' rfl ?_
    have hk6 := sm6 _ _ hl5
    rw [ekk] at hk6
    rw [zk.1, zk.2.1, zk.2.2.1, zk.2.2.2]
    refine ⟨_, rfl, .inl ⟨rfl, _, SqL.of hk6⟩, D1, _, S Kd.newline.cp, rfl, rfl, SqL.of hk6, ?_⟩
    have hit : ∀ e ∈ es, ∀ p ∈ e.r.ps, ItOk m p.it := fun e he => by
      rcases none_items hpg hnone e he with ⟨h, _⟩ | ⟨_, h⟩
      · rw [h]; intro p hp; cases hp
      · exact h.ok
    refine ⟨_, rfl, m, ra, es, rfl, hpg.same (smH.trans sm46), hit, fun H7 s7 => ?_⟩
    have hk7 := s7 _ _ hk6
    have ne : ∀ a b : Nat, a = b → (!decide (V.int (a : Nat) = V.int (b : Nat))) = false := fun a b h => by rw [h, decide_eq_true rfl]; rfl
    refine ⟨rfl, _, rfl, iteF' (ne _ _ (by rw [cntK nl_k ms, M.nl])) ?_⟩
    refine ⟨_, rfl, .inl ⟨rfl, _, SqL.of hk7⟩, D1, _, S Kd.indent.cp, rfl, rfl, SqL.of hk7, _, rfl, .inl ⟨rfl, _, SqL.of hk7⟩, D1, _, S Kd.dedent.cp, rfl, rfl, SqL.of hk7, rfl, _, rfl, iteF' (ne _ _ (by rw [cntK in_k ms, cntK de_k ms, M.id])) ?_⟩
    refine ⟨_, rfl, .inl ⟨rfl, _, SqL.of hk7⟩, D1, _, S Kd.fin.cp, rfl, rfl, SqL.of hk7, rfl, _, rfl, iteF' (ne _ 1 (by rw [cntK fi_k ms, M.fi])) ?_⟩
    obtain ⟨m0, ml, eml, hfin⟩ := M.last
    have hat : atI (((ms.map fun m => S m.k.cp)).map V.str) (-1) = some (.str (S Kd.fin.cp)) := by
      rw [eml, List.map_append, List.map_append]
      show atI (_ ++ [V.str (S ml.k.cp)]) (-1) = _
      rw [hfin]; exact atI_last _ _
    refine ⟨_, rfl, _, rfl, D1, _, _, _, rfl, rfl, SqL.of hk7, hat, rfl, ?_⟩
    rw [decide_eq_true rfl]
    exact q H7
end
end D0
namespace D0
open PySem PySem.Spec PyProof.Rows L2 SX NumText
/-- the def's promise where p's object stands (the caught error) -/
structure FnP (P : Program) (w : World) (K : PySem.W.Frag) (mg : Str → Option Value) (base : Heap) (p : Addr × Obj) (k : Nat) (f : Addr) (fd : FuncData) (ps : List Str) (sp : Sp) : Prop where
  len : ∀ vs H Q E, sp vs H Q E → vs.length = ps.length
  run : ∀ (A : Around) (outer : List Env) (s : Shared) (H : Hp) (args : Args) (us : List Value) (vs : List V) (Q : VK) (E : XK), L2H.RoomH k A → L2H.PinOk outer H s p → Env0 P w K mg base A outer s H → BindsTo s fd args (ps.zip us) → Vals vs us → sp vs H Q E →
    codeAny (model P w) A (.call (.ref f) args) (CR CX0 outer P w H s Q E) s
theorem fn_ofP {P : Program} {w : World} {K : PySem.W.Frag} {mg : Str → Option Value} {base : Heap} {k : Nat} {f : Addr} {name qual : Str} {params : Arguments} {body : List Stmt} {scope : Scope} {dV kV doc pm cdv ct oc : Value} {an od : Option Addr}
    {osl : Array (Option Value)} {N ps : List Str} {sp : Sp} {p : Addr × Obj} (lk : K.lookup f = some ⟨oc, od, .func (PySem.W.fnOf name qual params body scope dV kV doc pm an cdv ct), osl⟩) (hcd : PySem.W.codeIn K cdv qual = true) (S : FnScope N ps scope)
    (len : ∀ vs H Q E, sp vs H Q E → vs.length = ps.length)
    (hbody : ∀ (A : Around) (outer : List Env) (s : Shared) (H : Hp) (vs : List V) (Q : VK) (E : XK), L2H.RoomH k (A.deeper (envOfC qual scope s.heap.objs.size f cdv)) → sp vs H Q E →
      ∃ t, PSs (L2H.cxH CX0 P w K mg base N qual scope f cdv A outer s H E p) body t ∧ t { nx := fun _ H' => Q .non H', rt := Q } (L2.start N vs) H) :
    FnP P w K mg base p (k + 1) f (PySem.W.fnOf name qual params body scope dV kV doc pm an cdv ct) ps sp := by
  refine ⟨len, fun A outer s H args us vs Q E hr hpin e0 hb r hsp => ?_⟩
  have hl := len _ _ _ _ hsp
  have KX : K.In s.heap := e0.mod.kin.keeps fun b o e => (e0.bs b o e).1
  have lim : s.heap.NoLimit := e0.mod.nolimit.keeps fun b o e => (e0.bs b o e).1
  have hkind : ∀ y ∈ ps.zip us, scope.names.lookup y.1 = some .local ∨ (scope.names.lookup y.1 = some .cell ∧ ((cellsFrom (s.heap.objs.size + 1) scope.names []).lookup y.1).isSome = true) := fun ⟨n, v⟩ hy => by
    rcases S.par n (List.of_mem_zip hy).1 with q | q
    · exact .inl q
    · exact .inr ⟨q, PySem.W.cellsFrom_some _ _ _ (.inl q)⟩
  refine codeAny_call_function hr.depth (KX _ _ lk) rfl S.co S.gen rfl (PySem.W.codeRec_of KX hcd) (hb _ _ _ _ ?_)
  refine wpAny_newFunctionEnv_cells S.kind hkind fun env he s1 x => ?_
  subst he
  refine ⟨lim.keeps x.toInCall.keep, codeAny_func ?_⟩
  obtain ⟨t, ht, hq⟩ := hbody A outer s H vs Q E (hr.deeper _) hsp
  have I : Inv (L2H.cxH CX0 P w K mg base N qual scope f cdv A outer s H E p) [] (L2.start N vs) H s1 := L2H.inv_startH S hpin e0 hl r x
  refine wpAny_mono (ht.run [] s1 (L2.start N vs) H _ I hq) (fun fl s' hs => ?_) fun e s' hs => hs
  have fin : ∀ {σ' : L2.St} {H' : Hp} {v : V} {u : Value}, Inv (L2H.cxH CX0 P w K mg base N qual scope f cdv A outer s H E p) [] σ' H' s' → RelV v u → Q v H' → CE outer P w H s Q u s' :=
    fun {σ' H' v u} J rv q => ⟨v, H', J.os, J.bare, J.base, J.hok, rv, q⟩
  cases fl with
  | ret u =>
    obtain ⟨v, σ', H', J, rv, q⟩ := hs
    exact fin J rv q
  | next =>
    obtain ⟨σ', H', J, q⟩ := hs
    exact fin (v := V.non) (u := Value.none) J rfl q
  | brk =>
    obtain ⟨_, _, _, q⟩ := hs
    exact False.elim q
  | cont =>
    obtain ⟨_, _, _, q⟩ := hs
    exact False.elim q
section
variable {X : Cx} {k : Nat} {f : Addr} {fd : FuncData} {ps : List Str} {sp : Sp} {x : Str} {q pos : Pos} {e : Expr} {es : List Expr} {t : TA} {p : Addr × Obj}
theorem run_fnP {pins : List (Addr × Obj)} {σ : L2.St} {H : Hp} {s : Shared} {Q : VK} {us : List Value} {vs : List V} (F : FnP X.prog X.w X.K X.mg X.base p k f fd ps sp) (hr : L2H.RoomH k X.A) (hp : p ∈ X.pn) (hb : Binds X.K fd ps [])
    (I : Inv X pins σ H s) (r : Vals vs us) (h : sp vs H Q E0) : wpAny (model X.prog X.w) X.A (call (.ref f) us) (EP X pins σ Q) X.xe s := by
  have hl : us.length = ps.length := by rw [← r.length]; exact F.len _ _ _ _ h
  have b := hb s us I.kIn (by rw [List.append_nil]; exact hl)
  rw [List.append_nil] at b
  have P1 := I.pin p (List.mem_append_left _ hp)
  have hpin : L2H.PinOk X.stack H s p := ⟨P1.1, P1.2.1, fun hm => (List.mem_cons.mp (I.stkSub p.1 hm)).elim P1.2.2.1 P1.2.2.2.1, P1.2.2.2.2⟩
  refine wpAny_call (codeAny_mono (F.run X.A X.stack s H ⟨us, []⟩ us vs Q E0 hr hpin I.env0 b r h) fun r s' hq => ?_)
  cases r with
  | error e => exact False.elim hq
  | ok fl =>
    cases fl with
    | ret u => exact I.after hq
    | next => exact False.elim hq
    | brk => exact False.elim hq
    | cont => exact False.elim hq
theorem pe_callP (F : FnP X.prog X.w X.K X.mg X.base p k f fd ps sp) (hr : L2H.RoomH k X.A) (hp : p ∈ X.pn) (hg : Gl X x) (hm : X.mg x = some (.ref f)) (hk : PySem.W.keepIn X.K (.ref f) = true) (hb : Binds X.K fd ps [])
    (ha : PA X (e :: es) t) (hdb : (x == ("__debug__" : Str)) = false := by decide) (he : starEach (e :: es) X.env = (false, eval e X.env) :: starEach es X.env := by rfl) (hpl : (backTo pos (starEach es X.env)).any (·.1) = false := by rfl) :
    PE X (.Call (.Name x q) (e :: es) [] pos) (fun σ H Q => t σ H fun vs H1 => sp vs H1 Q E0) := by
  refine ⟨fun pins s σ H Q I h => ?_⟩
  refine wpAny_Call_Name_kw (ld_glob I hg hm ?_ hdb)
  refine PySem.W.callWith_K (h₀ := X.base) I.ok.mod.kin hk (thn (ha.run pos pins s σ H _ I h) fun us s1 ⟨vs, H1, I1, r, q⟩ => ⟨I1.kIn, ?_⟩) he hpl
  exact run_fnP F hr hp hb I1 r q
end
/-- isinstance of the caught error: a its address, D its class, dd its dict -/
structure ExcD (K : PySem.W.Frag) (D : Addr) : Prop where
  cl : (PySem.W.clsIn K D).isSome = true
  hg : PySem.W.findIn K (.ref D) "__getattribute__" = some (some (.builtin "BaseException.__getattribute__"))
  hk : PySem.W.findIn K (.ref D) "__getattr__" = some none
  hs : PySem.W.subIn K (.ref D) (.type "BaseException") = some true
  hd : PySem.W.hasDictIn K D = true
  ha : PySem.W.findIn K (.ref D) "__class__" = some (some (.builtin "object.__class__"))
  hn : PySem.W.specialIn K (.builtin "object.__class__") "__get__" = some (some (.builtin "getset_descriptor.__get__"))
  ht : PySem.W.takesIn K (.builtin "object.__class__") = some true
  hm : PySem.W.mroIn K D (.type "object") = some true
def rIsP (K : PySem.W.Frag) (D a dd : Addr) : List V → Hp → VK → Prop := fun xs H Q => ∃ (c : V) (cv : Value) (b : Bool) (fs : List (Str × V)), xs = [.ref a, c] ∧ H dd = some (.xd fs) ∧ (∀ u, RelV c u → u = cv) ∧ PySem.W.kitOne K (.ref D) cv = some b ∧ Q (.bl b) H
theorem call_isP {X : Cx} {a D dd : Addr} {oe : Obj} (C : ExcD X.K D) (hz : Zc (.ref D) (some dd) oe) (hf : ∃ vs, oe.data = .fields vs) (hp : (a, oe) ∈ X.pn) : CallR X (.builtin "isinstance") (rIsP X.K D a dd) := by
  intro pins s σ H xs us Q I r h
  obtain ⟨c, cv, b, fs, rfl, hdd, hcv, e, q⟩ := h
  cases r with
  | cons rx rr =>
    cases rr with
    | cons rt rr =>
      cases rr
      cases rx
      have ec := hcv _ rt
      subst ec
      obtain ⟨hget, _⟩ := I.pin (a, oe) (List.mem_append.mpr (.inl hp))
      obtain ⟨vs, hv⟩ := hf
      have hx : ObjOk X.prog X.w H s.heap dd (.xd fs) := I.hok dd _ hdd
      obtain ⟨mA, hns, hr⟩ := hx
      obtain ⟨od, ho, hl⟩ := lookIn_ns hns
      have J : PySem.W.InstAt s.heap a oe D (some od) := ⟨hget, hz.1, by unfold PySem.W.notCls; rw [hv] <;> rfl, by rw [hz.2]; exact ho⟩
      exact PySem.W.kia_one (PySem.W.kitx_exc C.cl C.hg C.hk C.hs C.ha C.hn C.ht C.hm) I.kIn J e (fun z => nomatch z) fun tk => ⟨.bl b, H, I.kept (t' := tk) fun _ _ z => z, rfl, q⟩
/-! ### own error classes of any base, held as values -/
structure OexG (K : PySem.W.Frag) (C : Addr) : Prop where
  base : ∃ (B nI iI : String) (tl : List Value), ExcBaseFacts B nI iI tl ∧ StoreFacts B tl "object.__setattr__" "object" ∧ PySem.W.excInitIn K C tl nI = true ∧ PySem.W.excOver K C tl = true
  sa : PySem.W.findIn K (.ref C) "__setattr__" = some (some (.builtin "object.__setattr__"))
  hd : PySem.W.hasDictIn K C = true
  kC : PySem.W.keepIn K (.ref C) = true
theorem taker_none {K : PySem.W.Frag} {C : Addr} {f : Str} (h : PySem.W.findIn K (.ref C) f = some none) : PySem.W.takerIn K C f = some none := by unfold PySem.W.takerIn; rw [h]; rfl
section
variable {X : Cx} {pins : List (Addr × Obj)} {σ : L2.St} {H : Hp} {s : Shared} {a C dx : Addr} {f : Str} {y : V} {u : Value} {fs : List (Str × V)} {Q : Unit → Shared → Prop} {E : Value → Shared → Prop} {A : Around}
theorem gs_new (T : OexG X.K C) (I : Inv X pins σ H s) (e : H a = some (exo a C none)) (hno : PySem.W.findIn X.K (.ref C) f = some none) (ry : RelV y u)
    (k : ∀ dx s', H dx = none → dx ≠ a → Inv X pins σ (upd (upd H dx (exd dx [(f, y)])) a (exo a C (some dx))) s' → Q () s') : wpAny (model X.prog X.w) A (setAttr (.ref a) f u) Q E s := by
  obtain ⟨B, nI, iI, tl, _, SF, _, hov⟩ := T.base
  obtain ⟨t1, ho⟩ := exo_at I.hok e
  refine PySem.W.set_plain I.kIn (od := none) ⟨ho, rfl, rfl, trivial⟩ T.sa (PySem.W.osa_openX (od := none) SF I.kIn ⟨ho, rfl, rfl, trivial⟩ hov (taker_none hno) fun b => ?_)
  obtain ⟨cd, hc, hd'⟩ := PySem.W.any_some T.hd
  refine wpAny_bind (wpAny_pure (wpAny_bind (PySem.W.instanceDict_exc (c2 := .none) ho (PySem.W.looks_clsIn I.kIn hc) hd' ?_)))
  have hlt : a < s.heap.objs.size := Heap.lt_size ho
  have hxs : a ≠ s.heap.objs.size := Nat.ne_of_lt hlt
  refine PySem.HandSPX.store_in_new ?_ fun h' tk' hn' hs => ?_
  · exact ⟨_, #[], _, (Heap.get?_update_ne _ _ _ _ hxs.symm).trans (Heap.get?_push_at rfl rfl), rfl, fun e he => absurd he (by simp), fun _ => rfl⟩
  have hnd : H s.heap.objs.size = none := I.hok.fresh (Nat.le_refl _)
  have kk : ∀ b o, b ≠ a → s.heap.get? b = some o → h'.get? b = some o := fun b o hb q =>
    (hs.2 b (Nat.ne_of_lt (Heap.lt_size q))).trans ((Heap.get?_update_ne _ _ _ _ hb).trans (Heap.get?_push_of_some _ q))
  have hx : ∃ t1 : Addr, h'.get? a = some ({ cls := .ref C, dict := some s.heap.objs.size, data := .fields #[.ref t1, .none, .none, .none, .bool false, .none] } : Obj) := ⟨t1, (hs.2 a hxs).trans (Heap.get?_update_self _ (Heap.get?_push_of_some _ ho) rfl)⟩
  obtain ⟨t2, hx⟩ := hx
  have na : ∀ {b : Addr}, H b = none → b ≠ a := fun {b} n z => by rw [z, e] at n; cases n
  have nd : ∀ {b : Addr} {o : Obj}, s.heap.get? b = some o → b ≠ s.heap.objs.size := fun {b o} q => Nat.ne_of_lt (Heap.lt_size q)
  have there : ∀ b o, s.heap.get? b = some o → b ∉ ([] : List Addr) → ∃ o', h'.get? b = some o' := fun b o q _ => by
    by_cases hb : b = a
    · rw [hb]; exact ⟨_, hx⟩
    · exact ⟨o, kk b o hb q⟩
  have U : Un X.fs [] H (upd (upd H s.heap.objs.size (exd s.heap.objs.size [(f, y)])) a (exo a C (some s.heap.objs.size))) s.heap h' :=
    ⟨fun b o q n _ _ => kk b o (na n) q, fun b o q n _ _ => ⟨o.slots, kk b o (na n) q⟩, fun b o q n _ => ((upd_ne (na n)).trans (upd_ne (nd q))).trans n, there,
      fun b l q => ((upd_ne (at_ne e q exo_tup)).trans (upd_ne (ne_of_none q hnd))).trans q, fun b o v q => ((upd_ne (at_ne e q exo_frz)).trans (upd_ne (ne_of_none q hnd))).trans q,
      fun b l q => ⟨#[], by rw [upd_ne (at_ne e q exo_tbl), upd_ne (ne_of_none q hnd), q, Array.append_empty]⟩⟩
  refine k s.heap.objs.size _ hnd (Ne.symm hxs) (I.un (t' := tk') U fun b o q => ?_)
  by_cases hb : b = a
  · subst hb
    rw [upd_same] at q
    cases q; exact exo_ok hx
  · rw [upd_ne hb] at q
    by_cases hd : b = s.heap.objs.size
    · subst hd
      rw [upd_same] at q
      cases q; exact exd_ok hn' (relO_put (fs := []) ry fun g => True.intro)
    · rw [upd_ne hd] at q
      refine (I.hok b o q).stay (fun c v hc z => kk c v ?_ z) (fun c hc => ((upd_ne (at_ne e hc exo_own)).trans (upd_ne (ne_of_none hc hnd))).trans hc) (fun c l hc => ((upd_ne (at_ne e hc exo_tup)).trans (upd_ne (ne_of_none hc hnd))).trans hc)
      rcases hc with rfl | hc
      · exact hb
      · exact at_ne e hc exo_own
theorem gs_old (T : OexG X.K C) (I : Inv X pins σ H s) (e : H a = some (exo a C (some dx))) (ed : H dx = some (exd dx fs)) (hl : fs.length ≤ 900) (hno : PySem.W.findIn X.K (.ref C) f = some none) (ry : RelV y u)
    (k : ∀ s', Inv X pins σ (upd H dx (exd dx ((f, y) :: fs))) s' → Q () s') : wpAny (model X.prog X.w) A (setAttr (.ref a) f u) Q E s := by
  obtain ⟨B, nI, iI, tl, _, SF, _, hov⟩ := T.base
  obtain ⟨t1, ho⟩ := exo_at I.hok e
  obtain ⟨mA, hns, rel⟩ := exd_at I.hok ed
  obtain ⟨oD, _, _, hoD, _, _⟩ := hns.count (within_of rel)
  refine PySem.W.set_plain I.kIn (od := some oD) ⟨ho, rfl, rfl, hoD⟩ T.sa (PySem.W.osa_openX (od := some oD) SF I.kIn ⟨ho, rfl, rfl, hoD⟩ hov (taker_none hno) fun b => ?_)
  obtain ⟨cd, hc, hd'⟩ := PySem.W.any_some T.hd
  refine wpAny_bind (wpAny_pure (wpAny_bind (wpAny_bind (wpAny_loadPart ho (wpAny_bind ((PySem.W.looks_clsIn I.kIn hc).at ?_))))))
  rw [hd']
  refine wpAny_pure (a := some dx) (PySem.OEX.store_in_old hns (within_of rel) (by rw [List.length_map]; omega) fun h' tk' hn hs => ?_)
  have hd : ∃ o, h'.get? dx = some o := let ⟨o, _, _, z, _⟩ := hn; ⟨o, z⟩
  exact k _ (I.write (t' := tk') (x := dx) (e := dx) (by rw [ed]; exact True.intro) (.inl rfl) (fun b o hb z => (hs.2 b hb).trans z) hd (exd_ok hn (relO_put ry rel)))
end
end D0
namespace D0
open PySem PySem.Spec PyProof.Rows L2 SX NumText
def tOstG (K : PySem.W.Frag) (f : Str) (to te : TE) : TS := fun D σ H => te σ H fun y H1 => to σ H1 fun x H2 => ∃ (a C : Addr), x = .ref a ∧ OexG K C ∧ PySem.W.findIn K (.ref C) f = some none ∧
  ((H2 a = some (exo a C none) ∧ ∀ d, H2 d = none → d ≠ a → D.nx σ (upd (upd H2 d (exd d [(f, y)])) a (exo a C (some d)))) ∨
    ∃ (d : Addr) (fs : List (Str × V)), H2 a = some (exo a C (some d)) ∧ H2 d = some (exd d fs) ∧ fs.length ≤ 900 ∧ D.nx σ (upd H2 d (exd d ((f, y) :: fs))))
theorem ps_ostG {X : Cx} {o e : Expr} {to te : TE} {f : Str} {p1 pos : Pos} (ho : PE X o to) (he : PE X e te) (hs : swapsWith e (some (.Attribute o f p1)) pos.line X.env = pure false := by rfl) : PS X (.Assign [.Attribute o f p1] e pos) (tOstG X.K f to te) :=
  ⟨fun pins s σ H D I h => plainObj_wpAny_Assign_Attribute (thn (he.run pins s σ H _ I h) fun v s1 z => by
    obtain ⟨y, H1, I1, r1, q1⟩ := z
    refine thn (ho.run pins s1 σ H1 _ I1 q1) fun u s2 z2 => ?_
    obtain ⟨x, H2, I2, r2, a, C, rfl, T, hno, q⟩ := z2
    obtain rfl : u = Value.ref a := r2
    rcases q with ⟨ea, q⟩ | ⟨d, fs, ea, ed, hl, q⟩
    · exact gs_new T I2 ea hno r1 fun d s3 n ne J => ⟨σ, _, J, q d n ne⟩
    · exact gs_old T I2 ea ed hl hno r1 fun s3 J => ⟨σ, _, J, q⟩) hs⟩
/-- what an __init__ of one field (of two) leaves -/
def spI1 (K : PySem.W.Frag) (f : Str) : Sp := fun vs H Q _ => ∃ (a C : Addr) (y : V), vs = [.ref a, y] ∧ H a = some (exo a C none) ∧ OexG K C ∧ PySem.W.findIn K (.ref C) f = some none ∧
  ∀ d H', H d = none → d ≠ a → H' d = some (exd d [(f, y)]) → H' a = some (exo a C (some d)) → (∀ b, b ≠ a → b ≠ d → H' b = H b) → Q .non H'
def spI2 (K : PySem.W.Frag) (f g : Str) : Sp := fun vs H Q _ => ∃ (a C : Addr) (y z : V), vs = [.ref a, y, z] ∧ H a = some (exo a C none) ∧ OexG K C ∧ PySem.W.findIn K (.ref C) f = some none ∧ PySem.W.findIn K (.ref C) g = some none ∧
  ∀ d H', H d = none → d ≠ a → H' d = some (exd d [(g, z), (f, y)]) → H' a = some (exo a C (some d)) → (∀ b, b ≠ a → b ≠ d → H' b = H b) → Q .non H'
section
variable {P : Program} {w : World} {K : PySem.W.Frag} {mg : Str → Option Value} {base : Heap}
theorem ok_BadOption___init__ {f : Addr} {fd : FuncData} (F : Fun K "__init__" "BadOption.__init__" s_BadOption___init__ f fd) : FnOk P w K mg base CX0 1 f fd p_BadOption___init__ (spI1 K "option") := by
  refine F.ok sc_BadOption___init__ (fun vs H Q E h => ?_) (fun cdv A outer s H vs Q E hr h => ?_)
  · obtain ⟨a, C, y, rfl, _⟩ := h; rfl
  obtain ⟨a, C, y, rfl, ha, oC, n1, q⟩ := h
  refine ⟨_, pss_one (ps_ostG (pv 0) (pv 1) rfl), _, rfl, _, rfl, a, C, rfl, oC, n1, .inl ⟨ha, fun d hd ne => ?_⟩⟩
  exact q d _ hd ne (by rw [upd_ne ne, upd_same]) upd_same fun b h1 h2 => by rw [upd_ne h1, upd_ne h2]
theorem ok_BadCode___init__ {f : Addr} {fd : FuncData} (F : Fun K "__init__" "BadCode.__init__" s_BadCode___init__ f fd) : FnOk P w K mg base CX0 1 f fd p_BadCode___init__ (spI1 K "unit") := by
  refine F.ok sc_BadCode___init__ (fun vs H Q E h => ?_) (fun cdv A outer s H vs Q E hr h => ?_)
  · obtain ⟨a, C, y, rfl, _⟩ := h; rfl
  obtain ⟨a, C, y, rfl, ha, oC, n1, q⟩ := h
  refine ⟨_, pss_one (ps_ostG (pv 0) (pv 1) rfl), _, rfl, _, rfl, a, C, rfl, oC, n1, .inl ⟨ha, fun d hd ne => ?_⟩⟩
  exact q d _ hd ne (by rw [upd_ne ne, upd_same]) upd_same fun b h1 h2 => by rw [upd_ne h1, upd_ne h2]
theorem ok_BadPaper___init__ {f : Addr} {fd : FuncData} (F : Fun K "__init__" "BadPaper.__init__" s_BadPaper___init__ f fd) : FnOk P w K mg base CX0 1 f fd p_BadPaper___init__ (spI1 K "paper") := by
  refine F.ok sc_BadPaper___init__ (fun vs H Q E h => ?_) (fun cdv A outer s H vs Q E hr h => ?_)
  · obtain ⟨a, C, y, rfl, _⟩ := h; rfl
  obtain ⟨a, C, y, rfl, ha, oC, n1, q⟩ := h
  refine ⟨_, pss_one (ps_ostG (pv 0) (pv 1) rfl), _, rfl, _, rfl, a, C, rfl, oC, n1, .inl ⟨ha, fun d hd ne => ?_⟩⟩
  exact q d _ hd ne (by rw [upd_ne ne, upd_same]) upd_same fun b h1 h2 => by rw [upd_ne h1, upd_ne h2]
theorem ok_UnknownPass___init__ {f : Addr} {fd : FuncData} (F : Fun K "__init__" "UnknownPass.__init__" s_UnknownPass___init__ f fd) : FnOk P w K mg base CX0 1 f fd p_UnknownPass___init__ (spI1 K "word") := by
  refine F.ok sc_UnknownPass___init__ (fun vs H Q E h => ?_) (fun cdv A outer s H vs Q E hr h => ?_)
  · obtain ⟨a, C, y, rfl, _⟩ := h; rfl
  obtain ⟨a, C, y, rfl, ha, oC, n1, q⟩ := h
  refine ⟨_, pss_one (ps_ostG (pv 0) (pv 1) rfl), _, rfl, _, rfl, a, C, rfl, oC, n1, .inl ⟨ha, fun d hd ne => ?_⟩⟩
  exact q d _ hd ne (by rw [upd_ne ne, upd_same]) upd_same fun b h1 h2 => by rw [upd_ne h1, upd_ne h2]
theorem ok_BadLevel___init__ {f : Addr} {fd : FuncData} (F : Fun K "__init__" "BadLevel.__init__" s_BadLevel___init__ f fd) : FnOk P w K mg base CX0 1 f fd p_BadLevel___init__ (spI1 K "level") := by
  refine F.ok sc_BadLevel___init__ (fun vs H Q E h => ?_) (fun cdv A outer s H vs Q E hr h => ?_)
  · obtain ⟨a, C, y, rfl, _⟩ := h; rfl
  obtain ⟨a, C, y, rfl, ha, oC, n1, q⟩ := h
  refine ⟨_, pss_one (ps_ostG (pv 0) (pv 1) rfl), _, rfl, _, rfl, a, C, rfl, oC, n1, .inl ⟨ha, fun d hd ne => ?_⟩⟩
  exact q d _ hd ne (by rw [upd_ne ne, upd_same]) upd_same fun b h1 h2 => by rw [upd_ne h1, upd_ne h2]
theorem okG_SourceError___init__ {f : Addr} {fd : FuncData} (F : Fun K "__init__" "SourceError.__init__" s_SourceError___init__ f fd) : FnOk P w K mg base CX0 1 f fd p_SourceError___init__ (spI2 K "line" "column") := by
  refine F.ok sc_SourceError___init__ (fun vs H Q E h => ?_) (fun cdv A outer s H vs Q E hr h => ?_)
  · obtain ⟨a, C, y, z, rfl, _⟩ := h; rfl
  obtain ⟨a, C, y, z, rfl, ha, oC, n1, n2, q⟩ := h
  refine ⟨_, pss_cons (ps_ostG (pv 0) (pv 1) rfl) (pss_one (ps_ostG (pv 0) (pv 2) rfl)), ?_⟩
  refine ⟨_, rfl, _, rfl, a, C, rfl, oC, n1, .inl ⟨ha, fun d hd ne => ?_⟩⟩
  refine ⟨_, rfl, _, rfl, a, C, rfl, oC, n2, .inr ⟨d, _, upd_same, by rw [upd_ne ne, upd_same], by show 1 ≤ 900; decide, ?_⟩⟩
  exact q d _ hd ne upd_same (by rw [upd_ne (Ne.symm ne), upd_same]) fun b h1 h2 => by rw [upd_ne h2, upd_ne h1, upd_ne h2]
theorem okG_Fault___init__ {f : Addr} {fd : FuncData} (F : Fun K "__init__" "Fault.__init__" s_Fault___init__ f fd) : FnOk P w K mg base CX0 1 f fd p_Fault___init__ (spI2 K "name" "value") := by
  refine F.ok sc_Fault___init__ (fun vs H Q E h => ?_) (fun cdv A outer s H vs Q E hr h => ?_)
  · obtain ⟨a, C, y, z, rfl, _⟩ := h; rfl
  obtain ⟨a, C, y, z, rfl, ha, oC, n1, n2, q⟩ := h
  refine ⟨_, pss_cons (ps_ostG (pv 0) (pv 1) rfl) (pss_one (ps_ostG (pv 0) (pv 2) rfl)), ?_⟩
  refine ⟨_, rfl, _, rfl, a, C, rfl, oC, n1, .inl ⟨ha, fun d hd ne => ?_⟩⟩
  refine ⟨_, rfl, _, rfl, a, C, rfl, oC, n2, .inr ⟨d, _, upd_same, by rw [upd_ne ne, upd_same], by show 1 ≤ 900; decide, ?_⟩⟩
  exact q d _ hd ne upd_same (by rw [upd_ne (Ne.symm ne), upd_same]) fun b h1 h2 => by rw [upd_ne h2, upd_ne h1, upd_ne h2]
end
/-- the class x at C: its __init__ keeps sp -/
structure NewC (P : Program) (w : World) (K : PySem.W.Frag) (mg : Str → Option Value) (base : Heap) (x : Str) (C : Addr) (ps : List Str) (sp : Sp) : Prop where
  ex : OexG K C
  gl : mg x = some (.ref C)
  ini : ∃ fI fd, PySem.W.findIn K (.ref C) "__init__" = some (some (.ref fI)) ∧ PySem.W.typeIn K (.ref fI) = some (.type "function") ∧ Binds K fd ps [] ∧ FnOk P w K mg base CX0 1 fI fd ps sp
def tMkG (C : Addr) (sp : Sp) (ta : TA) : TE := fun σ H Q => ta σ H fun vs H1 => vs.length ≤ 1000 ∧ ∀ a, H1 a = none → sp (.ref a :: vs) (upd H1 a (exo a C none)) (fun v H2 => v = .non ∧ Q (.ref a) H2) E0
theorem pe_mkG {X : Cx} {x : Str} {C : Addr} {ps : List Str} {sp : Sp} {e : Expr} {es : List Expr} {ta : TA} {j : Nat} {p pos : Pos} (N : NewC X.prog X.w X.K X.mg X.base x C ps sp) (hr : Room j X.A) (ha : PA X (e :: es) ta) (hj : 2 ≤ j := by first | decide | omega) (hg : Gl X x := by rfl)
    (hdb : (x == ("__debug__" : Str)) = false := by decide) (he : starEach (e :: es) X.env = (false, eval e X.env) :: starEach es X.env := by rfl) (hpl : (backTo pos (starEach es X.env)).any (·.1) = false := by rfl) :
    PE X (.Call (.Name x p) (e :: es) [] pos) (tMkG C sp ta) := by
  refine ⟨fun pins s σ H Q I h => ?_⟩
  obtain ⟨fI, fd, iC, tI, hb, F1⟩ := N.ini
  obtain ⟨B, nI, iI, tl, FB, _, hin, _⟩ := N.ex.base
  refine wpAny_Call_Name_kw (ld_glob I hg N.gl ?_ hdb)
  refine PySem.W.callWith_K (h₀ := X.base) I.ok.mod.kin N.ex.kC (thn (ha.run pos pins s σ H _ I h) fun us s1 z => ?_) he hpl
  obtain ⟨vs, H1, I1, r1, hz, q1⟩ := z
  refine ⟨I1.kIn, ?_⟩
  show wpAny _ _ (call (.ref C) us) _ _ _
  obtain ⟨nm, N', qn, bs, bm, hdct, sn, sub, ab, col, dd, k0, k1, k2, k3, k5, hC, hT⟩ := PySem.W.excInit_of I1.kIn hin
  obtain ⟨hp, g, dr, tk, os⟩ := s1
  have hn : H1 (hp.objs.size + 1) = none := I1.hok.fresh (Nat.le_succ _)
  have hq := q1 (hp.objs.size + 1) hn
  have I2 : Inv X pins σ (upd H1 (hp.objs.size + 1) (exo (hp.objs.size + 1) C none)) ⟨(hp.push (PySem.W.kdv_tup us)).push (PySem.HandSPX.excO C hp.objs.size), g, dr, tk, os⟩ :=
    I1.laid (t' := tk) (fun b o e => Heap.get?_push_of_some _ (Heap.get?_push_of_some _ e)) (Nat.le_succ _) (exo_ok (t1 := hp.objs.size) (by heap_get))
  have r2 : Vals (V.ref (hp.objs.size + 1) :: vs) (Value.ref (hp.objs.size + 1) :: us) := .cons rfl r1
  have hl : (Value.ref (hp.objs.size + 1) :: us).length = ps.length := by
    have e := r2.length
    rw [F1.len _ _ _ _ hq] at e; exact e.symm
  have b2 := hb _ (Value.ref (hp.objs.size + 1) :: us) I2.kIn (by rw [List.append_nil]; exact hl)
  rw [List.append_nil] at b2
  refine wpAny_call (PySem.HandSPX.call_own FB hT hC (PySem.W.looks_findIn I1.kIn iC) (fun self => PySem.W.bind_fn I1.kIn self tI) (by rw [← Paired.length r1, sizeLine_eq]; omega)
    (codeAny_mono (F1.run _ X.stack _ _ ⟨Value.ref (hp.objs.size + 1) :: us, []⟩ (Value.ref (hp.objs.size + 1) :: us) _ _ E0 ((hr.mono (j := 2) hj).make C us []) (I2.env0.make C us []) b2 r2 hq) fun r s' hq' => ?_))
  cases r with
  | error er => exact False.elim hq'
  | ok fl =>
    cases fl with
    | ret u =>
      obtain ⟨v, H', J, rv, ev, q⟩ := I2.after hq'
      subst ev
      exact ⟨rv, .ref (hp.objs.size + 1), H', J, rfl, q⟩
    | next => exact False.elim hq'
    | brk => exact False.elim hq'
    | cont => exact False.elim hq'
/-! ### such an object asked -/
def rIsO (K : PySem.W.Frag) : List V → Hp → VK → Prop := fun xs H Q => ∃ (a D d : Addr) (fs : List (Str × V)) (c : V) (cv : Value) (b : Bool), xs = [.ref a, c] ∧ H a = some (exo a D (some d)) ∧ H d = some (exd d fs) ∧ ExcD K D ∧ (∀ u, RelV c u → u = cv) ∧ PySem.W.kitOne K (.ref D) cv = some b ∧ Q (.bl b) H
theorem call_isO {X : Cx} : CallR X (.builtin "isinstance") (rIsO X.K) := by
  intro pins s σ H xs us Q I r h
  obtain ⟨a, D, d, fs, c, cv, b, rfl, ha, hd, C, hcv, e, q⟩ := h
  cases r with
  | cons rx rr =>
    cases rr with
    | cons rt rr =>
      cases rr
      cases rx
      have ec := hcv _ rt
      subst ec
      obtain ⟨t1, ho⟩ := exo_at I.hok ha
      obtain ⟨mA, hns, _⟩ := exd_at I.hok hd
      obtain ⟨od, hod, _⟩ := lookIn_ns hns
      exact PySem.W.kia_one (PySem.W.kitx_exc C.cl C.hg C.hk C.hs C.ha C.hn C.ht C.hm) I.kIn (⟨ho, rfl, rfl, hod⟩ : PySem.W.InstAt s.heap a _ D (some od)) e (fun z => nomatch z) fun tk => ⟨.bl b, H, I.kept (t' := tk) fun _ _ z => z, rfl, q⟩
def tFO (K : PySem.W.Frag) (n : Str) (te : TE) : TE := fun σ H Q => te σ H fun x H1 => ∃ (a D d : Addr) (fs : List (Str × V)) (v : V), x = .ref a ∧ H1 a = some (exo a D (some d)) ∧ H1 d = some (exd d fs) ∧ XfC K D ∧ PySem.W.findIn K (.ref D) n = some none ∧ fs.lookup n = some v ∧ Q v H1
theorem pe_fO {X : Cx} {e : Expr} {te : TE} {pos : Pos} {n : Str} (he : PE X e te) (hb : attributeBase e n X.env (eval e X.env) = eval e X.env := by rfl) : PE X (.Attribute e n pos) (tFO X.K n te) := by
  refine ⟨fun pins s σ H Q I h => attr_of hb (thn (he.run pins s σ H _ I h) fun u s1 hh => ?_)⟩
  obtain ⟨x, H1, I1, rx, a, D, d, fs, v, rfl, ha, hd, T, hno, l, q⟩ := hh
  obtain rfl : u = Value.ref a := rx
  obtain ⟨t1, ho⟩ := exo_at I1.hok ha
  obtain ⟨mA, hns, hr⟩ := exd_at I1.hok hd
  obtain ⟨od, hod, hl⟩ := lookIn_ns hns
  obtain ⟨u, hu, ru⟩ := RelO.some_of (v := v) (o := mA n) (by rw [← l]; exact hr n)
  exact HandSPX.exc_get I1.kIn (⟨ho, rfl, rfl, hod⟩ : PySem.W.InstAt s1.heap a _ D (some od)) T.ga T.gg T.exC (PySem.W.findObj_own T.hdC hno rfl (by rw [hl, hu])) (handed_of ru) ⟨v, H1, I1.tok _, ru, q⟩
/-- a field of the pinned error -/
theorem pe_xfP {X : Cx} {a C : Addr} {oe : Obj} {cls : Value} {d : Option Addr} {e : Expr} {te : TE} {pos : Pos} {n : Str} (T : XfC X.K C) (hno : PySem.W.findIn X.K (.ref C) n = some none) (hz : Zc cls d oe) (hf : ∃ vs, oe.data = .fields vs) (hp : (a, oe) ∈ X.pn)
    (he : PE X e te) (hb : attributeBase e n X.env (eval e X.env) = eval e X.env := by rfl) : PE X (.Attribute e n pos) (tXf a cls d C n te) := by
  refine ⟨fun pins s σ H Q I h => attr_of hb (thn (he.run pins s σ H _ I h) fun u s1 hh => ?_)⟩
  obtain ⟨x, H1, I1, rx, rfl, rfl, dd, fs, v, rfl, ea, l, q⟩ := hh
  obtain rfl : u = Value.ref a := rx
  obtain ⟨ha, _⟩ := I1.pin (a, oe) (List.mem_append_left _ hp)
  obtain ⟨vs, hd⟩ := hf
  obtain ⟨mA, hns, hr⟩ := (show ObjOk X.prog X.w H1 s1.heap dd (.xd fs) from I1.hok dd _ ea)
  obtain ⟨od, ho, hl⟩ := lookIn_ns hns
  obtain ⟨u, hu, ru⟩ := RelO.some_of (v := v) (o := mA n) (by rw [← l]; exact hr n)
  exact HandSPX.exc_get I1.kIn (⟨ha, hz.1, by unfold PySem.W.notCls; rw [hd] <;> rfl, by rw [hz.2]; exact ho⟩ : PySem.W.InstAt s1.heap a oe C (some od)) T.ga T.gg T.exC (PySem.W.findObj_own T.hdC hno rfl (by rw [hl, hu])) (handed_of ru) ⟨v, H1, I1.tok _, ru, q⟩
/-- the heap with the error at a let go, its dict d an error's dict -/
def pinH (H : Hp) (a d : Addr) (fs : List (Str × V)) : Hp := upd (del H a) d (.xd fs)
theorem pin_inv {X : Cx} {pins : List (Addr × Obj)} {σ : L2.St} {H : Hp} {s : Shared} {a d C : Addr} {fs : List (Str × V)} (I : Inv X pins σ H s) (ha : H a = some (exo a C (some d))) (hd : H d = some (exd d fs)) :
    ∃ oe, Zc (.ref C) (some d) oe ∧ (∃ vs, oe.data = .fields vs) ∧ Inv X pins σ (pinH H a d fs) s ∧ L2H.PinOk X.stack (pinH H a d fs) s (a, oe) := by
  obtain ⟨t1, ho⟩ := exo_at I.hok ha
  obtain ⟨mA, hns, rel⟩ := exd_at I.hok hd
  have hda : d ≠ a := fun z => by
    obtain ⟨o, es, ep, e1, e2, _⟩ := hns
    rw [z, ho] at e1
    have z2 := Option.some.inj e1
    subst z2
    cases e2
  have hna : pinH H a d fs a = none := (upd_ne (Ne.symm hda)).trans del_same
  have U : Un X.fs [] H (pinH H a d fs) s.heap s.heap := ⟨fun b o q n _ _ => q, fun b o q n _ _ => ⟨o.slots, q⟩, fun b o q n _ => by
        have h1 : b ≠ a := fun z => by rw [z, ha] at n; cases n
        have h2 : b ≠ d := fun z => by rw [z, hd] at n; cases n
        exact ((upd_ne h2).trans (del_ne h1)).trans n, fun b o q _ => ⟨o, q⟩, fun b l q => ((upd_ne (at_ne hd q exd_tup)).trans (del_ne (at_ne ha q exo_tup))).trans q,
      fun b o v q => ((upd_ne (at_ne hd q fun z => by have z' : HO.ext _ = HO.frz o v := z; cases z')).trans (del_ne (at_ne ha q exo_frz))).trans q,
      fun b l q => ⟨#[], by rw [Array.append_empty]; exact ((upd_ne (at_ne hd q fun z => by have z' : HO.ext _ = HO.tbl l := z; cases z')).trans (del_ne (at_ne ha q exo_tbl))).trans q⟩⟩
  have J : Inv X pins σ (pinH H a d fs) s := I.un (t' := s.toks) (h' := s.heap) U fun b o q => by
    by_cases hb : b = d
    · rw [hb] at q ⊢
      rw [show pinH H a d fs d = _ from upd_same] at q
      cases q
      exact ⟨mA, hns, rel⟩
    · have q' : del H a b = some o := (upd_ne hb).symm.trans q
      have hba : b ≠ a := fun z => by rw [z, del_same] at q'; cases q'
      rw [del_ne hba] at q'
      exact (I.hok b o q').stay (fun c v hc z => z) (fun c hc => ((upd_ne (at_ne hd hc exd_own)).trans (del_ne (at_ne ha hc exo_own))).trans hc) (fun c l hc => ((upd_ne (at_ne hd hc exd_tup)).trans (del_ne (at_ne ha hc exo_tup))).trans hc)
  refine ⟨_, ⟨rfl, rfl⟩, ⟨_, rfl⟩, J, ⟨ho, hna, fun hm => ?_, fun v z => nomatch z⟩⟩
  have := I.env0.frf a hm
  rw [ha] at this
  cases this
/-- f(e, ..), e an error that was made: it is pinned for the call -/
def tPin {κ : Type} (cc : κ → Addr) (sp : κ → Addr → Addr → Sp) (t : TA) : TE := fun σ H Q => t σ H fun vs H1 => ∃ (k : κ) (a d : Addr) (fs : List (Str × V)), H1 a = some (exo a (cc k) (some d)) ∧ H1 d = some (exd d fs) ∧ sp k a d vs (pinH H1 a d fs) Q E0
theorem pe_callPin {κ : Type} {cc : κ → Addr} {sp : κ → Addr → Addr → Sp} {X : Cx} {k : Nat} {f : Addr} {ps : List Str} {x : Str} {q pos : Pos} {e : Expr} {es : List Expr} {t : TA} (hm : X.mg x = some (.ref f)) (hkf : PySem.W.keepIn X.K (.ref f) = true)
    (O : ∀ (c : κ) (a d : Addr) (oe : Obj), Zc (.ref (cc c)) (some d) oe → (∃ vs, oe.data = .fields vs) → ∃ f fd, X.mg x = some (.ref f) ∧ PySem.W.keepIn X.K (.ref f) = true ∧ Binds X.K fd ps [] ∧ FnP X.prog X.w X.K X.mg X.base (a, oe) k f fd ps (sp c a d)) (hr : L2H.RoomH k X.A) (ha : PA X (e :: es) t)
    (hg : Gl X x := by rfl) (hdb : (x == ("__debug__" : Str)) = false := by decide) (he : starEach (e :: es) X.env = (false, eval e X.env) :: starEach es X.env := by rfl) (hpl : (backTo pos (starEach es X.env)).any (·.1) = false := by rfl) :
    PE X (.Call (.Name x q) (e :: es) [] pos) (tPin cc sp t) := by
  refine ⟨fun pins s σ H Q I h => wpAny_Call_Name_kw (ld_glob I hg hm ?_ hdb)⟩
  refine PySem.W.callWith_K (h₀ := X.base) I.ok.mod.kin hkf (thn (ha.run pos pins s σ H _ I h) fun us s1 z => ?_) he hpl
  obtain ⟨vs, H1, I1, r, c, a, d, fs, e1, e2, hq⟩ := z
  refine ⟨I1.kIn, ?_⟩
  obtain ⟨oe, hz, hf, J, hpin⟩ := pin_inv I1 e1 e2
  obtain ⟨f', fd, hm', _, hb, F⟩ := O c a d oe hz hf
  have : f' = f := Value.ref.inj (Option.some.inj (hm'.symm.trans hm))
  subst this
  have b := hb s1 us J.kIn (by rw [List.append_nil, ← r.length]; exact F.len _ _ _ _ hq)
  rw [List.append_nil] at b
  refine wpAny_call (codeAny_mono (F.run X.A X.stack s1 _ ⟨us, []⟩ us vs Q E0 hr hpin J.env0 b r hq) fun r' s' hq' => ?_)
  cases r' with
  | error e => exact False.elim hq'
  | ok fl =>
    cases fl with
    | ret u => exact J.after hq'
    | next => exact False.elim hq'
    | brk => exact False.elim hq'
    | cont => exact False.elim hq'
end D0
namespace D0
open PySem PySem.Spec PyProof.Rows L2 SX NumText
/-- the classes of source errors -/
inductive Ec | src | sign | token | indent | long | deep | syn | sco
def Ec.nm : Ec → Str
  | .src => "SourceError" | .sign => "BadSign" | .token => "BadToken" | .indent => "BadIndent" | .long => "TooLong" | .deep => "TooDeep" | .syn => "BadSyntax" | .sco => "BadScope"
def Ec.nms : Ec → List Str
  | .src => [] | k => [k.nm]
def Ec.isA : Ec → Ec → Bool
  | _, .src => true | .sign, .sign => true | .token, .token => true | .indent, .indent => true | .long, .long => true | .deep, .deep => true | .syn, .syn => true | .sco, .sco => true | _, _ => false
structure Kit8 (K : PySem.W.Frag) (mg : Str → Option Value) (cc : Ec → Addr) (CL CF CV : Addr) : Prop where
  ex : ∀ k, ExcD K (cc k)
  gl : ∀ k, mg k.nm = some (.ref (cc k))
  gL : mg "LikerunError" = some (.ref CL)
  gF : mg "Fault" = some (.ref CF)
  gV : mg "BadLevel" = some (.ref CV)
  kk : ∀ k j, PySem.W.kitOne K (.ref (cc k)) (.ref (cc j)) = some (k.isA j)
  kL : ∀ k, PySem.W.kitOne K (.ref (cc k)) (.ref CL) = some true
  kE : ∀ k, PySem.W.kitOne K (.ref (cc k)) (.type "ValueError") = some true
  kF : ∀ k, PySem.W.kitOne K (.ref (cc k)) (.ref CF) = some false
  kV : ∀ k, PySem.W.kitOne K (.ref (cc k)) (.ref CV) = some false
  eL : ∀ k, PySem.W.exmOne K (.ref (cc k)) (.ref CL) = some true
  xf : ∀ k, XfC K (cc k)
  nl : ∀ k, PySem.W.findIn K (.ref (cc k)) "line" = some none
  nc : ∀ k, PySem.W.findIn K (.ref (cc k)) "column" = some none
theorem nms_ok (k : Ec) : SeqAt.shaped (.list (k.nms.map PyData.str)) = true ∧ PyData.eqv (.list (k.nms.map PyData.str)) (.list (k.nms.map PyData.str)) = true := by cases k <;> decide +kernel
theorem nms_dp {K : PySem.W.Frag} {H : Hp} (k : Ec) : DpAll K H (k.nms.map V.str) (k.nms.map PyData.str) := by
  cases k
  case src => exact .nil
  all_goals exact .cons (.str _) .nil
def spCls8 (k : Ec) (a dd : Addr) : Sp := fun vs H Q _ => ∃ fs, vs = [.ref a] ∧ H dd = some (.xd fs) ∧ ∀ H' q, Same H H' → H q = none → H' q = some (.lst (k.nms.map V.str)) → Q (.ref q) H'
def spWholeP : Sp := fun vs H Q _ => ∃ (i : Int), vs = [.int i] ∧ Q (.bl true) H
def spSrc (k : Ec) (a dd : Addr) : Sp := fun vs H Q _ => ∃ (l c : Int) (fa na : Addr), vs = [.ref a, .ref fa] ∧ H dd = some (.xd (xs2 l c)) ∧ H fa = some (.lst [.ref na, .int l, .int c]) ∧ H na = some (.lst (k.nms.map V.str)) ∧ ∀ H', Same H H' → Q (.bl true) H'
theorem pcallP {X : Cx} {k : Nat} {ps : List Str} {sp : Sp} {x : Str} {q pos : Pos} {e : Expr} {es : List Expr} {t : TA} {p : Addr × Obj}
    (O : ∃ f fd, X.mg x = some (.ref f) ∧ PySem.W.keepIn X.K (.ref f) = true ∧ Binds X.K fd ps [] ∧ FnP X.prog X.w X.K X.mg X.base p k f fd ps sp) (hr : L2H.RoomH k X.A) (hp : p ∈ X.pn) (ha : PA X (e :: es) t) (hg : Gl X x := by rfl)
    (hdb : (x == ("__debug__" : Str)) = false := by decide) (he : starEach (e :: es) X.env = (false, eval e X.env) :: starEach es X.env := by rfl) (hpl : (backTo pos (starEach es X.env)).any (·.1) = false := by rfl) :
    PE X (.Call (.Name x q) (e :: es) [] pos) (fun σ H Q => t σ H fun vs H1 => sp vs H1 Q E0) := by
  obtain ⟨f, fd, hm, hk, hb, F⟩ := O
  exact pe_callP F hr hp hg hm hk hb ha hdb he hpl
section
variable {P : Program} {w : World} {K : PySem.W.Frag} {mg : Str → Option Value} {base : Heap} {cc : Ec → Addr} {CL CF CV : Addr}
theorem okP_whole (T : Txt K w mg) (p : Addr × Obj) : ∃ f fd, mg "_law_whole" = some (.ref f) ∧ PySem.W.keepIn K (.ref f) = true ∧ Binds K fd p__law_whole [] ∧ FnP P w K mg base p 1 f fd p__law_whole spWholeP := by
  obtain ⟨f, fd, F, hm, hb⟩ := T.g__law_whole
  obtain ⟨oc, od, kV, doc, pm, an, cdv, ct, osl, rfl, lk, hcd⟩ := F.ex
  refine ⟨f, _, hm, F.kp, hb, fn_ofP lk hcd sc__law_whole (fun vs H Q E h => ?_) (fun A outer s H vs Q E hr h => ?_)⟩
  · obtain ⟨i, rfl, _⟩ := h; rfl
  obtain ⟨i, rfl, q⟩ := h
  refine ⟨_, (pss_one (ps_ret (pe_and (pe_callB call_isi (by rfl) T.z_isinstance PyProof.Rows.boot_isinstance (pa_cons (pv 0) (pa_cons (pe_bltn (v := .ty "int") rfl T.z_int PyProof.Rows.boot_int rfl) pa_nil))) (pe_one (pe_not (pe_callB call_isi (by rfl) T.z_isinstance PyProof.Rows.boot_isinstance (pa_cons (pv 0) (pa_cons (pe_bltn (v := .ty "bool") rfl T.z_bool PyProof.Rows.boot_bool rfl) pa_nil)))))))), ?_⟩
  refine ⟨_, rfl, _, _, _, _, _, rfl, .ty _, .base (.int i), kit_ty (by decide +kernel : kitB "int" "int" = some true), _, rfl, ?_⟩
  exact iteT ⟨_, rfl, _, _, _, _, _, rfl, .ty _, .base (.int i), kit_ty (by decide +kernel : kitB "int" "bool" = some false), _, rfl, q⟩
theorem okP_classes (T : Txt K w mg) (U : Kit8 K mg cc CL CF CV) (k : Ec) (a dd : Addr) (oe : Obj) (hz : Zc (.ref (cc k)) (some dd) oe) (hf : ∃ vs, oe.data = .fields vs) :
    ∃ f fd, mg "_law_classes" = some (.ref f) ∧ PySem.W.keepIn K (.ref f) = true ∧ Binds K fd p__law_classes [] ∧ FnP P w K mg base (a, oe) 1 f fd p__law_classes (spCls8 k a dd) := by
  obtain ⟨f, fd, F, hm, hb⟩ := T.g__law_classes
  obtain ⟨oc, od, kV, doc, pm, an, cdv, ct, osl, rfl, lk, hcd⟩ := F.ex
  refine ⟨f, _, hm, F.kp, hb, fn_ofP lk hcd sc__law_classes (fun vs H Q E h => ?_) (fun A outer s H vs Q E hr h => ?_)⟩
  · obtain ⟨fs, rfl, _⟩ := h; rfl
  obtain ⟨fs, rfl, hdd, q⟩ := h
  refine ⟨_, (pss_cons (ps_set (i := 1) sc__law_classes.nd rfl (.inl rfl) (pe_lst pa_nil))
      (pss_cons (ps_if (pt_val (pe_callB (call_isP (U.ex k) hz hf List.mem_cons_self) (by rfl) T.z_isinstance PyProof.Rows.boot_isinstance (pa_cons (pv 0) (pa_cons (pe_glob rfl (U.gl .sign) (show RelV (.ref (cc .sign)) _ from rfl)) pa_nil)))) (pss_one (ps_expr (pe_bm PySem.F.plainAttrs_list PySem.F.slot_list_append PySem.F.type_list_append mt_append (pv 1) (pa_cons pe_str pa_nil)))) pss_nil)
      (pss_cons (ps_if (pt_val (pe_callB (call_isP (U.ex k) hz hf List.mem_cons_self) (by rfl) T.z_isinstance PyProof.Rows.boot_isinstance (pa_cons (pv 0) (pa_cons (pe_glob rfl (U.gl .token) (show RelV (.ref (cc .token)) _ from rfl)) pa_nil)))) (pss_one (ps_expr (pe_bm PySem.F.plainAttrs_list PySem.F.slot_list_append PySem.F.type_list_append mt_append (pv 1) (pa_cons pe_str pa_nil)))) pss_nil)
      (pss_cons (ps_if (pt_val (pe_callB (call_isP (U.ex k) hz hf List.mem_cons_self) (by rfl) T.z_isinstance PyProof.Rows.boot_isinstance (pa_cons (pv 0) (pa_cons (pe_glob rfl (U.gl .indent) (show RelV (.ref (cc .indent)) _ from rfl)) pa_nil)))) (pss_one (ps_expr (pe_bm PySem.F.plainAttrs_list PySem.F.slot_list_append PySem.F.type_list_append mt_append (pv 1) (pa_cons pe_str pa_nil)))) pss_nil)
      (pss_cons (ps_if (pt_val (pe_callB (call_isP (U.ex k) hz hf List.mem_cons_self) (by rfl) T.z_isinstance PyProof.Rows.boot_isinstance (pa_cons (pv 0) (pa_cons (pe_glob rfl (U.gl .long) (show RelV (.ref (cc .long)) _ from rfl)) pa_nil)))) (pss_one (ps_expr (pe_bm PySem.F.plainAttrs_list PySem.F.slot_list_append PySem.F.type_list_append mt_append (pv 1) (pa_cons pe_str pa_nil)))) pss_nil)
      (pss_cons (ps_if (pt_val (pe_callB (call_isP (U.ex k) hz hf List.mem_cons_self) (by rfl) T.z_isinstance PyProof.Rows.boot_isinstance (pa_cons (pv 0) (pa_cons (pe_glob rfl (U.gl .deep) (show RelV (.ref (cc .deep)) _ from rfl)) pa_nil)))) (pss_one (ps_expr (pe_bm PySem.F.plainAttrs_list PySem.F.slot_list_append PySem.F.type_list_append mt_append (pv 1) (pa_cons pe_str pa_nil)))) pss_nil)
      (pss_cons (ps_if (pt_val (pe_callB (call_isP (U.ex k) hz hf List.mem_cons_self) (by rfl) T.z_isinstance PyProof.Rows.boot_isinstance (pa_cons (pv 0) (pa_cons (pe_glob rfl (U.gl .syn) (show RelV (.ref (cc .syn)) _ from rfl)) pa_nil)))) (pss_one (ps_expr (pe_bm PySem.F.plainAttrs_list PySem.F.slot_list_append PySem.F.type_list_append mt_append (pv 1) (pa_cons pe_str pa_nil)))) pss_nil)
      (pss_cons (ps_if (pt_val (pe_callB (call_isP (U.ex k) hz hf List.mem_cons_self) (by rfl) T.z_isinstance PyProof.Rows.boot_isinstance (pa_cons (pv 0) (pa_cons (pe_glob rfl (U.gl .sco) (show RelV (.ref (cc .sco)) _ from rfl)) pa_nil)))) (pss_one (ps_expr (pe_bm PySem.F.plainAttrs_list PySem.F.slot_list_append PySem.F.type_list_append mt_append (pv 1) (pa_cons pe_str pa_nil)))) pss_nil)
      (pss_one (ps_ret (pv 1))))))))))), ?_⟩
  have lim : (1000 : Nat) ≤ sizeLine := by decide
  refine ⟨by show 0 ≤ sizeLine; omega, fun p hp => ?_⟩
  have s1 := same_new hp (.lst [])
  have np : dd ≠ p := ne_of_none hdd hp
  have hd1 : upd H p (.lst []) dd = some (.xd fs) := s1 _ _ hdd
  have hd2 : ∀ x : V, upd (upd H p (.lst [])) p (.lst ([] ++ [x])) dd = some (.xd fs) := fun x => by rw [upd_ne np]; exact hd1
  have fin : ∀ x : Str, k.nms = [x] → Q (.ref p) (upd (upd H p (.lst [])) p (.lst ([] ++ [V.str x]))) := fun x hx => by
    rw [upd_upd]
    exact q _ p (same_new hp _) hp (by rw [upd_same, hx]; rfl)
  have fin0 : k.nms = [] → Q (.ref p) (upd H p (.lst [])) := fun hx => q _ p (same_new hp _) hp (by rw [upd_same, hx]; rfl)
  cases k
  all_goals refine ⟨_, rfl, .ref (cc .sign), .ref (cc .sign), _, fs, rfl, (by first | exact hd1 | exact hd2 _), (fun u h => h), U.kk _ .sign, _, rfl, ?_⟩
  all_goals first | refine iteF' rfl ?_ | (refine iteT' rfl ?_; refine ⟨_, rfl, .inl ⟨rfl, _, SqL.of upd_same⟩, p, _, _, rfl, rfl, upd_same, (by show 0 < sizeLine; omega), ?_⟩)
  all_goals refine ⟨_, rfl, .ref (cc .token), .ref (cc .token), _, fs, rfl, (by first | exact hd1 | exact hd2 _), (fun u h => h), U.kk _ .token, _, rfl, ?_⟩
  all_goals first | refine iteF' rfl ?_ | (refine iteT' rfl ?_; refine ⟨_, rfl, .inl ⟨rfl, _, SqL.of upd_same⟩, p, _, _, rfl, rfl, upd_same, (by show 0 < sizeLine; omega), ?_⟩)
  all_goals refine ⟨_, rfl, .ref (cc .indent), .ref (cc .indent), _, fs, rfl, (by first | exact hd1 | exact hd2 _), (fun u h => h), U.kk _ .indent, _, rfl, ?_⟩
  all_goals first | refine iteF' rfl ?_ | (refine iteT' rfl ?_; refine ⟨_, rfl, .inl ⟨rfl, _, SqL.of upd_same⟩, p, _, _, rfl, rfl, upd_same, (by show 0 < sizeLine; omega), ?_⟩)
  all_goals refine ⟨_, rfl, .ref (cc .long), .ref (cc .long), _, fs, rfl, (by first | exact hd1 | exact hd2 _), (fun u h => h), U.kk _ .long, _, rfl, ?_⟩
  all_goals first | refine iteF' rfl ?_ | (refine iteT' rfl ?_; refine ⟨_, rfl, .inl ⟨rfl, _, SqL.of upd_same⟩, p, _, _, rfl, rfl, upd_same, (by show 0 < sizeLine; omega), ?_⟩)
  all_goals refine ⟨_, rfl, .ref (cc .deep), .ref (cc .deep), _, fs, rfl, (by first | exact hd1 | exact hd2 _), (fun u h => h), U.kk _ .deep, _, rfl, ?_⟩
  all_goals first | refine iteF' rfl ?_ | (refine iteT' rfl ?_; refine ⟨_, rfl, .inl ⟨rfl, _, SqL.of upd_same⟩, p, _, _, rfl, rfl, upd_same, (by show 0 < sizeLine; omega), ?_⟩)
  all_goals refine ⟨_, rfl, .ref (cc .syn), .ref (cc .syn), _, fs, rfl, (by first | exact hd1 | exact hd2 _), (fun u h => h), U.kk _ .syn, _, rfl, ?_⟩
  all_goals first | refine iteF' rfl ?_ | (refine iteT' rfl ?_; refine ⟨_, rfl, .inl ⟨rfl, _, SqL.of upd_same⟩, p, _, _, rfl, rfl, upd_same, (by show 0 < sizeLine; omega), ?_⟩)
  all_goals refine ⟨_, rfl, .ref (cc .sco), .ref (cc .sco), _, fs, rfl, (by first | exact hd1 | exact hd2 _), (fun u h => h), U.kk _ .sco, _, rfl, ?_⟩
  all_goals first | refine iteF' rfl ?_ | (refine iteT' rfl ?_; refine ⟨_, rfl, .inl ⟨rfl, _, SqL.of upd_same⟩, p, _, _, rfl, rfl, upd_same, (by show 0 < sizeLine; omega), ?_⟩)
  case src => exact ⟨_, rfl, fin0 rfl⟩
  all_goals exact ⟨_, rfl, fin _ (by decide +kernel)⟩
theorem okP_source (T : Txt K w mg) (U : Kit8 K mg cc CL CF CV) (k : Ec) (a dd : Addr) (oe : Obj) (hz : Zc (.ref (cc k)) (some dd) oe) (hf : ∃ vs, oe.data = .fields vs) :
    ∃ f fd, mg "_law_is_source_error" = some (.ref f) ∧ PySem.W.keepIn K (.ref f) = true ∧ Binds K fd p__law_is_source_error [] ∧ FnP P w K mg base (a, oe) 2 f fd p__law_is_source_error (spSrc k a dd) := by
  obtain ⟨f, fd, F, hm, hb⟩ := T.g__law_is_source_error
  obtain ⟨oc, od, kV, doc, pm, an, cdv, ct, osl, rfl, lk, hcd⟩ := F.ex
  refine ⟨f, _, hm, F.kp, hb, fn_ofP lk hcd sc__law_is_source_error (fun vs H Q E h => ?_) (fun A outer s H vs Q E hr h => ?_)⟩
  · obtain ⟨l, c, fa, na, rfl, _⟩ := h; rfl
  obtain ⟨l, c, fa, na, rfl, hdd, hfa, hna, q⟩ := h
  have hru : (A.deeper (envOfC "_law_is_source_error" (defScope s__law_is_source_error) s.heap.objs.size f cdv)).units + 64 < cLine := by have := hr.un; omega
  refine ⟨_, (pss_cons (ps_if (PW.pt (pw_or (pt_not (pt_val (pe_callB (call_isP (U.ex k) hz hf List.mem_cons_self) (by rfl) T.z_isinstance PyProof.Rows.boot_isinstance (pa_cons (pv 0) (pa_cons (pe_glob rfl (U.gl .src) (show RelV (.ref (cc .src)) _ from rfl)) pa_nil))))) (pw_or1 (pt_not (pt_val (pe_callB (call_isP (U.ex k) hz hf List.mem_cons_self) (by rfl) T.z_isinstance PyProof.Rows.boot_isinstance (pa_cons (pv 0) (pa_cons (pe_glob rfl U.gL (show RelV (.ref CL) _ from rfl)) pa_nil)))))))) (pss_one (ps_ret pe_bl)) pss_nil)
      (pss_cons (ps_if (PW.pt (pw_or (pt_not (pt_val (pe_callB (call_isP (U.ex k) hz hf List.mem_cons_self) (by rfl) T.z_isinstance PyProof.Rows.boot_isinstance (pa_cons (pv 0) (pa_cons (pe_bltn (v := .ty "ValueError") rfl T.z_ValueError (by decide +kernel) rfl) pa_nil))))) (pw_or (pt_val (pe_callB (call_isP (U.ex k) hz hf List.mem_cons_self) (by rfl) T.z_isinstance PyProof.Rows.boot_isinstance (pa_cons (pv 0) (pa_cons (pe_glob rfl U.gF (show RelV (.ref CF) _ from rfl)) pa_nil)))) (pw_or1 (pt_val (pe_callB (call_isP (U.ex k) hz hf List.mem_cons_self) (by rfl) T.z_isinstance PyProof.Rows.boot_isinstance (pa_cons (pv 0) (pa_cons (pe_glob rfl U.gV (show RelV (.ref CV) _ from rfl)) pa_nil)))))))) (pss_one (ps_ret pe_bl)) pss_nil)
      (pss_cons (ps_if (PW.pt (pw_or (pt_not (pt_val (pcallP (okP_whole (P := P) (w := w) (base := base) T (a, oe)) ⟨hr.dp, hr.un⟩ List.mem_cons_self (pa_cons (pe_xfP (U.xf k) (U.nl k) hz hf List.mem_cons_self (pv 0)) pa_nil)))) (pw_or1 (pt_not (pt_val (pcallP (okP_whole (P := P) (w := w) (base := base) T (a, oe)) ⟨hr.dp, hr.un⟩ List.mem_cons_self (pa_cons (pe_xfP (U.xf k) (U.nc k) hz hf List.mem_cons_self (pv 0)) pa_nil))))))) (pss_one (ps_ret pe_bl)) pss_nil)
      (pss_one (ps_ret (pe_and (pe_cmpR (show OpR _ _ (rEqD K) from op_eqD hru) (pcallP (okP_classes (P := P) (w := w) (base := base) T U k a dd oe hz hf) ⟨hr.dp, hr.un⟩ List.mem_cons_self (pa_cons (pv 0) pa_nil)) (pe_ix (show IxR _ (rIxL K) from ix_list) (pv 1) pe_int (fun _ _ => rfl)) (nomark _))
      (pe_one (pe_cmpR (show OpR _ _ (rEqD K) from op_eqD hru) (pe_lst (pa_cons (pe_xfP (U.xf k) (U.nl k) hz hf List.mem_cons_self (pv 0)) (pa_cons (pe_xfP (U.xf k) (U.nc k) hz hf List.mem_cons_self (pv 0)) pa_nil))) (pe_slice (show SlR _ (rSlL K) from sl_list) (pv 1) (po_some pe_int) po_none) (nomark _))))))))), ?_⟩
  have lim : (1000 : Nat) ≤ sizeLine := by decide
  refine ⟨_, rfl, .ref (cc .src), .ref (cc .src), _, _, rfl, hdd, (fun u h => h), U.kk k .src, _, rfl, iteF' (by cases k <;> rfl) ?_⟩
  refine ⟨_, rfl, .ref CL, .ref CL, _, _, rfl, hdd, (fun u h => h), U.kL k, _, rfl, iteF' rfl ?_⟩
  refine ⟨_, rfl, .ty "ValueError", .type "ValueError", _, _, rfl, hdd, (fun u h => h), U.kE k, _, rfl, iteF' rfl ?_⟩
  refine ⟨_, rfl, .ref CF, .ref CF, _, _, rfl, hdd, (fun u h => h), U.kF k, _, rfl, iteF' rfl ?_⟩
  refine ⟨_, rfl, .ref CV, .ref CV, _, _, rfl, hdd, (fun u h => h), U.kV k, _, rfl, iteF' rfl ?_⟩
  refine ⟨_, rfl, rfl, rfl, dd, _, _, rfl, hdd, rfl, _, rfl, _, rfl, iteF' rfl ?_⟩
  refine ⟨_, rfl, rfl, rfl, dd, _, _, rfl, hdd, rfl, _, rfl, _, rfl, iteF' rfl ?_⟩
  refine ⟨_, rfl, _, rfl, hdd, fun H2 p s2 hp hp2 => ?_⟩
  refine ⟨_, rfl, fa, _, 0, _, rfl, rfl, SqL.of (s2 _ _ hfa), rfl, ?_⟩
  refine ⟨.list (k.nms.map PyData.str), .list (k.nms.map PyData.str), .lst (SqL.of hp2) (nms_dp k), .lst (SqL.of (s2 _ _ hna)) (nms_dp k), (nms_ok k).1, (nms_ok k).1, _, rfl, ?_⟩
  rw [(nms_ok k).2]
  refine iteT ?_
  have hdd2 := s2 _ _ hdd
  refine ⟨_, rfl, rfl, rfl, dd, _, _, rfl, hdd2, rfl, ?_⟩
  refine ⟨_, rfl, rfl, rfl, dd, _, _, rfl, hdd2, rfl, by show 2 ≤ sizeLine; omega, fun p4 hp4 => ?_⟩
  have s4 := same_new hp4 (.lst [V.int l, V.int c])
  refine ⟨_, rfl, 1, rfl, fa, _, rfl, SqL.of (s4 _ _ (s2 _ _ hfa)), fun p5 hp5 => ?_⟩
  have s5 := same_new hp5 (.lst (cutV [.ref na, .int l, .int c] (some 1) none))
  have shi : SeqAt.shaped (.list [.int l, .int c]) = true := rfl
  have evi : PyData.eqv (.list [.int l, .int c]) (.list [.int l, .int c]) = true := by
    show ((l == l) && ((c == c) && true)) = true
    rw [beq_self_eq_true, beq_self_eq_true] <;> rfl
  refine ⟨.list [.int l, .int c], .list [.int l, .int c], .lst (SqL.of (s5 _ _ upd_same)) (.cons (.int _) (.cons (.int _) .nil)), .lst (SqL.of upd_same) (.cons (.int _) (.cons (.int _) .nil)), shi, shi, ?_⟩
  rw [evi]
  exact q _ (s2.trans (s4.trans s5))
end
end D0
namespace D0
open PySem PySem.Spec PyProof.Rows L2 SX NumText
def Er.up : Er → Ec
  | .sign => .sign | .token => .token | .indent => .indent | .long => .long | .deep => .deep
theorem up_nms (k : Er) : k.up.nms = [k.nm] := by cases k <;> rfl
theorem mk_keep {H H' : Hp} {a d b C : Addr} {x : HO} (hb : H b = some x) (ha : H a = none) (hda : d ≠ a) (hd : upd H a (exo a C none) d = none) (h3 : ∀ y, y ≠ a → y ≠ d → H' y = upd H a (exo a C none) y) : H' b = some x := by
  have n1 : b ≠ a := ne_of_none hb ha
  have hd' : H d = none := (upd_ne hda).symm.trans hd
  rw [h3 b n1 (ne_of_none hb hd'), upd_ne n1]; exact hb
theorem mk_there {H : Hp} {n1 n2 n3 b : Addr} {x o1 o2 o3 : HO} (h1 : H n1 = none) (h2 : upd H n1 o1 n2 = none) (h3 : upd (upd H n1 o1) n2 o2 n3 = none) (hb : H b = some x) : upd (upd (upd H n1 o1) n2 o2) n3 o3 b = some x :=
  (same_new h3 _) _ _ ((same_new h2 _) _ _ ((same_new h1 _) _ _ hb))
theorem mk_step (k : Ec) {H : Hp} {a d pl C : Addr} {l c : Int} {fs : List (Str × V)} {Q : VK} (h1 : H a = some (exo a C (some d))) (h2 : H d = some (exd d fs)) (hpl : H pl = some (.lst [.int l, .int c])) (L : List V) (hL : L = k.nms.map V.str)
    (q : ∀ H9 : Hp, (∀ b x, b ≠ a → b ≠ d → H b = some x → H9 b = some x) → Q (.bl true) H9) (n1 : Addr) (hn1 : H n1 = none) (n2 : Addr) (hn2 : upd H n1 (.lst L) n2 = none) (n3 : Addr) (hn3 : upd (upd H n1 (.lst L)) n2 (.lst [.ref n1]) n3 = none) :
    spSrc k a d [.ref a, .ref n3] (pinH (upd (upd (upd H n1 (.lst L)) n2 (.lst [.ref n1])) n3 (.lst ([.ref n1] ++ [.int l, .int c]))) a d (xs2 l c)) Q E0 := by
  have tA : ∀ b x, H b = some x → upd (upd H n1 (.lst L)) n2 (.lst [.ref n1]) b = some x := fun b x h => (same_new hn2 _) _ _ ((same_new hn1 _) _ _ h)
  have n3a : n3 ≠ a := Ne.symm (ne_of_none (tA _ _ h1) hn3)
  have n3d : n3 ≠ d := Ne.symm (ne_of_none (tA _ _ h2) hn3)
  have n1a : n1 ≠ a := Ne.symm (ne_of_none h1 hn1)
  have n1d : n1 ≠ d := Ne.symm (ne_of_none h2 hn1)
  have u1 : upd (upd H n1 (.lst L)) n2 (.lst [.ref n1]) n1 = some (.lst L) := (same_new hn2 _) _ _ upd_same
  refine ⟨l, c, n3, n1, rfl, upd_same, ?_, ?_, fun H9 s9 => q H9 fun b x ba bd hb => s9 _ _ ?_⟩
  · exact ((upd_ne n3d).trans (del_ne n3a)).trans upd_same
  · rw [← hL]
    exact ((upd_ne n1d).trans (del_ne n1a)).trans ((same_new hn3 _) _ _ u1)
  · exact ((upd_ne bd).trans (del_ne ba)).trans ((same_new hn3 _) _ _ (tA _ _ hb))
theorem pcallS {X : Cx} {CX : CXT} {k j : Nat} {ps : List Str} {sp : Sp} {E : L2.St → XK} {x : Str} {p pos : Pos} {e : Expr} {es : List Expr} {t : TA}
    (O : OkD X.prog X.w X.K X.mg X.base CX k x ps sp) (hr : Room j X.A) (hx : ∀ σ, PassesAt CX X σ (E σ)) (ha : PA X (e :: es) t) (hj : k ≤ j := by first | decide | omega) (hg : Gl X x := by rfl)
    (hdb : (x == ("__debug__" : Str)) = false := by decide) (he : starEach (e :: es) X.env = (false, eval e X.env) :: starEach es X.env := by rfl) (hpl : (backTo pos (starEach es X.env)).any (·.1) = false := by rfl) :
    PE X (.Call (.Name x p) (e :: es) [] pos) (tCallS sp E t) := by
  obtain ⟨f, fd, hm, hk, hb, _, F⟩ := O
  exact pe_callS F (hr.mono hj) hg hm hk hb hx ha hdb he hpl
theorem pss_cond {X : Cx} {b : List Stmt} {p : Prop} {t : TS} (h : p → PSs X b t) : PSs X b (fun D σ H => p ∧ t D σ H) := ⟨fun pins s σ H D I q => (h q.1).run pins s σ H D I q.2⟩
def hb2 : List Stmt → List Stmt
  | .Try _ [.ExceptHandler _ _ b _] _ _ _ :: _ => b
  | _ => []
def spRaised : Sp := fun vs H Q _ => ∃ (l : List Nat) (e : Er3) (fa : Addr), vs = [.str (S l), .ref fa] ∧ l.length ≤ big ∧ H fa = some (.lst (erV e)) ∧ tokensP l = .error e ∧ ∀ H', Same H H' → Q (.bl true) H'
def spMade : Sp := fun vs H Q _ => ∃ (l c : Int), vs = [.int l, .int c] ∧ ∀ H', Same H H' → Q (.bl true) H'
section
variable {P : Program} {w : World} {K : PySem.W.Frag} {mg : Str → Option Value} {base : Heap} {cc : Ec → Addr} {CL CF CV : Addr}
theorem raised_suite (T : Txt K w mg) (U : Kit8 K mg cc CL CF CV) {f : Addr} {cdv : Value} {A : Around} {outer : List Env} {s : Shared} {H : Hp} {E : XK} (e : Er3) (l : List Nat) (fa : Addr) (hfa : H fa = some (.lst (erV e)))
    (hr : Room 6 (A.deeper (envOfC "_law_is_raised" (defScope s__law_is_raised) s.heap.objs.size f cdv))) (a dd : Addr) :
    ∃ t : TS, (∀ oe pn, Zc (.ref (cc e.1.up)) (some dd) oe → (∃ vs, oe.data = .fields vs) → PSs ((cxOf CX0 P w K mg base n__law_is_raised "_law_is_raised" (defScope s__law_is_raised) f cdv A outer s H E).nox.suite a ((a, oe) :: pn)) (hb2 (defBody s__law_is_raised)) t) ∧
      (∀ D H1, Same H H1 → H dd = none → H1 dd = some (.xd (xs2 (e.2.1 : Nat) (e.2.2 : Nat))) → (∀ H2, Same H H2 → D.rt (.bl true) H2) → t D [some (.str (S l)), some (.ref fa), some (.ref a)] H1) := by
  have hrm : L2H.RoomH 2 (A.deeper (envOfC "_law_is_raised" (defScope s__law_is_raised) s.heap.objs.size f cdv)) := ⟨(hr.mono (j := 2) (by decide)).dp, (hr.mono (j := 2) (by decide)).un⟩
  refine ⟨_, fun oe pn hz hf => (pss_one (ps_ret (pcallP (okP_source (P := P) (w := w) (base := base) T U e.1.up a dd oe hz hf) ⟨hrm.dp, hrm.un⟩ List.mem_cons_self (pa_cons (pv 2) (pa_cons (pe_lst (pa_cons (pe_lst (pa_cons (pe_ix (show IxR _ (rIxL K) from ix_list) (pv 1) pe_int (fun _ _ => rfl)) pa_nil))
      (pa_cons (pe_ix (show IxR _ (rIxL K) from ix_list) (pv 1) pe_int (fun _ _ => rfl)) (pa_cons (pe_ix (show IxR _ (rIxL K) from ix_list) (pv 1) pe_int (fun _ _ => rfl)) pa_nil)))) pa_nil))))), ?_⟩
  intro D H1 s1 nd hdd q
  have lim : (1000 : Nat) ≤ sizeLine := by decide
  have hfa1 := s1 _ _ hfa
  refine ⟨_, rfl, _, rfl, fa, _, 0, _, rfl, rfl, SqL.of hfa1, rfl, by show 1 ≤ sizeLine; omega, fun n1 hn1 => ?_⟩
  have t1 := same_new hn1 (.lst [V.str e.1.nm])
  refine ⟨_, rfl, fa, _, 1, _, rfl, rfl, SqL.of (t1 _ _ hfa1), rfl, _, rfl, fa, _, 2, _, rfl, rfl, SqL.of (t1 _ _ hfa1), rfl, by show 3 ≤ sizeLine; omega, fun n2 hn2 => ?_⟩
  have t2 := same_new hn2 (.lst [.ref n1, V.int (e.2.1 : Nat), V.int (e.2.2 : Nat)])
  refine ⟨(e.2.1 : Nat), (e.2.2 : Nat), n2, n1, rfl, t2 _ _ (t1 _ _ hdd), upd_same, by rw [up_nms]; exact t2 _ _ upd_same, fun H2 s2 => q H2 (s1.trans (t1.trans (t2.trans s2)))⟩
theorem ok__law_is_raised (T : Txt K w mg) (U : Kit8 K mg cc CL CF CV) (Ot : OkD P w K mg base (L2.CX P w) 6 "tokens" p_tokens (spTokens fun k => cc k.up)) : OkD P w K mg base CX0 7 "_law_is_raised" p__law_is_raised spRaised := by
  refine T.g__law_is_raised.ok sc__law_is_raised (fun vs H Q E h => ?_) (fun f cdv A outer s H vs Q E hr h => ?_)
  · obtain ⟨l, e, fa, rfl, _⟩ := h; rfl
  obtain ⟨l, e, fa, rfl, hl, hfa, hte, q⟩ := h
  have SU := fun a dd => raised_suite (P := P) (w := w) (base := base) (f := f) (cdv := cdv) (A := A) (outer := outer) (s := s) (H := H) (E := E) T U e l fa hfa hr a dd
  refine ⟨_, (pss_cons (ps_try_as (i := 2) (tb := fun W => tDrop (tCallS (spTokens fun k => cc k.up) (WE W) (tCons (tVar 0) tNil))) (Wout := fun _ _ _ _ => False)
      (ts := fun a cls d D σ H => (cls = .ref (cc e.1.up) ∧ d = some (d.getD 0)) ∧ Classical.choose (SU a (d.getD 0)) D σ H) rfl rfl sc__law_is_raised.nd rfl rfl ⟨rfl, by decide, Or.inl U.gL⟩ takes0
      (fun W pn xe tk _ => pss_one (ps_expr (pcallS Ot hr (fun σ => passAt tk σ) (pa_cons (pv 0) pa_nil))))
      (fun a oe cls d pn hz hf => pss_cond (p := cls = .ref (cc e.1.up) ∧ d = some (d.getD 0)) (fun h => by
        obtain ⟨rfl, hd⟩ := h
        exact (Classical.choose_spec (SU a (d.getD 0))).1 oe pn (by rw [← hd]; exact hz) hf)))
      (pss_one (ps_ret pe_bl))), ?_⟩
  refine ⟨_, rfl, l, rfl, hl, fun e' he' d H' sm hd hx => ?_, fun ms hms => ?_⟩
  · rw [hte] at he'
    cases he'
    exact ⟨true, U.eL _, fun _ a ha => ⟨⟨rfl, rfl⟩, (Classical.choose_spec (SU a d)).2 _ H' sm hd hx (fun H2 s2 => q H2 s2)⟩, fun z => nomatch z⟩
  · rw [hte] at hms
    cases hms
theorem ok__law_are_made (T : Txt K w mg) (U : Kit8 K mg cc CL CF CV) (N : ∀ k : Ec, NewC P w K mg base k.nm (cc k) p_SourceError___init__ (spI2 K "line" "column")) : OkD P w K mg base CX0 4 "_law_are_made" p__law_are_made spMade := by
  obtain ⟨fS, fdS, FS, hm, _⟩ := T.g__law_is_source_error
  have hkf := FS.kp
  refine T.g__law_are_made.ok sc__law_are_made (fun vs H Q E h => ?_) (fun f cdv A outer s H vs Q E hr h => ?_)
  · obtain ⟨l, c, rfl, _⟩ := h; rfl
  obtain ⟨l, c, rfl, q⟩ := h
  have hrH : L2H.RoomH 2 (A.deeper (envOfC "_law_are_made" (defScope s__law_are_made) s.heap.objs.size f cdv)) := ⟨(hr.mono (j := 2) (by decide)).dp, (hr.mono (j := 2) (by decide)).un⟩
  refine ⟨_, (pss_cons (ps_set (i := 2) sc__law_are_made.nd rfl (.inl rfl) (pe_lst (pa_cons (pv 0) (pa_cons (pv 1) pa_nil))))
      (pss_cons (ps_if (pt_not (pt_val (pe_callPin (cc := cc) hm hkf (fun c a d oe hz hf => okP_source (P := P) (w := w) (base := base) T U c a d oe hz hf) hrH (pa_cons (pe_mkG (N .src) hr (pa_cons (pv 0) (pa_cons (pv 1) pa_nil))) (pa_cons (pe_op op_cat (pe_lst (pa_cons (pe_lst pa_nil) pa_nil)) (pv 2)) pa_nil))))) (pss_one (ps_ret pe_bl)) pss_nil)
      (pss_cons (ps_if (pt_not (pt_val (pe_callPin (cc := cc) hm hkf (fun c a d oe hz hf => okP_source (P := P) (w := w) (base := base) T U c a d oe hz hf) hrH (pa_cons (pe_mkG (N .sign) hr (pa_cons (pv 0) (pa_cons (pv 1) pa_nil))) (pa_cons (pe_op op_cat (pe_lst (pa_cons (pe_lst (pa_cons pe_str pa_nil)) pa_nil)) (pv 2)) pa_nil))))) (pss_one (ps_ret pe_bl)) pss_nil)
      (pss_cons (ps_if (pt_not (pt_val (pe_callPin (cc := cc) hm hkf (fun c a d oe hz hf => okP_source (P := P) (w := w) (base := base) T U c a d oe hz hf) hrH (pa_cons (pe_mkG (N .token) hr (pa_cons (pv 0) (pa_cons (pv 1) pa_nil))) (pa_cons (pe_op op_cat (pe_lst (pa_cons (pe_lst (pa_cons pe_str pa_nil)) pa_nil)) (pv 2)) pa_nil))))) (pss_one (ps_ret pe_bl)) pss_nil)
      (pss_cons (ps_if (pt_not (pt_val (pe_callPin (cc := cc) hm hkf (fun c a d oe hz hf => okP_source (P := P) (w := w) (base := base) T U c a d oe hz hf) hrH (pa_cons (pe_mkG (N .indent) hr (pa_cons (pv 0) (pa_cons (pv 1) pa_nil))) (pa_cons (pe_op op_cat (pe_lst (pa_cons (pe_lst (pa_cons pe_str pa_nil)) pa_nil)) (pv 2)) pa_nil))))) (pss_one (ps_ret pe_bl)) pss_nil)
      (pss_cons (ps_if (pt_not (pt_val (pe_callPin (cc := cc) hm hkf (fun c a d oe hz hf => okP_source (P := P) (w := w) (base := base) T U c a d oe hz hf) hrH (pa_cons (pe_mkG (N .long) hr (pa_cons (pv 0) (pa_cons (pv 1) pa_nil))) (pa_cons (pe_op op_cat (pe_lst (pa_cons (pe_lst (pa_cons pe_str pa_nil)) pa_nil)) (pv 2)) pa_nil))))) (pss_one (ps_ret pe_bl)) pss_nil)
      (pss_cons (ps_if (pt_not (pt_val (pe_callPin (cc := cc) hm hkf (fun c a d oe hz hf => okP_source (P := P) (w := w) (base := base) T U c a d oe hz hf) hrH (pa_cons (pe_mkG (N .deep) hr (pa_cons (pv 0) (pa_cons (pv 1) pa_nil))) (pa_cons (pe_op op_cat (pe_lst (pa_cons (pe_lst (pa_cons pe_str pa_nil)) pa_nil)) (pv 2)) pa_nil))))) (pss_one (ps_ret pe_bl)) pss_nil)
      (pss_cons (ps_if (pt_not (pt_val (pe_callPin (cc := cc) hm hkf (fun c a d oe hz hf => okP_source (P := P) (w := w) (base := base) T U c a d oe hz hf) hrH (pa_cons (pe_mkG (N .syn) hr (pa_cons (pv 0) (pa_cons (pv 1) pa_nil))) (pa_cons (pe_op op_cat (pe_lst (pa_cons (pe_lst (pa_cons pe_str pa_nil)) pa_nil)) (pv 2)) pa_nil))))) (pss_one (ps_ret pe_bl)) pss_nil)
      (pss_one (ps_ret (pe_callPin (cc := cc) hm hkf (fun c a d oe hz hf => okP_source (P := P) (w := w) (base := base) T U c a d oe hz hf) hrH (pa_cons (pe_mkG (N .sco) hr (pa_cons (pv 0) (pa_cons (pv 1) pa_nil))) (pa_cons (pe_op op_cat (pe_lst (pa_cons (pe_lst (pa_cons pe_str pa_nil)) pa_nil)) (pv 2)) pa_nil))))))))))))), ?_⟩
  have lim : (1000 : Nat) ≤ sizeLine := by decide
  refine ⟨_, rfl, _, rfl, by show 2 ≤ sizeLine; omega, fun pl npl => ?_⟩
  have hpl : upd H pl (.lst [V.int l, V.int c]) pl = some (.lst [.int l, .int c]) := upd_same
  have s0 := same_new npl (.lst [V.int l, V.int c])
  generalize upd H pl _ = H0 at hpl s0 ⊢
  refine ⟨_, rfl, _, rfl, (by show 2 ≤ 1000; decide), fun a ha => ⟨a, cc .src, .int l, .int c, rfl, upd_same, (N .src).ex, U.nl .src, U.nc .src, fun d H' hd hda h1 h2 h3 => ⟨rfl, ?_⟩⟩⟩
  have hpl' : H' pl = some (.lst [.int l, .int c]) := mk_keep hpl ha hda hd h3
  have hda' : H0 d = none := (upd_ne hda).symm.trans hd
  have hk : Same H0 H' := fun b x hb => mk_keep hb ha hda hd h3
  refine ⟨by show 0 ≤ sizeLine; omega, fun n1 hn1 => ⟨by show 1 ≤ sizeLine; omega, fun n2 hn2 => ?_⟩⟩
  refine ⟨_, rfl, n2, pl, [V.ref n1], _, rfl, rfl, upd_same, (same_new hn2 _) _ _ ((same_new hn1 _) _ _ hpl'), by show 1 + 2 ≤ sizeLine; omega, fun n3 hn3 => ?_⟩
  refine ⟨.src, a, d, _, mk_there hn1 hn2 hn3 h2, mk_there hn1 hn2 hn3 h1, mk_step .src h2 h1 hpl' _ (by decide +kernel) (fun H9 kp9 => ?_) n1 hn1 n2 hn2 n3 hn3⟩
  replace s0 := s0.trans (fun b x hb => kp9 b x (ne_of_none hb ha) (ne_of_none hb hda') (hk _ _ hb) : Same H0 H9)
  replace hpl := kp9 _ _ (ne_of_none hpl ha) (ne_of_none hpl hda') hpl'
  clear hpl' h1 h2 h3 hk ha hd hda hda' kp9 hn1 hn2 hn3
  refine ⟨_, rfl, iteF' rfl ?_⟩
  clear a d n1 n2 n3
  clear H'
  revert hpl s0
  generalize H9 = H8
  clear H9 H0
  intro s0 hpl
  generalize hH : H8 = H0 at hpl s0 ⊢
  clear hH H8
  refine ⟨_, rfl, _, rfl, (by show 2 ≤ 1000; decide), fun a ha => ⟨a, cc .sign, .int l, .int c, rfl, upd_same, (N .sign).ex, U.nl .sign, U.nc .sign, fun d H' hd hda h1 h2 h3 => ⟨rfl, ?_⟩⟩⟩
  have hpl' : H' pl = some (.lst [.int l, .int c]) := mk_keep hpl ha hda hd h3
  have hda' : H0 d = none := (upd_ne hda).symm.trans hd
  have hk : Same H0 H' := fun b x hb => mk_keep hb ha hda hd h3
  refine ⟨by show 1 ≤ sizeLine; omega, fun n1 hn1 => ⟨by show 1 ≤ sizeLine; omega, fun n2 hn2 => ?_⟩⟩
  refine ⟨_, rfl, n2, pl, [V.ref n1], _, rfl, rfl, upd_same, (same_new hn2 _) _ _ ((same_new hn1 _) _ _ hpl'), by show 1 + 2 ≤ sizeLine; omega, fun n3 hn3 => ?_⟩
  refine ⟨.sign, a, d, _, mk_there hn1 hn2 hn3 h2, mk_there hn1 hn2 hn3 h1, mk_step .sign h2 h1 hpl' _ (by decide +kernel) (fun H9 kp9 => ?_) n1 hn1 n2 hn2 n3 hn3⟩
  replace s0 := s0.trans (fun b x hb => kp9 b x (ne_of_none hb ha) (ne_of_none hb hda') (hk _ _ hb) : Same H0 H9)
  replace hpl := kp9 _ _ (ne_of_none hpl ha) (ne_of_none hpl hda') hpl'
  clear hpl' h1 h2 h3 hk ha hd hda hda' kp9 hn1 hn2 hn3
  refine ⟨_, rfl, iteF' rfl ?_⟩
  clear a d n1 n2 n3
  clear H'
  revert hpl s0
  generalize H9 = H8
  clear H9 H0
  intro s0 hpl
  generalize hH : H8 = H0 at hpl s0 ⊢
  clear hH H8
  refine ⟨_, rfl, _, rfl, (by show 2 ≤ 1000; decide), fun a ha => ⟨a, cc .token, .int l, .int c, rfl, upd_same, (N .token).ex, U.nl .token, U.nc .token, fun d H' hd hda h1 h2 h3 => ⟨rfl, ?_⟩⟩⟩
  have hpl' : H' pl = some (.lst [.int l, .int c]) := mk_keep hpl ha hda hd h3
  have hda' : H0 d = none := (upd_ne hda).symm.trans hd
  have hk : Same H0 H' := fun b x hb => mk_keep hb ha hda hd h3
  refine ⟨by show 1 ≤ sizeLine; omega, fun n1 hn1 => ⟨by show 1 ≤ sizeLine; omega, fun n2 hn2 => ?_⟩⟩
  refine ⟨_, rfl, n2, pl, [V.ref n1], _, rfl, rfl, upd_same, (same_new hn2 _) _ _ ((same_new hn1 _) _ _ hpl'), by show 1 + 2 ≤ sizeLine; omega, fun n3 hn3 => ?_⟩
  refine ⟨.token, a, d, _, mk_there hn1 hn2 hn3 h2, mk_there hn1 hn2 hn3 h1, mk_step .token h2 h1 hpl' _ (by decide +kernel) (fun H9 kp9 => ?_) n1 hn1 n2 hn2 n3 hn3⟩
  replace s0 := s0.trans (fun b x hb => kp9 b x (ne_of_none hb ha) (ne_of_none hb hda') (hk _ _ hb) : Same H0 H9)
  replace hpl := kp9 _ _ (ne_of_none hpl ha) (ne_of_none hpl hda') hpl'
  clear hpl' h1 h2 h3 hk ha hd hda hda' kp9 hn1 hn2 hn3
  refine ⟨_, rfl, iteF' rfl ?_⟩
  clear a d n1 n2 n3
  clear H'
  revert hpl s0
  generalize H9 = H8
  clear H9 H0
  intro s0 hpl
  generalize hH : H8 = H0 at hpl s0 ⊢
  clear hH H8
  refine ⟨_, rfl, _, rfl, (by show 2 ≤ 1000; decide), fun a ha => ⟨a, cc .indent, .int l, .int c, rfl, upd_same, (N .indent).ex, U.nl .indent, U.nc .indent, fun d H' hd hda h1 h2 h3 => ⟨rfl, ?_⟩⟩⟩
  have hpl' : H' pl = some (.lst [.int l, .int c]) := mk_keep hpl ha hda hd h3
  have hda' : H0 d = none := (upd_ne hda).symm.trans hd
  have hk : Same H0 H' := fun b x hb => mk_keep hb ha hda hd h3
  refine ⟨by show 1 ≤ sizeLine; omega, fun n1 hn1 => ⟨by show 1 ≤ sizeLine; omega, fun n2 hn2 => ?_⟩⟩
  refine ⟨_, rfl, n2, pl, [V.ref n1], _, rfl, rfl, upd_same, (same_new hn2 _) _ _ ((same_new hn1 _) _ _ hpl'), by show 1 + 2 ≤ sizeLine; omega, fun n3 hn3 => ?_⟩
  refine ⟨.indent, a, d, _, mk_there hn1 hn2 hn3 h2, mk_there hn1 hn2 hn3 h1, mk_step .indent h2 h1 hpl' _ (by decide +kernel) (fun H9 kp9 => ?_) n1 hn1 n2 hn2 n3 hn3⟩
  replace s0 := s0.trans (fun b x hb => kp9 b x (ne_of_none hb ha) (ne_of_none hb hda') (hk _ _ hb) : Same H0 H9)
  replace hpl := kp9 _ _ (ne_of_none hpl ha) (ne_of_none hpl hda') hpl'
  clear hpl' h1 h2 h3 hk ha hd hda hda' kp9 hn1 hn2 hn3
  refine ⟨_, rfl, iteF' rfl ?_⟩
  clear a d n1 n2 n3
  clear H'
  revert hpl s0
  generalize H9 = H8
  clear H9 H0
  intro s0 hpl
  generalize hH : H8 = H0 at hpl s0 ⊢
  clear hH H8
  refine ⟨_, rfl, _, rfl, (by show 2 ≤ 1000; decide), fun a ha => ⟨a, cc .long, .int l, .int c, rfl, upd_same, (N .long).ex, U.nl .long, U.nc .long, fun d H' hd hda h1 h2 h3 => ⟨rfl, ?_⟩⟩⟩
  have hpl' : H' pl = some (.lst [.int l, .int c]) := mk_keep hpl ha hda hd h3
  have hda' : H0 d = none := (upd_ne hda).symm.trans hd
  have hk : Same H0 H' := fun b x hb => mk_keep hb ha hda hd h3
  refine ⟨by show 1 ≤ sizeLine; omega, fun n1 hn1 => ⟨by show 1 ≤ sizeLine; omega, fun n2 hn2 => ?_⟩⟩
  refine ⟨_, rfl, n2, pl, [V.ref n1], _, rfl, rfl, upd_same, (same_new hn2 _) _ _ ((same_new hn1 _) _ _ hpl'), by show 1 + 2 ≤ sizeLine; omega, fun n3 hn3 => ?_⟩
  refine ⟨.long, a, d, _, mk_there hn1 hn2 hn3 h2, mk_there hn1 hn2 hn3 h1, mk_step .long h2 h1 hpl' _ (by decide +kernel) (fun H9 kp9 => ?_) n1 hn1 n2 hn2 n3 hn3⟩
  replace s0 := s0.trans (fun b x hb => kp9 b x (ne_of_none hb ha) (ne_of_none hb hda') (hk _ _ hb) : Same H0 H9)
  replace hpl := kp9 _ _ (ne_of_none hpl ha) (ne_of_none hpl hda') hpl'
  clear hpl' h1 h2 h3 hk ha hd hda hda' kp9 hn1 hn2 hn3
  refine ⟨_, rfl, iteF' rfl ?_⟩
  clear a d n1 n2 n3
  clear H'
  revert hpl s0
  generalize H9 = H8
  clear H9 H0
  intro s0 hpl
  generalize hH : H8 = H0 at hpl s0 ⊢
  clear hH H8
  refine ⟨_, rfl, _, rfl, (by show 2 ≤ 1000; decide), fun a ha => ⟨a, cc .deep, .int l, .int c, rfl, upd_same, (N .deep).ex, U.nl .deep, U.nc .deep, fun d H' hd hda h1 h2 h3 => ⟨rfl, ?_⟩⟩⟩
  have hpl' : H' pl = some (.lst [.int l, .int c]) := mk_keep hpl ha hda hd h3
  have hda' : H0 d = none := (upd_ne hda).symm.trans hd
  have hk : Same H0 H' := fun b x hb => mk_keep hb ha hda hd h3
  refine ⟨by show 1 ≤ sizeLine; omega, fun n1 hn1 => ⟨by show 1 ≤ sizeLine; omega, fun n2 hn2 => ?_⟩⟩
  refine ⟨_, rfl, n2, pl, [V.ref n1], _, rfl, rfl, upd_same, (same_new hn2 _) _ _ ((same_new hn1 _) _ _ hpl'), by show 1 + 2 ≤ sizeLine; omega, fun n3 hn3 => ?_⟩
  refine ⟨.deep, a, d, _, mk_there hn1 hn2 hn3 h2, mk_there hn1 hn2 hn3 h1, mk_step .deep h2 h1 hpl' _ (by decide +kernel) (fun H9 kp9 => ?_) n1 hn1 n2 hn2 n3 hn3⟩
  replace s0 := s0.trans (fun b x hb => kp9 b x (ne_of_none hb ha) (ne_of_none hb hda') (hk _ _ hb) : Same H0 H9)
  replace hpl := kp9 _ _ (ne_of_none hpl ha) (ne_of_none hpl hda') hpl'
  clear hpl' h1 h2 h3 hk ha hd hda hda' kp9 hn1 hn2 hn3
  refine ⟨_, rfl, iteF' rfl ?_⟩
  clear a d n1 n2 n3
  clear H'
  revert hpl s0
  generalize H9 = H8
  clear H9 H0
  intro s0 hpl
  generalize hH : H8 = H0 at hpl s0 ⊢
  clear hH H8
  refine ⟨_, rfl, _, rfl, (by show 2 ≤ 1000; decide), fun a ha => ⟨a, cc .syn, .int l, .int c, rfl, upd_same, (N .syn).ex, U.nl .syn, U.nc .syn, fun d H' hd hda h1 h2 h3 => ⟨rfl, ?_⟩⟩⟩
  have hpl' : H' pl = some (.lst [.int l, .int c]) := mk_keep hpl ha hda hd h3
  have hda' : H0 d = none := (upd_ne hda).symm.trans hd
  have hk : Same H0 H' := fun b x hb => mk_keep hb ha hda hd h3
  refine ⟨by show 1 ≤ sizeLine; omega, fun n1 hn1 => ⟨by show 1 ≤ sizeLine; omega, fun n2 hn2 => ?_⟩⟩
  refine ⟨_, rfl, n2, pl, [V.ref n1], _, rfl, rfl, upd_same, (same_new hn2 _) _ _ ((same_new hn1 _) _ _ hpl'), by show 1 + 2 ≤ sizeLine; omega, fun n3 hn3 => ?_⟩
  refine ⟨.syn, a, d, _, mk_there hn1 hn2 hn3 h2, mk_there hn1 hn2 hn3 h1, mk_step .syn h2 h1 hpl' _ (by decide +kernel) (fun H9 kp9 => ?_) n1 hn1 n2 hn2 n3 hn3⟩
  replace s0 := s0.trans (fun b x hb => kp9 b x (ne_of_none hb ha) (ne_of_none hb hda') (hk _ _ hb) : Same H0 H9)
  replace hpl := kp9 _ _ (ne_of_none hpl ha) (ne_of_none hpl hda') hpl'
  clear hpl' h1 h2 h3 hk ha hd hda hda' kp9 hn1 hn2 hn3
  refine ⟨_, rfl, iteF' rfl ?_⟩
  clear a d n1 n2 n3
  clear H'
  revert hpl s0
  generalize H9 = H8
  clear H9 H0
  intro s0 hpl
  generalize hH : H8 = H0 at hpl s0 ⊢
  clear hH H8
  refine ⟨_, rfl, _, rfl, (by show 2 ≤ 1000; decide), fun a ha => ⟨a, cc .sco, .int l, .int c, rfl, upd_same, (N .sco).ex, U.nl .sco, U.nc .sco, fun d H' hd hda h1 h2 h3 => ⟨rfl, ?_⟩⟩⟩
  have hpl' : H' pl = some (.lst [.int l, .int c]) := mk_keep hpl ha hda hd h3
  have hda' : H0 d = none := (upd_ne hda).symm.trans hd
  have hk : Same H0 H' := fun b x hb => mk_keep hb ha hda hd h3
  refine ⟨by show 1 ≤ sizeLine; omega, fun n1 hn1 => ⟨by show 1 ≤ sizeLine; omega, fun n2 hn2 => ?_⟩⟩
  refine ⟨_, rfl, n2, pl, [V.ref n1], _, rfl, rfl, upd_same, (same_new hn2 _) _ _ ((same_new hn1 _) _ _ hpl'), by show 1 + 2 ≤ sizeLine; omega, fun n3 hn3 => ?_⟩
  refine ⟨.sco, a, d, _, mk_there hn1 hn2 hn3 h2, mk_there hn1 hn2 hn3 h1, mk_step .sco h2 h1 hpl' _ (by decide +kernel) (fun H9 kp9 => ?_) n1 hn1 n2 hn2 n3 hn3⟩
  replace s0 := s0.trans (fun b x hb => kp9 b x (ne_of_none hb ha) (ne_of_none hb hda') (hk _ _ hb) : Same H0 H9)
  exact q H9 s0
end
end D0
namespace D0
open PySem PySem.Spec PyProof.Rows L2 SX NumText
theorem namc_lt {c : Nat} (h : namc c = true) : c < 1114112 := by
  unfold namc letc isDig at h
  simp only [Bool.or_eq_true, Bool.and_eq_true, decide_eq_true_eq, beq_iff_eq] at h
  omega
structure BelC (K : PySem.W.Frag) (CL CS D : Addr) : Prop where
  ex : ExcD K D
  kL : PySem.W.kitOne K (.ref D) (.ref CL) = some true
  kS : PySem.W.kitOne K (.ref D) (.ref CS) = some false
  kE : PySem.W.kitOne K (.ref D) (.type "ValueError") = some true
structure Kit6 (P : Program) (w : World) (K : PySem.W.Frag) (mg : Str → Option Value) (base : Heap) (CL CS CO CC CP CU CV CF : Addr) : Prop where
  nO : NewC P w K mg base "BadOption" CO p_BadOption___init__ (spI1 K "option")
  nC : NewC P w K mg base "BadCode" CC p_BadCode___init__ (spI1 K "unit")
  nP : NewC P w K mg base "BadPaper" CP p_BadPaper___init__ (spI1 K "paper")
  nU : NewC P w K mg base "UnknownPass" CU p_UnknownPass___init__ (spI1 K "word")
  nV : NewC P w K mg base "BadLevel" CV p_BadLevel___init__ (spI1 K "level")
  nF : NewC P w K mg base "Fault" CF p_Fault___init__ (spI2 K "name" "value")
  fO : PySem.W.findIn K (.ref CO) "option" = some none
  fC : PySem.W.findIn K (.ref CC) "unit" = some none
  fP : PySem.W.findIn K (.ref CP) "paper" = some none
  fU : PySem.W.findIn K (.ref CU) "word" = some none
  fV : PySem.W.findIn K (.ref CV) "level" = some none
  fN : PySem.W.findIn K (.ref CF) "name" = some none
  fL : PySem.W.findIn K (.ref CF) "value" = some none
  bO : BelC K CL CS CO
  bC : BelC K CL CS CC
  bP : BelC K CL CS CP
  bU : BelC K CL CS CU
  bV : BelC K CL CS CV
  xO : XfC K CO
  xC : XfC K CC
  xP : XfC K CP
  xU : XfC K CU
  xV : XfC K CV
  xF : XfC K CF
  eF : ExcD K CF
  kFE : PySem.W.kitOne K (.ref CF) (.type "ValueError") = some false
  kOV : PySem.W.kitOne K (.ref CO) (.ref CV) = some false
  kUO : PySem.W.kitOne K (.ref CU) (.ref CO) = some false
  kVC : PySem.W.kitOne K (.ref CV) (.ref CC) = some false
def spBelow (K : PySem.W.Frag) (CL CS : Addr) : Sp := fun vs H Q _ => ∃ (a D d : Addr) (fs : List (Str × V)), vs = [.ref a] ∧ H a = some (exo a D (some d)) ∧ H d = some (exd d fs) ∧ BelC K CL CS D ∧ Q (.bl true) H
def spOthers : Sp := fun vs H Q _ => ∃ (b : Addr), vs = [.ref b] ∧ Bag H b ∧ ∀ H', Q (.bl true) H'
section
variable {P : Program} {w : World} {K : PySem.W.Frag} {mg : Str → Option Value} {base : Heap} {cc : Ec → Addr} {CL CO CC CP CU CV CF : Addr}
theorem ok__law_is_below (T : Txt K w mg) (U : Kit8 K mg cc CL CF CV) : OkD P w K mg base CX0 1 "_law_is_below" p__law_is_below (spBelow K CL (cc .src)) := by
  refine T.g__law_is_below.ok sc__law_is_below (fun vs H Q E h => ?_) (fun f cdv A outer s H vs Q E hr h => ?_)
  · obtain ⟨a, D, d, fs, rfl, _⟩ := h; rfl
  obtain ⟨a, D, d, fs, rfl, ha, hd, C, q⟩ := h
  refine ⟨_, (pss_cons (ps_if (PW.pt (pw_or (pt_not (pt_val (pe_callB call_isO (by rfl) T.z_isinstance PyProof.Rows.boot_isinstance (pa_cons (pv 0) (pa_cons (pe_glob rfl U.gL (show RelV (.ref CL) _ from rfl)) pa_nil))))) (pw_or1 (pt_val (pe_callB call_isO (by rfl) T.z_isinstance PyProof.Rows.boot_isinstance (pa_cons (pv 0) (pa_cons (pe_glob rfl (U.gl .src) (show RelV (.ref (cc .src)) _ from rfl)) pa_nil))))))) (pss_one (ps_ret pe_bl)) pss_nil)
      (pss_one (ps_ret (pe_callB call_isO (by rfl) T.z_isinstance PyProof.Rows.boot_isinstance (pa_cons (pv 0) (pa_cons (pe_bltn (v := .ty "ValueError") rfl T.z_ValueError (by decide +kernel) rfl) pa_nil)))))), ?_⟩
  refine ⟨_, rfl, a, D, d, fs, .ref CL, .ref CL, _, rfl, ha, hd, C.ex, (fun u h => h), C.kL, _, rfl, iteF' rfl ?_⟩
  refine ⟨_, rfl, a, D, d, fs, .ref (cc .src), .ref (cc .src), _, rfl, ha, hd, C.ex, (fun u h => h), C.kS, _, rfl, iteF' rfl ?_⟩
  exact ⟨_, rfl, a, D, d, fs, .ty "ValueError", .type "ValueError", _, rfl, ha, hd, C.ex, (fun u h => h), C.kE, q⟩
theorem ok__law_others_are_made (T : Txt K w mg) (G : Kit6 P w K mg base CL (cc .src) CO CC CP CU CV CF) (Ot : OkD P w K mg base CX0 1 "_law_take" p__law_take spTake) (Os : OkD P w K mg base CX0 2 "_law_spelled" p__law_spelled spSpelled)
    (Ob : OkD P w K mg base CX0 1 "_law_is_below" p__law_is_below (spBelow K CL (cc .src))) : OkD P w K mg base CX0 3 "_law_others_are_made" p__law_others_are_made spOthers := by
  refine T.g__law_others_are_made.ok sc__law_others_are_made (fun vs H Q E h => ?_) (fun f cdv A outer s H vs Q E hr h => ?_)
  · obtain ⟨b, rfl, _⟩ := h; rfl
  obtain ⟨b, rfl, hb, q⟩ := h
  have lim : (1000 : Nat) ≤ sizeLine := by decide
  refine ⟨_, (pss_cons (ps_set (i := 1) sc__law_others_are_made.nd rfl (.inl rfl) (pcall Ot hr (pa_cons (pv 0) (pa_cons pe_int pa_nil))))
      (pss_cons (ps_set (i := 2) sc__law_others_are_made.nd rfl (.inl rfl) (pcall Os hr (pa_cons (pv 0) (pa_cons (pe_op op_add pe_int (pcall Ot hr (pa_cons (pv 0) (pa_cons pe_int pa_nil)))) (pa_cons pe_bl pa_nil)))))
      (pss_cons (ps_set (i := 3) sc__law_others_are_made.nd rfl (.inl rfl) (pe_mkG G.nO hr (pa_cons (pv 2) pa_nil)))
      (pss_cons (ps_set (i := 4) sc__law_others_are_made.nd rfl (.inl rfl) (pe_mkG G.nC hr (pa_cons (pv 1) pa_nil)))
      (pss_cons (ps_set (i := 5) sc__law_others_are_made.nd rfl (.inl rfl) (pe_mkG G.nP hr (pa_cons (pe_tup (pa_cons (pv 2) (pa_cons (pv 1) (pa_cons (pe_op op_add (pv 1) pe_int) pa_nil)))) pa_nil)))
      (pss_cons (ps_set (i := 6) sc__law_others_are_made.nd rfl (.inl rfl) (pe_mkG G.nU hr (pa_cons (pv 2) pa_nil)))
      (pss_cons (ps_set (i := 7) sc__law_others_are_made.nd rfl (.inl rfl) (pe_mkG G.nV hr (pa_cons (pv 1) pa_nil)))
      (pss_cons (ps_set (i := 8) sc__law_others_are_made.nd rfl (.inl rfl) (pe_mkG G.nF hr (pa_cons (pv 2) (pa_cons (pe_tup (pa_cons pe_str (pa_cons (pv 1) pa_nil))) pa_nil))))
      (pss_cons (ps_if (PW.pt (pw_or (pt_not (pt_val (pcall Ob hr (pa_cons (pv 3) pa_nil)))) (pw_or (pt_not (pt_val (pcall Ob hr (pa_cons (pv 4) pa_nil)))) (pw_or1 (pt_not (pt_val (pcall Ob hr (pa_cons (pv 5) pa_nil)))))))) (pss_one (ps_ret pe_bl)) pss_nil)
      (pss_cons (ps_if (PW.pt (pw_or (pt_not (pt_val (pcall Ob hr (pa_cons (pv 6) pa_nil)))) (pw_or (pt_not (pt_val (pcall Ob hr (pa_cons (pv 7) pa_nil)))) (pw_or1 (pt_val (pe_callB call_isO (by rfl) T.z_isinstance PyProof.Rows.boot_isinstance (pa_cons (pv 8) (pa_cons (pe_bltn (v := .ty "ValueError") rfl T.z_ValueError (by decide +kernel) rfl) pa_nil)))))))) (pss_one (ps_ret pe_bl)) pss_nil)
      (pss_cons (ps_if (PW.pt (pw_or (pt_val (pe_callB call_isO (by rfl) T.z_isinstance PyProof.Rows.boot_isinstance (pa_cons (pv 3) (pa_cons (pe_glob rfl G.nV.gl (show RelV (.ref CV) _ from rfl)) pa_nil)))) (pw_or (pt_val (pe_callB call_isO (by rfl) T.z_isinstance PyProof.Rows.boot_isinstance (pa_cons (pv 6) (pa_cons (pe_glob rfl G.nO.gl (show RelV (.ref CO) _ from rfl)) pa_nil)))) (pw_or1 (pt_val (pe_callB call_isO (by rfl) T.z_isinstance PyProof.Rows.boot_isinstance (pa_cons (pv 7) (pa_cons (pe_glob rfl G.nC.gl (show RelV (.ref CC) _ from rfl)) pa_nil)))))))) (pss_one (ps_ret pe_bl)) pss_nil)
      (pss_cons (ps_if (PW.pt (pw_or (pt_cmpR op_ne (pe_fO (pv 3)) (pv 2) (nomark _)) (pw_or (pt_cmpR op_ne (pe_fO (pv 4)) (pv 1) (nomark _)) (pw_or1 (pt_cmpR (op_neD hr.units) (pe_fO (pv 5)) (pe_tup (pa_cons (pv 2) (pa_cons (pv 1) (pa_cons (pe_op op_add (pv 1) pe_int) pa_nil)))) (nomark _)))))) (pss_one (ps_ret pe_bl)) pss_nil)
      (pss_cons (ps_if (PW.pt (pw_or (pt_cmpR op_ne (pe_fO (pv 6)) (pv 2) (nomark _)) (pw_or1 (pt_cmpR op_ne (pe_fO (pv 7)) (pv 1) (nomark _))))) (pss_one (ps_ret pe_bl)) pss_nil)
      (pss_one (ps_ret (pe_and (pe_cmpR op_eq (pe_fO (pv 8)) (pv 2) (nomark _)) (pe_one (pe_cmpR (op_eqD hr.units) (pe_fO (pv 8)) (pe_tup (pa_cons pe_str (pa_cons (pv 1) pa_nil))) (nomark _))))))))))))))))))), ?_⟩
  refine ⟨_, rfl, b, 41, rfl, hb, by decide, by decide, fun r H1 r0 r1 st => ?_⟩
  refine ⟨_, rfl, _, rfl, b, 6, rfl, st.b1, by decide, by decide, fun r2 H2 r3 r4 st2 => ?_⟩
  obtain ⟨n, rfl⟩ : ∃ n : Nat, r2 = (n : Int) := ⟨r2.toNat, by omega⟩
  refine ⟨_, _, rfl, rfl, b, 1 + n, true, (by show [_, V.int _, _] = [_, V.int _, _]; rw [Int.natCast_add]; rfl), st2.b1, by omega, fun _ => by omega, fun l H3 hl hal _ _ => ?_⟩
  have sok : PyData.strOk (S l) = true ∧ PyData.strOk (Str.ofString "number") = true := ⟨strOk_of fun c hc => namc_lt (List.all_eq_true.mp hal c hc), by decide +kernel⟩
  have sh3 : SeqAt.shaped (.tuple [.str (S l), .int r, .int (r + 1)]) = true := by
    unfold SeqAt.shaped
    simp only [PyData.canLay0, PyData.canLayAll0, sok.1, Bool.and_true, PyData.depth, PyData.depthAll]
    rfl
  have sh2 : SeqAt.shaped (.tuple [.str (Str.ofString "number"), .int r]) = true := by
    unfold SeqAt.shaped
    simp only [PyData.canLay0, PyData.canLayAll0, sok.2, Bool.and_true, PyData.depth, PyData.depthAll]
    rfl
  have ev3 : PyData.eqv (.tuple [.str (S l), .int r, .int (r + 1)]) (.tuple [.str (S l), .int r, .int (r + 1)]) = true := by
    rw [PyData.eqv]
    exact PySem.SeqAt.eqvAll_refl _ (by simp only [PyData.canLayAll0, PyData.canLay0, sok.1, Bool.and_true])
  have ev2 : PyData.eqv (.tuple [.str (Str.ofString "number"), .int r]) (.tuple [.str (Str.ofString "number"), .int r]) = true := by
    rw [PyData.eqv]
    exact PySem.SeqAt.eqvAll_refl _ (by simp only [PyData.canLayAll0, PyData.canLay0, sok.2, Bool.and_true])
  clear hb st st2
  refine ⟨_, rfl, by show 1 ≤ 1000; decide, fun aq1 nH => ⟨aq1, CO, _, rfl, upd_same, G.nO.ex, G.fO, fun dq1 H4 e1 e2 hdq1 haq1 e5 => ⟨rfl, ?_⟩⟩⟩
  have nx : Same H3 H4 := fun b o hb => mk_keep hb nH e2 e1 e5
  clear nH e1 e2 e5
  refine ⟨_, rfl, by show 1 ≤ 1000; decide, fun aq2 nH => ⟨aq2, CC, _, rfl, upd_same, G.nC.ex, G.fC, fun dq2 H5 e1 e2 hdq2 haq2 e5 => ⟨rfl, ?_⟩⟩⟩
  have nx : Same H4 H5 := fun b o hb => mk_keep hb nH e2 e1 e5
  clear nH e1 e2 e5
  replace haq1 := nx _ _ haq1
  replace hdq1 := nx _ _ hdq1
  refine ⟨_, rfl, _, rfl, _, rfl, _, _, rfl, rfl, by show 3 ≤ sizeLine; omega, fun tp ntp => ?_⟩
  have nx := same_new ntp (.tup [V.str (S l), V.int r, V.int (r + 1)])
  have htp : upd H5 tp (.tup [V.str (S l), V.int r, V.int (r + 1)]) tp = some (.tup [.str (S l), .int r, .int (r + 1)]) := upd_same
  generalize upd H5 tp _ = H6 at nx htp ⊢
  replace haq1 := nx _ _ haq1
  replace hdq1 := nx _ _ hdq1
  replace haq2 := nx _ _ haq2
  replace hdq2 := nx _ _ hdq2
  refine ⟨by show 1 ≤ 1000; decide, fun aq3 nH => ⟨aq3, CP, _, rfl, upd_same, G.nP.ex, G.fP, fun dq3 H7 e1 e2 hdq3 haq3 e5 => ⟨rfl, ?_⟩⟩⟩
  have nx : Same H6 H7 := fun b o hb => mk_keep hb nH e2 e1 e5
  clear nH e1 e2 e5
  replace haq1 := nx _ _ haq1
  replace hdq1 := nx _ _ hdq1
  replace haq2 := nx _ _ haq2
  replace hdq2 := nx _ _ hdq2
  replace htp := nx _ _ htp
  refine ⟨_, rfl, by show 1 ≤ 1000; decide, fun aq4 nH => ⟨aq4, CU, _, rfl, upd_same, G.nU.ex, G.fU, fun dq4 H8 e1 e2 hdq4 haq4 e5 => ⟨rfl, ?_⟩⟩⟩
  have nx : Same H7 H8 := fun b o hb => mk_keep hb nH e2 e1 e5
  clear nH e1 e2 e5
  replace haq1 := nx _ _ haq1
  replace hdq1 := nx _ _ hdq1
  replace haq2 := nx _ _ haq2
  replace hdq2 := nx _ _ hdq2
  replace haq3 := nx _ _ haq3
  replace hdq3 := nx _ _ hdq3
  replace htp := nx _ _ htp
  refine ⟨_, rfl, by show 1 ≤ 1000; decide, fun aq5 nH => ⟨aq5, CV, _, rfl, upd_same, G.nV.ex, G.fV, fun dq5 H9 e1 e2 hdq5 haq5 e5 => ⟨rfl, ?_⟩⟩⟩
  have nx : Same H8 H9 := fun b o hb => mk_keep hb nH e2 e1 e5
  clear nH e1 e2 e5
  replace haq1 := nx _ _ haq1
  replace hdq1 := nx _ _ hdq1
  replace haq2 := nx _ _ haq2
  replace hdq2 := nx _ _ hdq2
  replace haq3 := nx _ _ haq3
  replace hdq3 := nx _ _ hdq3
  replace haq4 := nx _ _ haq4
  replace hdq4 := nx _ _ hdq4
  replace htp := nx _ _ htp
  refine ⟨_, rfl, _, rfl, by show 2 ≤ sizeLine; omega, fun tv ntv => ?_⟩
  have nx := same_new ntv (.tup [V.str (Str.ofString "number"), V.int r])
  have htv : upd H9 tv (.tup [V.str (Str.ofString "number"), V.int r]) tv = some (.tup [.str (Str.ofString "number"), .int r]) := upd_same
  generalize upd H9 tv _ = H10 at nx htv ⊢
  replace haq1 := nx _ _ haq1
  replace hdq1 := nx _ _ hdq1
  replace haq2 := nx _ _ haq2
  replace hdq2 := nx _ _ hdq2
  replace haq3 := nx _ _ haq3
  replace hdq3 := nx _ _ hdq3
  replace haq4 := nx _ _ haq4
  replace hdq4 := nx _ _ hdq4
  replace haq5 := nx _ _ haq5
  replace hdq5 := nx _ _ hdq5
  replace htp := nx _ _ htp
  refine ⟨by show 2 ≤ 1000; decide, fun af nH => ⟨af, CF, _, _, rfl, upd_same, G.nF.ex, G.fN, G.fL, fun df H11 e1 e2 hdf haf e5 => ⟨rfl, ?_⟩⟩⟩
  have nx : Same H10 H11 := fun b o hb => mk_keep hb nH e2 e1 e5
  clear nH e1 e2 e5
  replace haq1 := nx _ _ haq1
  replace hdq1 := nx _ _ hdq1
  replace haq2 := nx _ _ haq2
  replace hdq2 := nx _ _ hdq2
  replace haq3 := nx _ _ haq3
  replace hdq3 := nx _ _ hdq3
  replace haq4 := nx _ _ haq4
  replace hdq4 := nx _ _ hdq4
  replace haq5 := nx _ _ haq5
  replace hdq5 := nx _ _ hdq5
  replace htp := nx _ _ htp
  replace htv := nx _ _ htv
  refine ⟨_, rfl, aq1, CO, dq1, _, rfl, haq1, hdq1, G.bO, _, rfl, iteF' rfl ?_⟩
  refine ⟨_, rfl, aq2, CC, dq2, _, rfl, haq2, hdq2, G.bC, _, rfl, iteF' rfl ?_⟩
  refine ⟨_, rfl, aq3, CP, dq3, _, rfl, haq3, hdq3, G.bP, _, rfl, iteF' rfl ?_⟩
  refine ⟨_, rfl, aq4, CU, dq4, _, rfl, haq4, hdq4, G.bU, _, rfl, iteF' rfl ?_⟩
  refine ⟨_, rfl, aq5, CV, dq5, _, rfl, haq5, hdq5, G.bV, _, rfl, iteF' rfl ?_⟩
  refine ⟨_, rfl, af, CF, df, _, .ty "ValueError", .type "ValueError", _, rfl, haf, hdf, G.eF, (fun u h => h), G.kFE, _, rfl, iteF' rfl ?_⟩
  refine ⟨_, rfl, aq1, CO, dq1, _, .ref CV, .ref CV, _, rfl, haq1, hdq1, G.bO.ex, (fun u h => h), G.kOV, _, rfl, iteF' rfl ?_⟩
  refine ⟨_, rfl, aq4, CU, dq4, _, .ref CO, .ref CO, _, rfl, haq4, hdq4, G.bU.ex, (fun u h => h), G.kUO, _, rfl, iteF' rfl ?_⟩
  refine ⟨_, rfl, aq5, CV, dq5, _, .ref CC, .ref CC, _, rfl, haq5, hdq5, G.bV.ex, (fun u h => h), G.kVC, _, rfl, iteF' rfl ?_⟩
  refine ⟨_, rfl, aq1, CO, dq1, _, _, rfl, haq1, hdq1, G.xO, G.fO, rfl, _, rfl, rfl, _, rfl, iteF' (by show (!decide _) = false; rw [decide_eq_true rfl]; rfl) ?_⟩
  refine ⟨_, rfl, aq2, CC, dq2, _, _, rfl, haq2, hdq2, G.xC, G.fC, rfl, _, rfl, rfl, _, rfl, iteF' (by show (!decide _) = false; rw [decide_eq_true rfl]; rfl) ?_⟩
  refine ⟨_, rfl, aq3, CP, dq3, _, _, rfl, haq3, hdq3, G.xP, G.fP, rfl, _, rfl, _, rfl, _, rfl, _, _, rfl, rfl, by show 3 ≤ sizeLine; omega, fun t3 nt3 => ?_⟩
  have nx := same_new nt3 (.tup [V.str (S l), V.int r, V.int (r + 1)])
  have ht3 : upd H11 t3 (.tup [V.str (S l), V.int r, V.int (r + 1)]) t3 = some (.tup [.str (S l), .int r, .int (r + 1)]) := upd_same
  generalize upd H11 t3 _ = H12 at nx ht3 ⊢
  replace htp := nx _ _ htp
  have d3 : ∀ t, H12 t = some (.tup [.str (S l), .int r, .int (r + 1)]) → Dp K H12 (.ref t) (.tuple [.str (S l), .int r, .int (r + 1)]) := fun t h => .tup (SqT.of h) (.cons (.str _) (.cons (.int _) (.cons (.int _) .nil)))
  refine ⟨.tuple [.str (S l), .int r, .int (r + 1)], .tuple [.str (S l), .int r, .int (r + 1)], d3 _ htp, d3 _ ht3, sh3, sh3, _, rfl, ?_⟩
  rw [ev3]
  refine iteF' rfl ?_
  replace haq4 := nx _ _ haq4
  replace hdq4 := nx _ _ hdq4
  replace haq5 := nx _ _ haq5
  replace hdq5 := nx _ _ hdq5
  replace haf := nx _ _ haf
  replace hdf := nx _ _ hdf
  replace htv := nx _ _ htv
  refine ⟨_, rfl, aq4, CU, dq4, _, _, rfl, haq4, hdq4, G.xU, G.fU, rfl, _, rfl, rfl, _, rfl, iteF' (by show (!decide _) = false; rw [decide_eq_true rfl]; rfl) ?_⟩
  refine ⟨_, rfl, aq5, CV, dq5, _, _, rfl, haq5, hdq5, G.xV, G.fV, rfl, _, rfl, rfl, _, rfl, iteF' (by show (!decide _) = false; rw [decide_eq_true rfl]; rfl) ?_⟩
  refine ⟨_, rfl, af, CF, df, _, _, rfl, haf, hdf, G.xF, G.fN, rfl, _, rfl, rfl, _, rfl, ?_⟩
  refine iteT' (by show decide _ = true; exact decide_eq_true rfl) ?_
  refine ⟨_, rfl, af, CF, df, _, _, rfl, haf, hdf, G.xF, G.fL, rfl, _, rfl, by show 2 ≤ sizeLine; omega, fun t2 nt2 => ?_⟩
  have nx := same_new nt2 (.tup [V.str (Str.ofString "number"), V.int r])
  have ht2 : upd H12 t2 (.tup [V.str (Str.ofString "number"), V.int r]) t2 = some (.tup [.str (Str.ofString "number"), .int r]) := upd_same
  generalize upd H12 t2 _ = H13 at nx ht2 ⊢
  replace htv := nx _ _ htv
  have d2 : ∀ t, H13 t = some (.tup [.str (Str.ofString "number"), .int r]) → Dp K H13 (.ref t) (.tuple [.str (Str.ofString "number"), .int r]) := fun t h => .tup (SqT.of h) (.cons (.str _) (.cons (.int _) .nil))
  refine ⟨.tuple [.str (Str.ofString "number"), .int r], .tuple [.str (Str.ofString "number"), .int r], d2 _ htv, d2 _ ht2, sh2, sh2, ?_⟩
  rw [ev2]
  exact q _
end
end D0
namespace D0
open PySem PySem.Spec PyProof.Rows L2 SX NumText
def spFz (sp : Sp) : Sp := fun vs H Q E => sp vs H (fun v H' => (∀ b o u, H b = some (.frz o u) → H' b = some (.frz o u)) → Q v H') E
theorem OkD.fz {P : Program} {w : World} {K : PySem.W.Frag} {mg : Str → Option Value} {base : Heap} {CX : CXT} {k : Nat} {x : Str} {ps : List Str} {sp : Sp} (O : OkD P w K mg base CX k x ps sp) : OkD P w K mg base CX k x ps (spFz sp) := by
  obtain ⟨f, fd, a, b, c, d, F⟩ := O
  refine ⟨f, fd, a, b, c, d, ⟨fun vs H Q E h => F.len _ _ _ _ h, fun A outer s H args us vs Q E hr he hb hv h => ?_⟩⟩
  refine codeAny_mono (F.run A outer s H args us vs _ E hr he hb hv h) fun r s' z => ?_
  cases r with
  | error e => exact z
  | ok fl =>
    cases fl with
    | ret u =>
      obtain ⟨v', H', e1, e2, un, e4, e5, e6⟩ := z
      exact ⟨v', H', e1, e2, un, e4, e5, e6 un.frzs⟩
    | next => exact z
    | brk => exact z
    | cont => exact z
def spRight : Sp := fun vs H Q _ => ∃ (m : Bool) (ra : Addr) (es : List RE), vs = [.ref ra] ∧ PgF m H ra es ∧ ∀ H', Q (.bl true) H'
def spLaw (K : PySem.W.Frag) : Sp := fun vs H Q _ => ∃ (a : Addr) (ns : List Int), vs = [.ref a] ∧ Only H ∧ SqL K H a (ns.map V.int) ∧ ns.length ≤ 63 ∧ ∀ H', Q (.bl true) H'
theorem bag_same {H H' : Hp} {b : Addr} (h : Bag H b) (s : Same H H') : Bag H' b := by
  obtain ⟨x, y, z, e⟩ := h
  exact ⟨x, y, z, s _ _ e⟩
def erD (e : Er3) : List PyData := [.str e.1.nm, .int (e.2.1 : Nat), .int (e.2.2 : Nat)]
theorem erD_sh (e : Er3) : SeqAt.shaped (.list (erD e)) = true := by
  obtain ⟨k, a, b⟩ := e
  have h : ∀ x : Str, SeqAt.shaped (.list [.str x, .int (a : Nat), .int (b : Nat)]) = SeqAt.shaped (.list [.str x, .int 0, .int 0]) := fun x => rfl
  show SeqAt.shaped (.list [.str k.nm, .int (a : Nat), .int (b : Nat)]) = true
  rw [h]
  cases k <;> decide +kernel
theorem sumL_le : ∀ {ls : List (List Nat)} {n : Nat}, (∀ l ∈ ls, l.length ≤ n) → sumL ls ≤ ls.length * (n + 1)
  | [], n, _ => Nat.zero_le _
  | l :: r, n, h => by
    have h1 := h l List.mem_cons_self
    have h2 := sumL_le (ls := r) fun x hx => h x (List.mem_cons_of_mem _ hx)
    have e : sumL (l :: r) = (l.length + 1) + sumL r := by unfold sumL; rw [List.map_cons, List.sum_cons]
    rw [e, List.length_cons, Nat.add_mul, Nat.one_mul]
    omega
theorem page_sum {m : Bool} {H : Hp} {ra : Addr} {es : List RE} (x : PgF m H ra es) : sumL (txts (rsE es)) ≤ 700000 := by
  have h := sumL_le (ls := txts (rsE es)) (n := 2100) fun l hl => by
    rw [tx_es] at hl
    obtain ⟨e, he, rfl⟩ := List.mem_map.mp hl
    exact (x.sz e he).1
  have hl : (txts (rsE es)).length ≤ 300 := by rw [tx_es, List.length_map]; exact x.len
  have := Nat.mul_le_mul_right 2101 hl
  omega
section
variable {P : Program} {w : World} {K : PySem.W.Frag} {mg : Str → Option Value} {base : Heap} {cc : Ec → Addr}
theorem ok__law_is_right (T : Txt K w mg) (Of : OkD P w K mg base CX0 2 "_law_first_fault" p__law_first_fault spFirst) (Or_ : OkD P w K mg base CX0 7 "_law_is_raised" p__law_is_raised spRaised)
    (Og : OkD P w K mg base CX0 7 "_law_is_good" p__law_is_good spGood2) : OkD P w K mg base CX0 8 "_law_is_right" p__law_is_right spRight := by
  refine T.g__law_is_right.ok sc__law_is_right (fun vs H Q E h => ?_) (fun f cdv A outer s H vs Q E hr h => ?_)
  · obtain ⟨m, ra, es, rfl, _⟩ := h; rfl
  obtain ⟨m, ra, es, rfl, hpg, q⟩ := h
  have lim : (1100000 : Nat) ≤ sizeLine := by decide
  refine ⟨_, (pss_cons (ps_set (i := 1) sc__law_is_right.nd rfl (.inl rfl) (pcall Of hr (pa_cons (pv 0) pa_nil)))
      (pss_cons (ps_if (pt_cmpR (op_neD hr.units) (pv 1) (pe_lst pa_nil) (nomark _)) (pss_one (ps_ret (pcall Or_ hr (pa_cons (pe_bm PySem.F.plainAttrs_str PySem.F.slot_str_join PySem.F.type_str_join mt_join pe_str (pa_cons (pe_lc (own := [("row", 2)]) (g := gName 2) (tt := tYes) rfl sc__law_is_right.nd (pi_list (pv 0)) (blkOk_by (own := [("row", 2)]) (N := n__law_is_right) (sc := defScope s__law_is_right) (by decide +kernel))
        (fun _ _ _ _ _ => (pg_name (i := 2) sc__law_is_right.nd rfl (Or.inl rfl))) (fun _ _ _ _ _ => pts_nil) (fun _ _ _ _ _ => (pe_ix (show IxR _ (rIxL K) from ix_list) (pv 2) pe_int (fun _ _ => rfl)))) pa_nil)) (pa_cons (pv 1) pa_nil))))) pss_nil)
      (pss_one (ps_ret (pcall Og hr (pa_cons (pv 0) pa_nil)))))), ?_⟩
  refine ⟨_, rfl, m, ra, es, rfl, hpg, fun e he H1 fa s1 hfa => ?_, fun he H1 fa s1 hfa => ?_⟩
  · refine ⟨_, rfl, by show 0 ≤ sizeLine; omega, fun p hp => ?_⟩
    have s2 := same_new hp (.lst [])
    refine ⟨.list (erD e), .list [], .lst (SqL.of (s2 _ _ hfa)) (.cons (.str _) (.cons (.int _) (.cons (.int _) .nil))), .lst (SqL.of upd_same) .nil, erD_sh e, by decide, _, rfl, iteT ?_⟩
    generalize upd H1 p _ = H2 at s2 ⊢
    have smA : Same H H2 := s1.trans s2
    have hpg2 := hpg.same smA
    refine ⟨rfl, _, rfl, ra, rfl, ⟨_, SqL.of hpg2.at_⟩, fun D hD => ?_⟩
    refine lc_it (walk_list (xs := es.map fun e => V.ref e.a)) (fun i H' => Same H2 H' ∧ H' D = some (.lst ((es.take i).map fun e => V.str (S e.r.txt)))) ⟨same_new hD _, upd_same⟩ (fun i H' _ h => SqL.of (h.1 _ _ hpg2.at_)) ?_ ?_
    · rintro i x H3 H4 hi ⟨sm, hl⟩ ⟨rfl, hx⟩
      rw [List.getElem?_map] at hx
      obtain ⟨e, he, rfl⟩ := Option.map_eq_some_iff.mp hx
      have hrow := (hpg2.row e (List.mem_of_getElem? he)).same sm
      have hel := hpg.len
      refine ⟨rfl, iteT (B := True) (iteT ?_)⟩
      refine ⟨_, rfl, e.a, _, 0, _, rfl, rfl, SqL.of hrow.at_, rfl, _, hl, by rw [List.length_map, List.length_take]; omega, same_upd sm hD, ?_⟩
      rw [upd_same, List.take_add_one, he, List.map_append]; rfl
    rintro H3 ⟨sm3, hl3⟩
    rw [List.length_map, List.take_length] at hl3
    have etx : (es.map fun e => V.str (S e.r.txt)) = ((txts (rsE es)).map S).map V.str := by rw [tx_es, List.map_map, List.map_map]; rfl
    rw [etx] at hl3
    have z10 : Str.ofString "\n" = S [10] := by decide +kernel
    rw [z10]
    have hsum := page_sum hpg
    refine ⟨S [10], D, (txts (rsE es)).map S, rfl, rfl, .inl (SqL.of hl3), by rw [sum_eq]; omega, ?_⟩
    rw [join_S]
    have hjl := join_len (txts (rsE es)) (fun z => hpg.ne (by rw [tx_es] at z; exact List.map_eq_nil_iff.mp z))
    exact ⟨_, rfl, TL.joinL [10] (txts (rsE es)), e, fa, rfl, by show _ ≤ 1000000; omega, sm3 _ _ (s2 _ _ hfa), hpg.good.1 e he, fun H' _ => q H'⟩
  · refine ⟨_, rfl, by show 0 ≤ sizeLine; omega, fun p hp => ?_⟩
    have s2 := same_new hp (.lst [])
    refine ⟨.list [], .list [], .lst (SqL.of (s2 _ _ hfa)) .nil, .lst (SqL.of upd_same) .nil, by decide, by decide, _, rfl, iteF ?_⟩
    exact ⟨_, rfl, m, ra, es, rfl, hpg.same (s1.trans s2), he, q⟩
theorem ok_law (T : Txt K w mg) (Ob : OkD P w K mg base CX0 1 "_law_bag" p__law_bag (spBag K)) (Ot : OkD P w K mg base CX0 1 "_law_take" p__law_take spTake) (Op : OkD P w K mg base CX0 7 "_law_page" p__law_page spPage) (Or_ : OkD P w K mg base CX0 8 "_law_is_right" p__law_is_right spRight)
    (Om : OkD P w K mg base CX0 4 "_law_are_made" p__law_are_made spMade) (Oo : OkD P w K mg base CX0 3 "_law_others_are_made" p__law_others_are_made spOthers) : OkD P w K mg base CX0 9 "law" p_law (spLaw K) := by
  refine T.g_law.ok sc_law (fun vs H Q E h => ?_) (fun f cdv A outer s H vs Q E hr h => ?_)
  · obtain ⟨a, ns, rfl, _⟩ := h; rfl
  obtain ⟨a, ns, rfl, hO, hS, h63, q⟩ := h
  have Opz := Op.fz
  have Orz := Or_.fz
  -- the script stays
  have hZ : ∀ H' : Hp, (∀ b o u, H b = some (.frz o u) → H' b = some (.frz o u)) → SqL K H' a (ns.map V.int) := fun H' k => by
    rcases hS with (h | ⟨o, h⟩) | h
    · exfalso
      rcases hO a with n | ⟨o, xs, n⟩
      · rw [n] at h; cases h
      · rw [n] at h; cases h
    · exact .inl (.inr ⟨o, k _ _ _ h⟩)
    · exact .inr h
  have lim : (1000 : Nat) ≤ sizeLine := by decide
  refine ⟨_, (pss_cons (ps_if (pt_not (pt_val (pcall Orz hr (pa_cons (pcall Opz hr (pa_cons (pcall Ob hr (pa_cons (pv 0) (pa_cons pe_int pa_nil))) (pa_cons pe_bl pa_nil))) pa_nil)))) (pss_one (ps_ret pe_bl)) pss_nil)
      (pss_cons (ps_if (pt_not (pt_val (pcall Orz hr (pa_cons (pcall Opz hr (pa_cons (pcall Ob hr (pa_cons (pv 0) (pa_cons pe_int pa_nil))) (pa_cons pe_bl pa_nil))) pa_nil)))) (pss_one (ps_ret pe_bl)) pss_nil)
      (pss_cons (ps_set (i := 1) sc_law.nd rfl (.inl rfl) (pcall Ob hr (pa_cons (pv 0) (pa_cons pe_int pa_nil))))
      (pss_cons (ps_set (i := 2) sc_law.nd rfl (.inl rfl) (pe_op op_add pe_int (pcall Ot hr (pa_cons (pv 1) (pa_cons pe_int pa_nil)))))
      (pss_one (ps_ret (pe_and (pcall Om hr (pa_cons (pv 2) (pa_cons (pe_op op_add pe_int (pcall Ot hr (pa_cons (pv 1) (pa_cons pe_int pa_nil)))) pa_nil))) (pe_one (pcall Oo hr (pa_cons (pv 1) pa_nil)))))))))), ?_⟩
  refine ⟨_, rfl, a, ns, 0, rfl, hS, h63, by omega, fun b H1 s1 nb bag => ?_⟩
  refine ⟨b, false, rfl, bag, fun ra es H2 pg z2 => ?_⟩
  refine ⟨false, ra, es, rfl, pg, fun H3 z3 => ⟨_, rfl, iteF' rfl ?_⟩⟩
  have zA : ∀ b o u, H b = some (.frz o u) → H3 b = some (.frz o u) := fun b o u h => z3 _ _ _ (z2 _ _ _ (s1 _ _ h))
  refine ⟨_, rfl, a, ns, 0, rfl, hZ _ zA, h63, by omega, fun b H4 s4 nb bag => ?_⟩
  refine ⟨b, true, rfl, bag, fun ra es H5 pg z5 => ?_⟩
  refine ⟨true, ra, es, rfl, pg, fun H6 z6 => ⟨_, rfl, iteF' rfl ?_⟩⟩
  have zB : ∀ b o u, H b = some (.frz o u) → H6 b = some (.frz o u) := fun b o u h => z6 _ _ _ (z5 _ _ _ (s4 _ _ (zA _ _ _ h)))
  refine ⟨_, rfl, a, ns, 1, rfl, hZ _ zB, h63, by omega, fun b H7 s7 nb bag => ?_⟩
  refine ⟨_, rfl, b, 6000, rfl, bag, by decide, by decide, fun r H8 r0 r1 st => ⟨_, _, rfl, rfl, ?_⟩⟩
  refine ⟨_, rfl, _, rfl, b, 121, rfl, st.b1, by decide, by decide, fun r' H9 r2 r3 st2 => ⟨_, _, rfl, rfl, ?_⟩⟩
  refine ⟨_, _, rfl, fun H10 s10 => ⟨_, rfl, iteT' rfl ?_⟩⟩
  refine ⟨_, rfl, b, rfl, bag_same st2.b1 s10, q⟩
end
end D0
namespace D0
open PySem PySem.Spec PyProof.Rows L2 SX NumText
theorem kit_own {K : PySem.W.Frag} {B C : Addr} {b : Bool} (n : (B == C) = false) (cl : PySem.W.isClsIn K C = true) (ty : PySem.W.typeIn K (.ref C) = some (.type "type")) (s : PySem.W.subIn K (.ref B) (.ref C) = some b) : PySem.W.kitOne K (.ref B) (.ref C) = some b := by
  have e0 : (Value.ref B == Value.ref C) = false := by
    refine beq_eq_false_iff_ne.mpr fun z => ?_
    have := beq_eq_false_iff_ne.mp n
    exact this (Value.ref.inj z)
  have cl' : (PySem.W.clsIn K C).isSome = true := cl
  have e1 : ((PySem.W.clsIn K C).isSome && PySem.W.typeIn K (.ref C) == some (.type "type")) = true := by rw [cl', ty]; rfl
  show (if (Value.ref B == Value.ref C) = true then some true else (if ((PySem.W.clsIn K C).isSome && PySem.W.typeIn K (.ref C) == some (.type "type")) = true then PySem.W.subIn K (.ref B) (.ref C) else none)) = some b
  rw [e0, if_neg Bool.false_ne_true, if_pos e1]
  exact s
theorem kit_self {K : PySem.W.Frag} {v : Value} : PySem.W.kitOne K v v = some true := by
  show (if (v == v) = true then some true else _) = some true
  rw [if_pos (beq_self_eq_true v)]
theorem kit_bt {K : PySem.W.Frag} {B : Addr} {T : String} {b : Bool} (m : PySem.W.kitMeta T = true) (s : PySem.W.subIn K (.ref B) (.type T) = some b) : PySem.W.kitOne K (.ref B) (.type T) = some b := by
  show (if (Value.ref B == Value.type T) = true then some true else (if PySem.W.kitMeta T = true then PySem.W.subIn K (.ref B) (.type T) else none)) = some b
  rw [if_neg, if_pos m]
  · exact s
  · intro z; cases eq_of_beq z
/-! ### the written tuples and dicts -/
theorem rel_of_str {u : Value} {z : Str} (h : absV u = some (.str z)) : RelV (.str z) u := by
  cases u <;> cases h <;> exact ⟨_, rfl⟩
theorem vals_of_str : ∀ (ls : List (List Nat)) (us : List Value), us.map absV = ls.map (fun l => some (V.str (S l))) → Vals (ls.map fun l => V.str (S l)) us
  | [], [], _ => .nil
  | [], _ :: _, h => by cases h
  | _ :: _, [], h => by cases h
  | l :: ls, u :: us, h => by
    rw [List.map_cons, List.map_cons] at h
    injection h with h1 h2
    exact .cons (rel_of_str h1) (vals_of_str ls us h2)
theorem tupT_of {K : PySem.W.Frag} {mg : Str → Option Value} {x : Str} {ls : List (List Nat)} {a : Addr} {od : Option Addr} {its : Array Value} {n : Nat} {sl : Array (Option Value)} (gm : mg x = some (.ref a)) (lk : K.lookup a = some ⟨.type "tuple", od, .seq its n, sl⟩)
    (v : its.toList.map absV = ls.map (fun l => some (V.str (S l)))) (hz : its.size ≤ 1000) : TupT K mg x ls :=
  ⟨a, gm, fun H => .inr ⟨_, its, n, lk, rfl, rfl, Nat.le_trans hz (by decide), vals_of_str ls _ v⟩⟩
def Ents (P : Params) : List (List Nat × List Nat) → List DictEntry → Prop
  | [], [] => True
  | (k, v) :: r, e :: es => (∃ h t u, e = ⟨h, .str (S k) t, .str (S v) u⟩ ∧ h = PyData.keyHash P (S k)) ∧ Ents P r es
  | _, _ => False
def getL : List (List Nat × List Nat) → List Nat → Option (List Nat)
  | [], _ => none
  | (k, v) :: r, l => if k = l then some v else getL r l
theorem ents_keys {P : Params} : ∀ {ps : List (List Nat × List Nat)} {es : List DictEntry}, Ents P ps es → PySem.W.KeysLit P es
  | [], [], _ => trivial
  | [], _ :: _, h => h.elim
  | _ :: _, [], h => h.elim
  | (k, v) :: r, e :: es, ⟨⟨h, t, u, he, hh⟩, hr⟩ => ⟨⟨S k, t, by rw [he], by rw [he]; exact hh⟩, ents_keys hr⟩
theorem ents_find {P : Params} (l : List Nat) : ∀ {ps : List (List Nat × List Nat)} {es : List DictEntry}, Ents P ps es →
    es.any (·.refKey) = false ∧ ((es.find? (·.key.isStr (S l))).isSome = (getL ps l).isSome) ∧ ∀ m, getL ps l = some m → ∃ e, es.find? (·.key.isStr (S l)) = some e ∧ RelV (.str (S m)) e.val
  | [], [], _ => ⟨rfl, rfl, fun m h => by cases h⟩
  | [], _ :: _, h => h.elim
  | _ :: _, [], h => h.elim
  | (k, v) :: r, e :: es, ⟨⟨h, t, u, he, hh⟩, hr⟩ => by
    obtain ⟨i1, i2, i3⟩ := ents_find l hr
    subst he
    refine ⟨by rw [List.any_cons, i1]; rfl, ?_⟩
    have hk : (Value.str (S k) t).isStr (S l) = decide (k = l) := by
      show (S k == S l) = decide (k = l)
      by_cases c : k = l
      · subst c; rw [beq_self_eq_true, decide_eq_true rfl]
      · rw [decide_eq_false c]; exact beq_eq_false_iff_ne.mpr fun z => c (S_inj z)
    by_cases c : k = l
    · have e1 : List.find? (fun x : DictEntry => x.key.isStr (S l)) (⟨h, .str (S k) t, .str (S v) u⟩ :: es) = some ⟨h, .str (S k) t, .str (S v) u⟩ := by
        rw [List.find?_cons, show (Value.str (S k) t).isStr (S l) = true by rw [hk, decide_eq_true c]]
      have e2 : getL ((k, v) :: r) l = some v := if_pos c
      rw [e1, e2]
      exact ⟨rfl, fun m hm => by cases hm; exact ⟨_, rfl, ⟨_, rfl⟩⟩⟩
    · have e1 : List.find? (fun x : DictEntry => x.key.isStr (S l)) (⟨h, .str (S k) t, .str (S v) u⟩ :: es) = List.find? (fun x : DictEntry => x.key.isStr (S l)) es := by
        rw [List.find?_cons, show (Value.str (S k) t).isStr (S l) = false by rw [hk, decide_eq_false c]]
      have e2 : getL ((k, v) :: r) l = getL r l := if_neg c
      rw [e1, e2]
      exact ⟨i2, i3⟩
theorem dictT_of {K : PySem.W.Frag} {w : World} {mg : Str → Option Value} {x : Str} {f : List Nat → Option (List Nat)} {d : Addr} {es : Array DictEntry} {n : Nat} (ps : List (List Nat × List Nat)) (hf : ∀ l, f l = getL ps l) (gm : mg x = some (.ref d)) (low : (d == sysModules) = false)
    (lk : K.lookup d = some ⟨.type "dict", none, .dict es n, #[]⟩) (he : Ents w.params ps es.toList) : DictT K w mg x f := by
  refine ⟨d, es, n, gm, ⟨lk, ents_keys he, low⟩, fun l => ?_⟩
  obtain ⟨i1, i2, i3⟩ := ents_find l he
  rw [hf l]
  have hn : PySem.W.nsIn K d (S l) = match es.toList.find? (·.key.isStr (S l)) with
      | some e => some (some e.val)
      | none => if es.toList.any (·.refKey) then none else some none := by
    unfold PySem.W.nsIn
    rw [lk] <;> rfl
  rw [hn, i1]
  cases hg : getL ps l with
  | none =>
    rw [hg] at i2
    cases hq : es.toList.find? (·.key.isStr (S l)) with
    | none => exact ⟨none, rfl, rfl, fun m h => by cases h⟩
    | some e => rw [hq] at i2; cases i2
  | some m =>
    obtain ⟨e, he2, hr⟩ := i3 m hg
    rw [he2]
    exact ⟨some e.val, rfl, rfl, fun m' h => by cases h; exact ⟨_, rfl, hr⟩⟩
def escP : List (List Nat × List Nat) := [([110], [10]), ([92], [92]), ([39], [39]), ([34], [34])]
def cloP : List (List Nat × List Nat) := [([41], [40]), ([93], [91]), ([125], [123])]
theorem escV_get (l : List Nat) : escV l = getL escP l := by
  by_cases a : [110] = l
  · subst a; rfl
  by_cases b : [92] = l
  · subst b; rfl
  by_cases c : [39] = l
  · subst c; rfl
  by_cases d : [34] = l
  · subst d; rfl
  have e : getL escP l = none := by
    show (if [110] = l then _ else if [92] = l then _ else if [39] = l then _ else if [34] = l then _ else _) = _
    rw [if_neg a, if_neg b, if_neg c, if_neg d]; rfl
  rw [e]
  unfold escV
  split
  · exact absurd rfl a
  · exact absurd rfl b
  · exact absurd rfl c
  · exact absurd rfl d
  · rfl
theorem cloV_get (l : List Nat) : cloV l = getL cloP l := by
  by_cases a : [41] = l
  · subst a; rfl
  by_cases b : [93] = l
  · subst b; rfl
  by_cases c : [125] = l
  · subst c; rfl
  have e : getL cloP l = none := by
    show (if [41] = l then _ else if [93] = l then _ else if [125] = l then _ else _) = _
    rw [if_neg a, if_neg b, if_neg c]; rfl
  rw [e]
  unfold cloV
  split
  · exact absurd rfl a
  · exact absurd rfl b
  · exact absurd rfl c
  · rfl
theorem hin_of {K : PySem.W.Frag} {C : Addr} {nm q : Str} {N : Addr} {bs bm : List Value} {hdct : Bool} {sn : List Str} {sub : List Value} {ab : Bool} {col : Option Bool} {dd : Option Addr} {k0 k1 k2 k3 k5 : Option Value} {nI : String} {tl : List Value}
    (lk : K.lookup C = some (excClassObj nm q C N bs bm hdct sn sub ab col dd k0 k1 k2 k3 k5 nI)) (ht : PySem.W.excTail tl bm = true) : PySem.W.excInitIn K C tl nI = true ∧ PySem.W.excOver K C tl = true := by
  have hc : PySem.W.clsIn K C = some { name := nm, bases := bs, mro := .ref C :: bm, ns := N, qualname := q, hasDict := hdct, slotNames := sn, subclasses := sub, abstract := ab, collection := col, hasDel := false } := by unfold PySem.W.clsIn; rw [lk] <;> rfl
  refine ⟨?_, ?_⟩
  · unfold PySem.W.excInitIn
    rw [lk]
    show (C == C && nI == nI && !false && PySem.W.excTail tl bm) = true
    rw [beq_self_eq_true, beq_self_eq_true, ht] <;> rfl
  · unfold PySem.W.excOver
    rw [hc]
    show (C == C && PySem.W.excTail tl bm) = true
    rw [beq_self_eq_true, ht] <;> rfl
abbrev tlV : List Value := [.type "ValueError", .type "Exception", .type "BaseException", .type "object"]
abbrev tlE : List Value := [.type "Exception", .type "BaseException", .type "object"]
theorem oexV {K : PySem.W.Frag} {C : Addr} (h : PySem.W.excInitIn K C tlV "ValueError.__new__" = true ∧ PySem.W.excOver K C tlV = true) (sa : PySem.W.findIn K (.ref C) "__setattr__" = some (some (.builtin "object.__setattr__"))) (hd : PySem.W.hasDictIn K C = true) (kC : PySem.W.keepIn K (.ref C) = true) : OexG K C :=
  ⟨⟨_, _, _, _, PySem.F.excBase_ValueError, PySem.F.store_ValueError, h.1, h.2⟩, sa, hd, kC⟩
theorem oexE {K : PySem.W.Frag} {C : Addr} (h : PySem.W.excInitIn K C tlE "Exception.__new__" = true ∧ PySem.W.excOver K C tlE = true) (sa : PySem.W.findIn K (.ref C) "__setattr__" = some (some (.builtin "object.__setattr__"))) (hd : PySem.W.hasDictIn K C = true) (kC : PySem.W.keepIn K (.ref C) = true) : OexG K C :=
  ⟨⟨_, _, _, _, PySem.F.excBase_Exception, PySem.F.store_Exception, h.1, h.2⟩, sa, hd, kC⟩
section
variable {P : Program} {w : World} {K : PySem.W.Frag} {mg : Str → Option Value} {base : Heap} {cc : Ec → Addr} {CL CO CC CP CU CV CF C : Addr}
theorem all_ok (T : Txt K w mg) (ER : ErrT P w K mg base fun k => cc k.up) (SC0 : ScT K mg C) (U : Kit8 K mg cc CL CF CV) (G : Kit6 P w K mg base CL (cc .src) CO CC CP CU CV CF) (N : ∀ k : Ec, NewC P w K mg base k.nm (cc k) p_SourceError___init__ (spI2 K "line" "column")) : OkD P w K mg base CX0 9 "law" p_law (spLaw K) := by
  have o1 := ok_is_digit (P := P) (w := w) (base := base) T.g_is_digit
  have o2 := ok_digits_end T.g_digits_end o1 T.z_len
  have o3 := ok_is_row (P := P) (w := w) (base := base) T.g_is_row T.z_ord T.c_PERCENT
  have o4 := ok_is_letter (P := P) (w := w) (base := base) T.g_is_letter
  have o5 := ok_name_end T.g_name_end o1 o4 T.z_len
  have o6 := ok_spaces_end (P := P) (w := w) (base := base) T.g_spaces_end T.z_len
  have o7 := ok_scan_name T ER o5
  have o8 := ok_scan_number T ER o2 o4
  have o9 := ok_scan_text T ER
  have o10 := ok_scan_sign T ER
  have o11 := ok_scan_token T ER o1 o4 o7 o8 o9 o10
  have m1 := ok_Scanner_begin_line T ER SC0
  have m2 := ok_Scanner_match_bracket T ER SC0
  have m3 := ok_Scanner_gather T ER SC0 m2
  have m4 := ok_Scanner_end_line (P := P) (w := w) (base := base) SC0
  have m5 := ok_Scanner_scan_row T ER SC0 o6 o11 m1 m3 m4
  have o12 := ok_check_letters T ER o3
  have o13 := ok_checked_rows T ER o12
  have m6 := ok_Scanner_end_text T ER SC0
  have o14 := ok_tokens T ER SC0 o13 m5 m6
  have w_bag := ok__law_bag (P := P) (w := w) (base := base) T
  have w_take := ok__law_take (P := P) (w := w) (base := base) T
  have w_letters := ok__law_letters (P := P) (w := w) (base := base) T
  have w_allowed := ok__law_allowed (P := P) (w := w) (base := base) T
  have w_signs := ok__law_signs (P := P) (w := w) (base := base) T
  have w_keywords := ok__law_keywords (P := P) (w := w) (base := base) T
  have w_spelled := ok__law_spelled  T w_take w_letters
  have w_figures := ok__law_figures  T w_take
  have w_inner := ok__law_inner  T w_take w_allowed
  have w_named := ok__law_named  T w_keywords
  have w_good := ok__law_good  T w_take w_signs w_keywords w_spelled w_figures w_inner w_named
  have w_odd_figures := ok__law_odd_figures  T w_take w_spelled w_figures
  have w_odd_text := ok__law_odd_text  T w_take w_spelled w_inner
  have w_odd := ok__law_odd  T w_take w_spelled w_named w_odd_figures w_odd_text
  have w_item := ok__law_item  T w_take w_odd w_good
  have w_add_item := ok__law_add_item (P := P) (w := w) (base := base) T
  have w_row := ok__law_row  T w_take w_item w_add_item
  have w_width := ok__law_width  T w_take
  have w_crowd := ok__law_crowd  T w_take w_spelled w_named w_add_item
  have w_stretched := ok__law_stretched  T w_take
  have w_filled := ok__law_filled  T w_take
  have w_page := ok__law_page  T w_take w_row w_width w_crowd w_stretched w_filled
  have w_block_fault := ok__law_block_fault (P := P) (w := w) (base := base) T
  have w_first_fault := ok__law_first_fault  T w_block_fault
  have w_logical_lines := ok__law_logical_lines (P := P) (w := w) (base := base) T
  have w_whole := ok__law_whole (P := P) (w := w) (base := base) T
  have w_is_tokens := ok__law_is_tokens  T w_whole
  have w_is_good := ok__law_is_good T o14 w_is_tokens w_logical_lines
  have w_is_raised := ok__law_is_raised T U o14
  have w_are_made := ok__law_are_made T U N
  have w_is_below := ok__law_is_below (P := P) (w := w) (base := base) T U
  have w_others := ok__law_others_are_made T G w_take w_spelled w_is_below
  have w_is_right := ok__law_is_right T w_first_fault w_is_raised w_is_good
  exact ok_law T w_bag w_take w_page w_is_right w_are_made w_others
end
end D0
namespace D0
open PySem PySem.Spec PyProof.Rows L2 SX NumText
def ccf (C0 C1 C2 C3 C4 C5 C6 C7 : Addr) : Ec → Addr
  | .src => C0 | .sign => C1 | .token => C2 | .indent => C3 | .long => C4 | .deep => C5 | .syn => C6 | .sco => C7
set_option maxHeartbeats 8000000 in
theorem all_mk {l : PySem.W.OpenLaw} {w : World} {K : PySem.W.Frag} {h : Heap} {mg : Str → Option Value} {fa : Addr} (X : K.In h) (G : h.Ns mainGlobals mg) (hfa : mg "law" = some (.ref fa))
    {od1 an1 : Option Addr} {sl1 : Array (Option Value)} {oc1 kV1 dc1 pm1 cd1 ct1 : Value} {f1 : Addr}
    {od2 an2 : Option Addr} {sl2 : Array (Option Value)} {oc2 kV2 dc2 pm2 cd2 ct2 : Value} {f2 : Addr}
    {od3 an3 : Option Addr} {sl3 : Array (Option Value)} {oc3 kV3 dc3 pm3 cd3 ct3 : Value} {f3 : Addr}
    {od4 an4 : Option Addr} {sl4 : Array (Option Value)} {oc4 kV4 dc4 pm4 cd4 ct4 : Value} {f4 : Addr}
    {od5 an5 : Option Addr} {sl5 : Array (Option Value)} {oc5 kV5 dc5 pm5 cd5 ct5 : Value} {f5 : Addr}
    {od6 an6 : Option Addr} {sl6 : Array (Option Value)} {oc6 kV6 dc6 pm6 cd6 ct6 : Value} {f6 : Addr}
    {od7 an7 : Option Addr} {sl7 : Array (Option Value)} {oc7 kV7 dc7 pm7 cd7 ct7 : Value} {f7 : Addr}
    {od8 an8 : Option Addr} {sl8 : Array (Option Value)} {oc8 kV8 dc8 pm8 cd8 ct8 : Value} {f8 : Addr}
    {od9 an9 : Option Addr} {sl9 : Array (Option Value)} {oc9 kV9 dc9 pm9 cd9 ct9 : Value} {f9 : Addr}
    {od10 an10 : Option Addr} {sl10 : Array (Option Value)} {oc10 kV10 dc10 pm10 cd10 ct10 : Value} {f10 : Addr}
    {od11 an11 : Option Addr} {sl11 : Array (Option Value)} {oc11 kV11 dc11 pm11 cd11 ct11 : Value} {f11 : Addr}
    {od12 an12 : Option Addr} {sl12 : Array (Option Value)} {oc12 kV12 dc12 pm12 cd12 ct12 : Value} {f12 : Addr}
    {od13 an13 : Option Addr} {sl13 : Array (Option Value)} {oc13 kV13 dc13 pm13 cd13 ct13 : Value} {f13 : Addr}
    {od14 an14 : Option Addr} {sl14 : Array (Option Value)} {oc14 kV14 dc14 pm14 cd14 ct14 : Value} {f14 : Addr}
    {od15 an15 : Option Addr} {sl15 : Array (Option Value)} {oc15 kV15 dc15 pm15 cd15 ct15 : Value} {f15 : Addr}
    {od16 an16 : Option Addr} {sl16 : Array (Option Value)} {oc16 kV16 dc16 pm16 cd16 ct16 : Value} {f16 : Addr}
    {od17 an17 : Option Addr} {sl17 : Array (Option Value)} {oc17 kV17 dc17 pm17 cd17 ct17 : Value} {f17 : Addr}
    {od18 an18 : Option Addr} {sl18 : Array (Option Value)} {oc18 kV18 dc18 pm18 cd18 ct18 : Value} {f18 : Addr}
    {od19 an19 : Option Addr} {sl19 : Array (Option Value)} {oc19 kV19 dc19 pm19 cd19 ct19 : Value} {f19 : Addr}
    {od20 an20 : Option Addr} {sl20 : Array (Option Value)} {oc20 kV20 dc20 pm20 cd20 ct20 : Value} {f20 : Addr}
    {od21 an21 : Option Addr} {sl21 : Array (Option Value)} {oc21 kV21 dc21 pm21 cd21 ct21 : Value} {f21 : Addr}
    {od22 an22 : Option Addr} {sl22 : Array (Option Value)} {oc22 kV22 dc22 pm22 cd22 ct22 : Value} {f22 : Addr}
    {od23 an23 : Option Addr} {sl23 : Array (Option Value)} {oc23 kV23 dc23 pm23 cd23 ct23 : Value} {f23 : Addr}
    {od24 an24 : Option Addr} {sl24 : Array (Option Value)} {oc24 kV24 dc24 pm24 cd24 ct24 : Value} {f24 : Addr}
    {od25 an25 : Option Addr} {sl25 : Array (Option Value)} {oc25 kV25 dc25 pm25 cd25 ct25 : Value} {f25 : Addr}
    {od26 an26 : Option Addr} {sl26 : Array (Option Value)} {oc26 kV26 dc26 pm26 cd26 ct26 : Value} {f26 : Addr}
    {od27 an27 : Option Addr} {sl27 : Array (Option Value)} {oc27 kV27 dc27 pm27 cd27 ct27 : Value} {f27 : Addr}
    {od28 an28 : Option Addr} {sl28 : Array (Option Value)} {oc28 kV28 dc28 pm28 cd28 ct28 : Value} {f28 : Addr}
    {od29 an29 : Option Addr} {sl29 : Array (Option Value)} {oc29 kV29 dc29 pm29 cd29 ct29 : Value} {f29 : Addr}
    {od30 an30 : Option Addr} {sl30 : Array (Option Value)} {oc30 kV30 dc30 pm30 cd30 ct30 : Value} {f30 : Addr}
    {od31 an31 : Option Addr} {sl31 : Array (Option Value)} {oc31 kV31 dc31 pm31 cd31 ct31 : Value} {f31 : Addr}
    {od32 an32 : Option Addr} {sl32 : Array (Option Value)} {oc32 kV32 dc32 pm32 cd32 ct32 : Value} {f32 : Addr}
    {od33 an33 : Option Addr} {sl33 : Array (Option Value)} {oc33 kV33 dc33 pm33 cd33 ct33 : Value} {f33 : Addr}
    {od34 an34 : Option Addr} {sl34 : Array (Option Value)} {oc34 kV34 dc34 pm34 cd34 ct34 : Value} {f34 : Addr}
    {od35 an35 : Option Addr} {sl35 : Array (Option Value)} {oc35 kV35 dc35 pm35 cd35 ct35 : Value} {f35 : Addr}
    {od36 an36 : Option Addr} {sl36 : Array (Option Value)} {oc36 kV36 dc36 pm36 cd36 ct36 : Value} {f36 : Addr}
    {od37 an37 : Option Addr} {sl37 : Array (Option Value)} {oc37 kV37 dc37 pm37 cd37 ct37 : Value} {f37 : Addr}
    {od38 an38 : Option Addr} {sl38 : Array (Option Value)} {oc38 kV38 dc38 pm38 cd38 ct38 : Value} {f38 : Addr}
    {od39 an39 : Option Addr} {sl39 : Array (Option Value)} {oc39 kV39 dc39 pm39 cd39 ct39 : Value} {f39 : Addr}
    {od40 an40 : Option Addr} {sl40 : Array (Option Value)} {oc40 kV40 dc40 pm40 cd40 ct40 : Value} {f40 : Addr}
    {od41 an41 : Option Addr} {sl41 : Array (Option Value)} {oc41 kV41 dc41 pm41 cd41 ct41 : Value} {f41 : Addr}
    {od42 an42 : Option Addr} {sl42 : Array (Option Value)} {oc42 kV42 dc42 pm42 cd42 ct42 : Value} {f42 : Addr}
    {od43 an43 : Option Addr} {sl43 : Array (Option Value)} {oc43 kV43 dc43 pm43 cd43 ct43 : Value} {f43 : Addr}
    {od44 an44 : Option Addr} {sl44 : Array (Option Value)} {oc44 kV44 dc44 pm44 cd44 ct44 : Value} {f44 : Addr}
    {od45 an45 : Option Addr} {sl45 : Array (Option Value)} {oc45 kV45 dc45 pm45 cd45 ct45 : Value} {f45 : Addr}
    {od46 an46 : Option Addr} {sl46 : Array (Option Value)} {oc46 kV46 dc46 pm46 cd46 ct46 : Value} {f46 : Addr}
    {od47 an47 : Option Addr} {sl47 : Array (Option Value)} {oc47 kV47 dc47 pm47 cd47 ct47 : Value} {f47 : Addr}
    {od48 an48 : Option Addr} {sl48 : Array (Option Value)} {oc48 kV48 dc48 pm48 cd48 ct48 : Value} {f48 : Addr}
    {od49 an49 : Option Addr} {sl49 : Array (Option Value)} {oc49 kV49 dc49 pm49 cd49 ct49 : Value} {f49 : Addr}
    {od50 an50 : Option Addr} {sl50 : Array (Option Value)} {oc50 kV50 dc50 pm50 cd50 ct50 : Value} {f50 : Addr}
    {od51 an51 : Option Addr} {sl51 : Array (Option Value)} {oc51 kV51 dc51 pm51 cd51 ct51 : Value} {f51 : Addr}
    {od52 an52 : Option Addr} {sl52 : Array (Option Value)} {oc52 kV52 dc52 pm52 cd52 ct52 : Value} {f52 : Addr}
    {od53 an53 : Option Addr} {sl53 : Array (Option Value)} {oc53 kV53 dc53 pm53 cd53 ct53 : Value} {f53 : Addr}
    {od54 an54 : Option Addr} {sl54 : Array (Option Value)} {oc54 kV54 dc54 pm54 cd54 ct54 : Value} {f54 : Addr}
    {od55 an55 : Option Addr} {sl55 : Array (Option Value)} {oc55 kV55 dc55 pm55 cd55 ct55 : Value} {f55 : Addr}
    {od56 an56 : Option Addr} {sl56 : Array (Option Value)} {oc56 kV56 dc56 pm56 cd56 ct56 : Value} {f56 : Addr}
    {od57 an57 : Option Addr} {sl57 : Array (Option Value)} {oc57 kV57 dc57 pm57 cd57 ct57 : Value} {f57 : Addr}
    {od58 an58 : Option Addr} {sl58 : Array (Option Value)} {oc58 kV58 dc58 pm58 cd58 ct58 : Value} {f58 : Addr}
    {od59 an59 : Option Addr} {sl59 : Array (Option Value)} {oc59 kV59 dc59 pm59 cd59 ct59 : Value} {f59 : Addr}
    {od60 an60 : Option Addr} {sl60 : Array (Option Value)} {oc60 kV60 dc60 pm60 cd60 ct60 : Value} {f60 : Addr}
    {od61 an61 : Option Addr} {sl61 : Array (Option Value)} {oc61 kV61 dc61 pm61 cd61 ct61 : Value} {f61 : Addr}
    {od62 an62 : Option Addr} {sl62 : Array (Option Value)} {oc62 kV62 dc62 pm62 cd62 ct62 : Value} {f62 : Addr}
    {od63 an63 : Option Addr} {sl63 : Array (Option Value)} {oc63 kV63 dc63 pm63 cd63 ct63 : Value} {f63 : Addr}
    {od64 an64 : Option Addr} {sl64 : Array (Option Value)} {oc64 kV64 dc64 pm64 cd64 ct64 : Value} {f64 : Addr}
    {CC C0 C1 C2 C3 C4 C5 C6 C7 KL KO KC KP KU KV KF : Addr}
    {t_PERCENT : Tok}
    {t_NAME_LIMIT : Tok}
    {t_NUMBER_LIMIT : Tok}
    {t_TEXT_LIMIT : Tok}
    {t_ROW_LIMIT : Tok}
    {t_TOKEN_LIMIT : Tok}
    {t_INDENT_LIMIT : Tok}
    {a_KEYWORDS : Addr} {od_KEYWORDS : Option Addr} {its_KEYWORDS : Array Value} {n_KEYWORDS : Nat} {sl_KEYWORDS : Array (Option Value)}
    {a_SIGNS : Addr} {od_SIGNS : Option Addr} {its_SIGNS : Array Value} {n_SIGNS : Nat} {sl_SIGNS : Array (Option Value)}
    {a_OPENING : Addr} {od_OPENING : Option Addr} {its_OPENING : Array Value} {n_OPENING : Nat} {sl_OPENING : Array (Option Value)}
    {a_ESCAPES : Addr} {n_ESCAPES : Nat} {hESCAPES0 : Int} {tESCAPES0 uESCAPES0 : Tok} {hESCAPES1 : Int} {tESCAPES1 uESCAPES1 : Tok} {hESCAPES2 : Int} {tESCAPES2 uESCAPES2 : Tok} {hESCAPES3 : Int} {tESCAPES3 uESCAPES3 : Tok}
    {a_CLOSING : Addr} {n_CLOSING : Nat} {hCLOSING0 : Int} {tCLOSING0 uCLOSING0 : Tok} {hCLOSING1 : Int} {tCLOSING1 uCLOSING1 : Tok} {hCLOSING2 : Int} {tCLOSING2 uCLOSING2 : Tok}
    {nm0x q0x : Str} {N0x : Addr} {bs0x bm0x : List Value} {sn0x : List Str} {sub0x : List Value} {ab0x : Bool} {col0x : Option Bool} {dd0x : Option Addr} {k00x k10x k20x k30x k50x : Option Value}
    {nm1x q1x : Str} {N1x : Addr} {bs1x bm1x : List Value} {sn1x : List Str} {sub1x : List Value} {ab1x : Bool} {col1x : Option Bool} {dd1x : Option Addr} {k01x k11x k21x k31x k51x : Option Value}
    {nm2x q2x : Str} {N2x : Addr} {bs2x bm2x : List Value} {sn2x : List Str} {sub2x : List Value} {ab2x : Bool} {col2x : Option Bool} {dd2x : Option Addr} {k02x k12x k22x k32x k52x : Option Value}
    {nm3x q3x : Str} {N3x : Addr} {bs3x bm3x : List Value} {sn3x : List Str} {sub3x : List Value} {ab3x : Bool} {col3x : Option Bool} {dd3x : Option Addr} {k03x k13x k23x k33x k53x : Option Value}
    {nm4x q4x : Str} {N4x : Addr} {bs4x bm4x : List Value} {sn4x : List Str} {sub4x : List Value} {ab4x : Bool} {col4x : Option Bool} {dd4x : Option Addr} {k04x k14x k24x k34x k54x : Option Value}
    {nm5x q5x : Str} {N5x : Addr} {bs5x bm5x : List Value} {sn5x : List Str} {sub5x : List Value} {ab5x : Bool} {col5x : Option Bool} {dd5x : Option Addr} {k05x k15x k25x k35x k55x : Option Value}
    {nm6x q6x : Str} {N6x : Addr} {bs6x bm6x : List Value} {sn6x : List Str} {sub6x : List Value} {ab6x : Bool} {col6x : Option Bool} {dd6x : Option Addr} {k06x k16x k26x k36x k56x : Option Value}
    {nm7x q7x : Str} {N7x : Addr} {bs7x bm7x : List Value} {sn7x : List Str} {sub7x : List Value} {ab7x : Bool} {col7x : Option Bool} {dd7x : Option Addr} {k07x k17x k27x k37x k57x : Option Value}
    {nmOx qOx : Str} {NOx : Addr} {bsOx bmOx : List Value} {snOx : List Str} {subOx : List Value} {abOx : Bool} {colOx : Option Bool} {ddOx : Option Addr} {k0Ox k1Ox k2Ox k3Ox k5Ox : Option Value}
    {nmCx qCx : Str} {NCx : Addr} {bsCx bmCx : List Value} {snCx : List Str} {subCx : List Value} {abCx : Bool} {colCx : Option Bool} {ddCx : Option Addr} {k0Cx k1Cx k2Cx k3Cx k5Cx : Option Value}
    {nmPx qPx : Str} {NPx : Addr} {bsPx bmPx : List Value} {snPx : List Str} {subPx : List Value} {abPx : Bool} {colPx : Option Bool} {ddPx : Option Addr} {k0Px k1Px k2Px k3Px k5Px : Option Value}
    {nmUx qUx : Str} {NUx : Addr} {bsUx bmUx : List Value} {snUx : List Str} {subUx : List Value} {abUx : Bool} {colUx : Option Bool} {ddUx : Option Addr} {k0Ux k1Ux k2Ux k3Ux k5Ux : Option Value}
    {nmVx qVx : Str} {NVx : Addr} {bsVx bmVx : List Value} {snVx : List Str} {subVx : List Value} {abVx : Bool} {colVx : Option Bool} {ddVx : Option Addr} {k0Vx k1Vx k2Vx k3Vx k5Vx : Option Value}
    {nmFx qFx : Str} {NFx : Addr} {bsFx bmFx : List Value} {snFx : List Str} {subFx : List Value} {abFx : Bool} {colFx : Option Bool} {ddFx : Option Addr} {k0Fx k1Fx k2Fx k3Fx k5Fx : Option Value}
    (a1_0 : PySem.W.findIn K (.ref C0) "__init__" = some (some (.ref f1)))
    (a1_1 : PySem.W.findIn K (.ref C1) "__init__" = some (some (.ref f1)))
    (a1_2 : PySem.W.findIn K (.ref C2) "__init__" = some (some (.ref f1)))
    (a1_3 : PySem.W.findIn K (.ref C3) "__init__" = some (some (.ref f1)))
    (a1_4 : PySem.W.findIn K (.ref C4) "__init__" = some (some (.ref f1)))
    (a1_5 : PySem.W.findIn K (.ref C5) "__init__" = some (some (.ref f1)))
    (a1_6 : PySem.W.findIn K (.ref C6) "__init__" = some (some (.ref f1)))
    (a1_7 : PySem.W.findIn K (.ref C7) "__init__" = some (some (.ref f1)))
    (i1 : PySem.W.typeIn K (.ref f1) = some (.type "function"))
    (l1 : K.lookup f1 = some ⟨oc1, od1, .func (PySem.W.fnOf "__init__" "SourceError.__init__" (defArgs s_SourceError___init__) (defBody s_SourceError___init__) (defScope s_SourceError___init__) .none kV1 dc1 pm1 an1 cd1 ct1), sl1⟩)
    (c1 : PySem.W.codeIn K cd1 "SourceError.__init__" = true)
    (k1 : PySem.W.keepIn K (.ref f1) = true)
    (a2 : PySem.W.findIn K (.ref KO) "__init__" = some (some (.ref f2)))
    (i2 : PySem.W.typeIn K (.ref f2) = some (.type "function"))
    (l2 : K.lookup f2 = some ⟨oc2, od2, .func (PySem.W.fnOf "__init__" "BadOption.__init__" (defArgs s_BadOption___init__) (defBody s_BadOption___init__) (defScope s_BadOption___init__) .none kV2 dc2 pm2 an2 cd2 ct2), sl2⟩)
    (c2 : PySem.W.codeIn K cd2 "BadOption.__init__" = true)
    (k2 : PySem.W.keepIn K (.ref f2) = true)
    (a3 : PySem.W.findIn K (.ref KC) "__init__" = some (some (.ref f3)))
    (i3 : PySem.W.typeIn K (.ref f3) = some (.type "function"))
    (l3 : K.lookup f3 = some ⟨oc3, od3, .func (PySem.W.fnOf "__init__" "BadCode.__init__" (defArgs s_BadCode___init__) (defBody s_BadCode___init__) (defScope s_BadCode___init__) .none kV3 dc3 pm3 an3 cd3 ct3), sl3⟩)
    (c3 : PySem.W.codeIn K cd3 "BadCode.__init__" = true)
    (k3 : PySem.W.keepIn K (.ref f3) = true)
    (a4 : PySem.W.findIn K (.ref KP) "__init__" = some (some (.ref f4)))
    (i4 : PySem.W.typeIn K (.ref f4) = some (.type "function"))
    (l4 : K.lookup f4 = some ⟨oc4, od4, .func (PySem.W.fnOf "__init__" "BadPaper.__init__" (defArgs s_BadPaper___init__) (defBody s_BadPaper___init__) (defScope s_BadPaper___init__) .none kV4 dc4 pm4 an4 cd4 ct4), sl4⟩)
    (c4 : PySem.W.codeIn K cd4 "BadPaper.__init__" = true)
    (k4 : PySem.W.keepIn K (.ref f4) = true)
    (a5 : PySem.W.findIn K (.ref KU) "__init__" = some (some (.ref f5)))
    (i5 : PySem.W.typeIn K (.ref f5) = some (.type "function"))
    (l5 : K.lookup f5 = some ⟨oc5, od5, .func (PySem.W.fnOf "__init__" "UnknownPass.__init__" (defArgs s_UnknownPass___init__) (defBody s_UnknownPass___init__) (defScope s_UnknownPass___init__) .none kV5 dc5 pm5 an5 cd5 ct5), sl5⟩)
    (c5 : PySem.W.codeIn K cd5 "UnknownPass.__init__" = true)
    (k5 : PySem.W.keepIn K (.ref f5) = true)
    (a6 : PySem.W.findIn K (.ref KV) "__init__" = some (some (.ref f6)))
    (i6 : PySem.W.typeIn K (.ref f6) = some (.type "function"))
    (l6 : K.lookup f6 = some ⟨oc6, od6, .func (PySem.W.fnOf "__init__" "BadLevel.__init__" (defArgs s_BadLevel___init__) (defBody s_BadLevel___init__) (defScope s_BadLevel___init__) .none kV6 dc6 pm6 an6 cd6 ct6), sl6⟩)
    (c6 : PySem.W.codeIn K cd6 "BadLevel.__init__" = true)
    (k6 : PySem.W.keepIn K (.ref f6) = true)
    (a7 : PySem.W.findIn K (.ref KF) "__init__" = some (some (.ref f7)))
    (i7 : PySem.W.typeIn K (.ref f7) = some (.type "function"))
    (l7 : K.lookup f7 = some ⟨oc7, od7, .func (PySem.W.fnOf "__init__" "Fault.__init__" (defArgs s_Fault___init__) (defBody s_Fault___init__) (defScope s_Fault___init__) .none kV7 dc7 pm7 an7 cd7 ct7), sl7⟩)
    (c7 : PySem.W.codeIn K cd7 "Fault.__init__" = true)
    (k7 : PySem.W.keepIn K (.ref f7) = true)
    (a8 : PySem.W.nsIn K mainGlobals "is_row" = some (some (.ref f8)))
    (l8 : K.lookup f8 = some ⟨oc8, od8, .func (PySem.W.fnOf "is_row" "is_row" (defArgs s_is_row) (defBody s_is_row) (defScope s_is_row) .none kV8 dc8 pm8 an8 cd8 ct8), sl8⟩)
    (c8 : PySem.W.codeIn K cd8 "is_row" = true)
    (k8 : PySem.W.keepIn K (.ref f8) = true)
    (a9 : PySem.W.nsIn K mainGlobals "is_letter" = some (some (.ref f9)))
    (l9 : K.lookup f9 = some ⟨oc9, od9, .func (PySem.W.fnOf "is_letter" "is_letter" (defArgs s_is_letter) (defBody s_is_letter) (defScope s_is_letter) .none kV9 dc9 pm9 an9 cd9 ct9), sl9⟩)
    (c9 : PySem.W.codeIn K cd9 "is_letter" = true)
    (k9 : PySem.W.keepIn K (.ref f9) = true)
    (a10 : PySem.W.nsIn K mainGlobals "is_digit" = some (some (.ref f10)))
    (l10 : K.lookup f10 = some ⟨oc10, od10, .func (PySem.W.fnOf "is_digit" "is_digit" (defArgs s_is_digit) (defBody s_is_digit) (defScope s_is_digit) .none kV10 dc10 pm10 an10 cd10 ct10), sl10⟩)
    (c10 : PySem.W.codeIn K cd10 "is_digit" = true)
    (k10 : PySem.W.keepIn K (.ref f10) = true)
    (a11 : PySem.W.nsIn K mainGlobals "digits_end" = some (some (.ref f11)))
    (l11 : K.lookup f11 = some ⟨oc11, od11, .func (PySem.W.fnOf "digits_end" "digits_end" (defArgs s_digits_end) (defBody s_digits_end) (defScope s_digits_end) .none kV11 dc11 pm11 an11 cd11 ct11), sl11⟩)
    (c11 : PySem.W.codeIn K cd11 "digits_end" = true)
    (k11 : PySem.W.keepIn K (.ref f11) = true)
    (a12 : PySem.W.nsIn K mainGlobals "name_end" = some (some (.ref f12)))
    (l12 : K.lookup f12 = some ⟨oc12, od12, .func (PySem.W.fnOf "name_end" "name_end" (defArgs s_name_end) (defBody s_name_end) (defScope s_name_end) .none kV12 dc12 pm12 an12 cd12 ct12), sl12⟩)
    (c12 : PySem.W.codeIn K cd12 "name_end" = true)
    (k12 : PySem.W.keepIn K (.ref f12) = true)
    (a13 : PySem.W.nsIn K mainGlobals "scan_token" = some (some (.ref f13)))
    (l13 : K.lookup f13 = some ⟨oc13, od13, .func (PySem.W.fnOf "scan_token" "scan_token" (defArgs s_scan_token) (defBody s_scan_token) (defScope s_scan_token) .none kV13 dc13 pm13 an13 cd13 ct13), sl13⟩)
    (c13 : PySem.W.codeIn K cd13 "scan_token" = true)
    (k13 : PySem.W.keepIn K (.ref f13) = true)
    (a14 : PySem.W.nsIn K mainGlobals "scan_name" = some (some (.ref f14)))
    (l14 : K.lookup f14 = some ⟨oc14, od14, .func (PySem.W.fnOf "scan_name" "scan_name" (defArgs s_scan_name) (defBody s_scan_name) (defScope s_scan_name) .none kV14 dc14 pm14 an14 cd14 ct14), sl14⟩)
    (c14 : PySem.W.codeIn K cd14 "scan_name" = true)
    (k14 : PySem.W.keepIn K (.ref f14) = true)
    (a15 : PySem.W.nsIn K mainGlobals "scan_number" = some (some (.ref f15)))
    (l15 : K.lookup f15 = some ⟨oc15, od15, .func (PySem.W.fnOf "scan_number" "scan_number" (defArgs s_scan_number) (defBody s_scan_number) (defScope s_scan_number) .none kV15 dc15 pm15 an15 cd15 ct15), sl15⟩)
    (c15 : PySem.W.codeIn K cd15 "scan_number" = true)
    (k15 : PySem.W.keepIn K (.ref f15) = true)
    (a16 : PySem.W.nsIn K mainGlobals "scan_text" = some (some (.ref f16)))
    (l16 : K.lookup f16 = some ⟨oc16, od16, .func (PySem.W.fnOf "scan_text" "scan_text" (defArgs s_scan_text) (defBody s_scan_text) (defScope s_scan_text) .none kV16 dc16 pm16 an16 cd16 ct16), sl16⟩)
    (c16 : PySem.W.codeIn K cd16 "scan_text" = true)
    (k16 : PySem.W.keepIn K (.ref f16) = true)
    (a17 : PySem.W.nsIn K mainGlobals "scan_sign" = some (some (.ref f17)))
    (l17 : K.lookup f17 = some ⟨oc17, od17, .func (PySem.W.fnOf "scan_sign" "scan_sign" (defArgs s_scan_sign) (defBody s_scan_sign) (defScope s_scan_sign) .none kV17 dc17 pm17 an17 cd17 ct17), sl17⟩)
    (c17 : PySem.W.codeIn K cd17 "scan_sign" = true)
    (k17 : PySem.W.keepIn K (.ref f17) = true)
    (a18 : PySem.W.findIn K (.ref CC) "__init__" = some (some (.ref f18)))
    (i18 : PySem.W.isFn K (.ref f18) = true)
    (l18 : K.lookup f18 = some ⟨oc18, od18, .func (PySem.W.fnOf "__init__" "Scanner.__init__" (defArgs s_Scanner___init__) (defBody s_Scanner___init__) (defScope s_Scanner___init__) .none kV18 dc18 pm18 an18 cd18 ct18), sl18⟩)
    (c18 : PySem.W.codeIn K cd18 "Scanner.__init__" = true)
    (k18 : PySem.W.keepIn K (.ref f18) = true)
    (a19 : PySem.W.findIn K (.ref CC) "scan_row" = some (some (.ref f19)))
    (i19 : PySem.W.isFn K (.ref f19) = true)
    (l19 : K.lookup f19 = some ⟨oc19, od19, .func (PySem.W.fnOf "scan_row" "Scanner.scan_row" (defArgs s_Scanner_scan_row) (defBody s_Scanner_scan_row) (defScope s_Scanner_scan_row) .none kV19 dc19 pm19 an19 cd19 ct19), sl19⟩)
    (c19 : PySem.W.codeIn K cd19 "Scanner.scan_row" = true)
    (k19 : PySem.W.keepIn K (.ref f19) = true)
    (a20 : PySem.W.findIn K (.ref CC) "begin_line" = some (some (.ref f20)))
    (i20 : PySem.W.isFn K (.ref f20) = true)
    (l20 : K.lookup f20 = some ⟨oc20, od20, .func (PySem.W.fnOf "begin_line" "Scanner.begin_line" (defArgs s_Scanner_begin_line) (defBody s_Scanner_begin_line) (defScope s_Scanner_begin_line) .none kV20 dc20 pm20 an20 cd20 ct20), sl20⟩)
    (c20 : PySem.W.codeIn K cd20 "Scanner.begin_line" = true)
    (k20 : PySem.W.keepIn K (.ref f20) = true)
    (a21 : PySem.W.findIn K (.ref CC) "gather" = some (some (.ref f21)))
    (i21 : PySem.W.isFn K (.ref f21) = true)
    (l21 : K.lookup f21 = some ⟨oc21, od21, .func (PySem.W.fnOf "gather" "Scanner.gather" (defArgs s_Scanner_gather) (defBody s_Scanner_gather) (defScope s_Scanner_gather) .none kV21 dc21 pm21 an21 cd21 ct21), sl21⟩)
    (c21 : PySem.W.codeIn K cd21 "Scanner.gather" = true)
    (k21 : PySem.W.keepIn K (.ref f21) = true)
    (a22 : PySem.W.findIn K (.ref CC) "match_bracket" = some (some (.ref f22)))
    (i22 : PySem.W.isFn K (.ref f22) = true)
    (l22 : K.lookup f22 = some ⟨oc22, od22, .func (PySem.W.fnOf "match_bracket" "Scanner.match_bracket" (defArgs s_Scanner_match_bracket) (defBody s_Scanner_match_bracket) (defScope s_Scanner_match_bracket) .none kV22 dc22 pm22 an22 cd22 ct22), sl22⟩)
    (c22 : PySem.W.codeIn K cd22 "Scanner.match_bracket" = true)
    (k22 : PySem.W.keepIn K (.ref f22) = true)
    (a23 : PySem.W.findIn K (.ref CC) "end_line" = some (some (.ref f23)))
    (i23 : PySem.W.isFn K (.ref f23) = true)
    (l23 : K.lookup f23 = some ⟨oc23, od23, .func (PySem.W.fnOf "end_line" "Scanner.end_line" (defArgs s_Scanner_end_line) (defBody s_Scanner_end_line) (defScope s_Scanner_end_line) .none kV23 dc23 pm23 an23 cd23 ct23), sl23⟩)
    (c23 : PySem.W.codeIn K cd23 "Scanner.end_line" = true)
    (k23 : PySem.W.keepIn K (.ref f23) = true)
    (a24 : PySem.W.findIn K (.ref CC) "end_text" = some (some (.ref f24)))
    (i24 : PySem.W.isFn K (.ref f24) = true)
    (l24 : K.lookup f24 = some ⟨oc24, od24, .func (PySem.W.fnOf "end_text" "Scanner.end_text" (defArgs s_Scanner_end_text) (defBody s_Scanner_end_text) (defScope s_Scanner_end_text) .none kV24 dc24 pm24 an24 cd24 ct24), sl24⟩)
    (c24 : PySem.W.codeIn K cd24 "Scanner.end_text" = true)
    (k24 : PySem.W.keepIn K (.ref f24) = true)
    (a25 : PySem.W.nsIn K mainGlobals "tokens" = some (some (.ref f25)))
    (l25 : K.lookup f25 = some ⟨oc25, od25, .func (PySem.W.fnOf "tokens" "tokens" (defArgs s_tokens) (defBody s_tokens) (defScope s_tokens) .none kV25 dc25 pm25 an25 cd25 ct25), sl25⟩)
    (c25 : PySem.W.codeIn K cd25 "tokens" = true)
    (k25 : PySem.W.keepIn K (.ref f25) = true)
    (a26 : PySem.W.nsIn K mainGlobals "checked_rows" = some (some (.ref f26)))
    (l26 : K.lookup f26 = some ⟨oc26, od26, .func (PySem.W.fnOf "checked_rows" "checked_rows" (defArgs s_checked_rows) (defBody s_checked_rows) (defScope s_checked_rows) .none kV26 dc26 pm26 an26 cd26 ct26), sl26⟩)
    (c26 : PySem.W.codeIn K cd26 "checked_rows" = true)
    (k26 : PySem.W.keepIn K (.ref f26) = true)
    (a27 : PySem.W.nsIn K mainGlobals "check_letters" = some (some (.ref f27)))
    (l27 : K.lookup f27 = some ⟨oc27, od27, .func (PySem.W.fnOf "check_letters" "check_letters" (defArgs s_check_letters) (defBody s_check_letters) (defScope s_check_letters) .none kV27 dc27 pm27 an27 cd27 ct27), sl27⟩)
    (c27 : PySem.W.codeIn K cd27 "check_letters" = true)
    (k27 : PySem.W.keepIn K (.ref f27) = true)
    (a28 : PySem.W.nsIn K mainGlobals "spaces_end" = some (some (.ref f28)))
    (l28 : K.lookup f28 = some ⟨oc28, od28, .func (PySem.W.fnOf "spaces_end" "spaces_end" (defArgs s_spaces_end) (defBody s_spaces_end) (defScope s_spaces_end) .none kV28 dc28 pm28 an28 cd28 ct28), sl28⟩)
    (c28 : PySem.W.codeIn K cd28 "spaces_end" = true)
    (k28 : PySem.W.keepIn K (.ref f28) = true)
    (a29 : PySem.W.nsIn K mainGlobals "_law_bag" = some (some (.ref f29)))
    (l29 : K.lookup f29 = some ⟨oc29, od29, .func (PySem.W.fnOf "_law_bag" "_law_bag" (defArgs s__law_bag) (defBody s__law_bag) (defScope s__law_bag) .none kV29 dc29 pm29 an29 cd29 ct29), sl29⟩)
    (c29 : PySem.W.codeIn K cd29 "_law_bag" = true)
    (k29 : PySem.W.keepIn K (.ref f29) = true)
    (a30 : PySem.W.nsIn K mainGlobals "_law_take" = some (some (.ref f30)))
    (l30 : K.lookup f30 = some ⟨oc30, od30, .func (PySem.W.fnOf "_law_take" "_law_take" (defArgs s__law_take) (defBody s__law_take) (defScope s__law_take) .none kV30 dc30 pm30 an30 cd30 ct30), sl30⟩)
    (c30 : PySem.W.codeIn K cd30 "_law_take" = true)
    (k30 : PySem.W.keepIn K (.ref f30) = true)
    (a31 : PySem.W.nsIn K mainGlobals "_law_whole" = some (some (.ref f31)))
    (l31 : K.lookup f31 = some ⟨oc31, od31, .func (PySem.W.fnOf "_law_whole" "_law_whole" (defArgs s__law_whole) (defBody s__law_whole) (defScope s__law_whole) .none kV31 dc31 pm31 an31 cd31 ct31), sl31⟩)
    (c31 : PySem.W.codeIn K cd31 "_law_whole" = true)
    (k31 : PySem.W.keepIn K (.ref f31) = true)
    (a32 : PySem.W.nsIn K mainGlobals "_law_signs" = some (some (.ref f32)))
    (l32 : K.lookup f32 = some ⟨oc32, od32, .func (PySem.W.fnOf "_law_signs" "_law_signs" (defArgs s__law_signs) (defBody s__law_signs) (defScope s__law_signs) .none kV32 dc32 pm32 an32 cd32 ct32), sl32⟩)
    (c32 : PySem.W.codeIn K cd32 "_law_signs" = true)
    (k32 : PySem.W.keepIn K (.ref f32) = true)
    (a33 : PySem.W.nsIn K mainGlobals "_law_keywords" = some (some (.ref f33)))
    (l33 : K.lookup f33 = some ⟨oc33, od33, .func (PySem.W.fnOf "_law_keywords" "_law_keywords" (defArgs s__law_keywords) (defBody s__law_keywords) (defScope s__law_keywords) .none kV33 dc33 pm33 an33 cd33 ct33), sl33⟩)
    (c33 : PySem.W.codeIn K cd33 "_law_keywords" = true)
    (k33 : PySem.W.keepIn K (.ref f33) = true)
    (a34 : PySem.W.nsIn K mainGlobals "_law_letters" = some (some (.ref f34)))
    (l34 : K.lookup f34 = some ⟨oc34, od34, .func (PySem.W.fnOf "_law_letters" "_law_letters" (defArgs s__law_letters) (defBody s__law_letters) (defScope s__law_letters) .none kV34 dc34 pm34 an34 cd34 ct34), sl34⟩)
    (c34 : PySem.W.codeIn K cd34 "_law_letters" = true)
    (k34 : PySem.W.keepIn K (.ref f34) = true)
    (a35 : PySem.W.nsIn K mainGlobals "_law_allowed" = some (some (.ref f35)))
    (l35 : K.lookup f35 = some ⟨oc35, od35, .func (PySem.W.fnOf "_law_allowed" "_law_allowed" (defArgs s__law_allowed) (defBody s__law_allowed) (defScope s__law_allowed) .none kV35 dc35 pm35 an35 cd35 ct35), sl35⟩)
    (c35 : PySem.W.codeIn K cd35 "_law_allowed" = true)
    (k35 : PySem.W.keepIn K (.ref f35) = true)
    (a36 : PySem.W.nsIn K mainGlobals "_law_spelled" = some (some (.ref f36)))
    (l36 : K.lookup f36 = some ⟨oc36, od36, .func (PySem.W.fnOf "_law_spelled" "_law_spelled" (defArgs s__law_spelled) (defBody s__law_spelled) (defScope s__law_spelled) .none kV36 dc36 pm36 an36 cd36 ct36), sl36⟩)
    (c36 : PySem.W.codeIn K cd36 "_law_spelled" = true)
    (k36 : PySem.W.keepIn K (.ref f36) = true)
    (a37 : PySem.W.nsIn K mainGlobals "_law_figures" = some (some (.ref f37)))
    (l37 : K.lookup f37 = some ⟨oc37, od37, .func (PySem.W.fnOf "_law_figures" "_law_figures" (defArgs s__law_figures) (defBody s__law_figures) (defScope s__law_figures) .none kV37 dc37 pm37 an37 cd37 ct37), sl37⟩)
    (c37 : PySem.W.codeIn K cd37 "_law_figures" = true)
    (k37 : PySem.W.keepIn K (.ref f37) = true)
    (a38 : PySem.W.nsIn K mainGlobals "_law_inner" = some (some (.ref f38)))
    (l38 : K.lookup f38 = some ⟨oc38, od38, .func (PySem.W.fnOf "_law_inner" "_law_inner" (defArgs s__law_inner) (defBody s__law_inner) (defScope s__law_inner) .none kV38 dc38 pm38 an38 cd38 ct38), sl38⟩)
    (c38 : PySem.W.codeIn K cd38 "_law_inner" = true)
    (k38 : PySem.W.keepIn K (.ref f38) = true)
    (a39 : PySem.W.nsIn K mainGlobals "_law_named" = some (some (.ref f39)))
    (l39 : K.lookup f39 = some ⟨oc39, od39, .func (PySem.W.fnOf "_law_named" "_law_named" (defArgs s__law_named) (defBody s__law_named) (defScope s__law_named) .none kV39 dc39 pm39 an39 cd39 ct39), sl39⟩)
    (c39 : PySem.W.codeIn K cd39 "_law_named" = true)
    (k39 : PySem.W.keepIn K (.ref f39) = true)
    (a40 : PySem.W.nsIn K mainGlobals "_law_good" = some (some (.ref f40)))
    (l40 : K.lookup f40 = some ⟨oc40, od40, .func (PySem.W.fnOf "_law_good" "_law_good" (defArgs s__law_good) (defBody s__law_good) (defScope s__law_good) .none kV40 dc40 pm40 an40 cd40 ct40), sl40⟩)
    (c40 : PySem.W.codeIn K cd40 "_law_good" = true)
    (k40 : PySem.W.keepIn K (.ref f40) = true)
    (a41 : PySem.W.nsIn K mainGlobals "_law_odd_figures" = some (some (.ref f41)))
    (l41 : K.lookup f41 = some ⟨oc41, od41, .func (PySem.W.fnOf "_law_odd_figures" "_law_odd_figures" (defArgs s__law_odd_figures) (defBody s__law_odd_figures) (defScope s__law_odd_figures) .none kV41 dc41 pm41 an41 cd41 ct41), sl41⟩)
    (c41 : PySem.W.codeIn K cd41 "_law_odd_figures" = true)
    (k41 : PySem.W.keepIn K (.ref f41) = true)
    (a42 : PySem.W.nsIn K mainGlobals "_law_odd_text" = some (some (.ref f42)))
    (l42 : K.lookup f42 = some ⟨oc42, od42, .func (PySem.W.fnOf "_law_odd_text" "_law_odd_text" (defArgs s__law_odd_text) (defBody s__law_odd_text) (defScope s__law_odd_text) .none kV42 dc42 pm42 an42 cd42 ct42), sl42⟩)
    (c42 : PySem.W.codeIn K cd42 "_law_odd_text" = true)
    (k42 : PySem.W.keepIn K (.ref f42) = true)
    (a43 : PySem.W.nsIn K mainGlobals "_law_odd" = some (some (.ref f43)))
    (l43 : K.lookup f43 = some ⟨oc43, od43, .func (PySem.W.fnOf "_law_odd" "_law_odd" (defArgs s__law_odd) (defBody s__law_odd) (defScope s__law_odd) .none kV43 dc43 pm43 an43 cd43 ct43), sl43⟩)
    (c43 : PySem.W.codeIn K cd43 "_law_odd" = true)
    (k43 : PySem.W.keepIn K (.ref f43) = true)
    (a44 : PySem.W.nsIn K mainGlobals "_law_item" = some (some (.ref f44)))
    (l44 : K.lookup f44 = some ⟨oc44, od44, .func (PySem.W.fnOf "_law_item" "_law_item" (defArgs s__law_item) (defBody s__law_item) (defScope s__law_item) .none kV44 dc44 pm44 an44 cd44 ct44), sl44⟩)
    (c44 : PySem.W.codeIn K cd44 "_law_item" = true)
    (k44 : PySem.W.keepIn K (.ref f44) = true)
    (a45 : PySem.W.nsIn K mainGlobals "_law_add_item" = some (some (.ref f45)))
    (l45 : K.lookup f45 = some ⟨oc45, od45, .func (PySem.W.fnOf "_law_add_item" "_law_add_item" (defArgs s__law_add_item) (defBody s__law_add_item) (defScope s__law_add_item) .none kV45 dc45 pm45 an45 cd45 ct45), sl45⟩)
    (c45 : PySem.W.codeIn K cd45 "_law_add_item" = true)
    (k45 : PySem.W.keepIn K (.ref f45) = true)
    (a46 : PySem.W.nsIn K mainGlobals "_law_row" = some (some (.ref f46)))
    (l46 : K.lookup f46 = some ⟨oc46, od46, .func (PySem.W.fnOf "_law_row" "_law_row" (defArgs s__law_row) (defBody s__law_row) (defScope s__law_row) .none kV46 dc46 pm46 an46 cd46 ct46), sl46⟩)
    (c46 : PySem.W.codeIn K cd46 "_law_row" = true)
    (k46 : PySem.W.keepIn K (.ref f46) = true)
    (a47 : PySem.W.nsIn K mainGlobals "_law_width" = some (some (.ref f47)))
    (l47 : K.lookup f47 = some ⟨oc47, od47, .func (PySem.W.fnOf "_law_width" "_law_width" (defArgs s__law_width) (defBody s__law_width) (defScope s__law_width) .none kV47 dc47 pm47 an47 cd47 ct47), sl47⟩)
    (c47 : PySem.W.codeIn K cd47 "_law_width" = true)
    (k47 : PySem.W.keepIn K (.ref f47) = true)
    (a48 : PySem.W.nsIn K mainGlobals "_law_crowd" = some (some (.ref f48)))
    (l48 : K.lookup f48 = some ⟨oc48, od48, .func (PySem.W.fnOf "_law_crowd" "_law_crowd" (defArgs s__law_crowd) (defBody s__law_crowd) (defScope s__law_crowd) .none kV48 dc48 pm48 an48 cd48 ct48), sl48⟩)
    (c48 : PySem.W.codeIn K cd48 "_law_crowd" = true)
    (k48 : PySem.W.keepIn K (.ref f48) = true)
    (a49 : PySem.W.nsIn K mainGlobals "_law_stretched" = some (some (.ref f49)))
    (l49 : K.lookup f49 = some ⟨oc49, od49, .func (PySem.W.fnOf "_law_stretched" "_law_stretched" (defArgs s__law_stretched) (defBody s__law_stretched) (defScope s__law_stretched) .none kV49 dc49 pm49 an49 cd49 ct49), sl49⟩)
    (c49 : PySem.W.codeIn K cd49 "_law_stretched" = true)
    (k49 : PySem.W.keepIn K (.ref f49) = true)
    (a50 : PySem.W.nsIn K mainGlobals "_law_filled" = some (some (.ref f50)))
    (l50 : K.lookup f50 = some ⟨oc50, od50, .func (PySem.W.fnOf "_law_filled" "_law_filled" (defArgs s__law_filled) (defBody s__law_filled) (defScope s__law_filled) .none kV50 dc50 pm50 an50 cd50 ct50), sl50⟩)
    (c50 : PySem.W.codeIn K cd50 "_law_filled" = true)
    (k50 : PySem.W.keepIn K (.ref f50) = true)
    (a51 : PySem.W.nsIn K mainGlobals "_law_page" = some (some (.ref f51)))
    (l51 : K.lookup f51 = some ⟨oc51, od51, .func (PySem.W.fnOf "_law_page" "_law_page" (defArgs s__law_page) (defBody s__law_page) (defScope s__law_page) .none kV51 dc51 pm51 an51 cd51 ct51), sl51⟩)
    (c51 : PySem.W.codeIn K cd51 "_law_page" = true)
    (k51 : PySem.W.keepIn K (.ref f51) = true)
    (a52 : PySem.W.nsIn K mainGlobals "_law_block_fault" = some (some (.ref f52)))
    (l52 : K.lookup f52 = some ⟨oc52, od52, .func (PySem.W.fnOf "_law_block_fault" "_law_block_fault" (defArgs s__law_block_fault) (defBody s__law_block_fault) (defScope s__law_block_fault) .none kV52 dc52 pm52 an52 cd52 ct52), sl52⟩)
    (c52 : PySem.W.codeIn K cd52 "_law_block_fault" = true)
    (k52 : PySem.W.keepIn K (.ref f52) = true)
    (a53 : PySem.W.nsIn K mainGlobals "_law_first_fault" = some (some (.ref f53)))
    (l53 : K.lookup f53 = some ⟨oc53, od53, .func (PySem.W.fnOf "_law_first_fault" "_law_first_fault" (defArgs s__law_first_fault) (defBody s__law_first_fault) (defScope s__law_first_fault) .none kV53 dc53 pm53 an53 cd53 ct53), sl53⟩)
    (c53 : PySem.W.codeIn K cd53 "_law_first_fault" = true)
    (k53 : PySem.W.keepIn K (.ref f53) = true)
    (a54 : PySem.W.nsIn K mainGlobals "_law_logical_lines" = some (some (.ref f54)))
    (l54 : K.lookup f54 = some ⟨oc54, od54, .func (PySem.W.fnOf "_law_logical_lines" "_law_logical_lines" (defArgs s__law_logical_lines) (defBody s__law_logical_lines) (defScope s__law_logical_lines) .none kV54 dc54 pm54 an54 cd54 ct54), sl54⟩)
    (c54 : PySem.W.codeIn K cd54 "_law_logical_lines" = true)
    (k54 : PySem.W.keepIn K (.ref f54) = true)
    (a55 : PySem.W.nsIn K mainGlobals "_law_is_tokens" = some (some (.ref f55)))
    (l55 : K.lookup f55 = some ⟨oc55, od55, .func (PySem.W.fnOf "_law_is_tokens" "_law_is_tokens" (defArgs s__law_is_tokens) (defBody s__law_is_tokens) (defScope s__law_is_tokens) .none kV55 dc55 pm55 an55 cd55 ct55), sl55⟩)
    (c55 : PySem.W.codeIn K cd55 "_law_is_tokens" = true)
    (k55 : PySem.W.keepIn K (.ref f55) = true)
    (a56 : PySem.W.nsIn K mainGlobals "_law_is_good" = some (some (.ref f56)))
    (l56 : K.lookup f56 = some ⟨oc56, od56, .func (PySem.W.fnOf "_law_is_good" "_law_is_good" (defArgs s__law_is_good) (defBody s__law_is_good) (defScope s__law_is_good) .none kV56 dc56 pm56 an56 cd56 ct56), sl56⟩)
    (c56 : PySem.W.codeIn K cd56 "_law_is_good" = true)
    (k56 : PySem.W.keepIn K (.ref f56) = true)
    (a57 : PySem.W.nsIn K mainGlobals "_law_classes" = some (some (.ref f57)))
    (l57 : K.lookup f57 = some ⟨oc57, od57, .func (PySem.W.fnOf "_law_classes" "_law_classes" (defArgs s__law_classes) (defBody s__law_classes) (defScope s__law_classes) .none kV57 dc57 pm57 an57 cd57 ct57), sl57⟩)
    (c57 : PySem.W.codeIn K cd57 "_law_classes" = true)
    (k57 : PySem.W.keepIn K (.ref f57) = true)
    (a58 : PySem.W.nsIn K mainGlobals "_law_is_source_error" = some (some (.ref f58)))
    (l58 : K.lookup f58 = some ⟨oc58, od58, .func (PySem.W.fnOf "_law_is_source_error" "_law_is_source_error" (defArgs s__law_is_source_error) (defBody s__law_is_source_error) (defScope s__law_is_source_error) .none kV58 dc58 pm58 an58 cd58 ct58), sl58⟩)
    (c58 : PySem.W.codeIn K cd58 "_law_is_source_error" = true)
    (k58 : PySem.W.keepIn K (.ref f58) = true)
    (a59 : PySem.W.nsIn K mainGlobals "_law_is_raised" = some (some (.ref f59)))
    (l59 : K.lookup f59 = some ⟨oc59, od59, .func (PySem.W.fnOf "_law_is_raised" "_law_is_raised" (defArgs s__law_is_raised) (defBody s__law_is_raised) (defScope s__law_is_raised) .none kV59 dc59 pm59 an59 cd59 ct59), sl59⟩)
    (c59 : PySem.W.codeIn K cd59 "_law_is_raised" = true)
    (k59 : PySem.W.keepIn K (.ref f59) = true)
    (a60 : PySem.W.nsIn K mainGlobals "_law_are_made" = some (some (.ref f60)))
    (l60 : K.lookup f60 = some ⟨oc60, od60, .func (PySem.W.fnOf "_law_are_made" "_law_are_made" (defArgs s__law_are_made) (defBody s__law_are_made) (defScope s__law_are_made) .none kV60 dc60 pm60 an60 cd60 ct60), sl60⟩)
    (c60 : PySem.W.codeIn K cd60 "_law_are_made" = true)
    (k60 : PySem.W.keepIn K (.ref f60) = true)
    (a61 : PySem.W.nsIn K mainGlobals "_law_is_below" = some (some (.ref f61)))
    (l61 : K.lookup f61 = some ⟨oc61, od61, .func (PySem.W.fnOf "_law_is_below" "_law_is_below" (defArgs s__law_is_below) (defBody s__law_is_below) (defScope s__law_is_below) .none kV61 dc61 pm61 an61 cd61 ct61), sl61⟩)
    (c61 : PySem.W.codeIn K cd61 "_law_is_below" = true)
    (k61 : PySem.W.keepIn K (.ref f61) = true)
    (a62 : PySem.W.nsIn K mainGlobals "_law_others_are_made" = some (some (.ref f62)))
    (l62 : K.lookup f62 = some ⟨oc62, od62, .func (PySem.W.fnOf "_law_others_are_made" "_law_others_are_made" (defArgs s__law_others_are_made) (defBody s__law_others_are_made) (defScope s__law_others_are_made) .none kV62 dc62 pm62 an62 cd62 ct62), sl62⟩)
    (c62 : PySem.W.codeIn K cd62 "_law_others_are_made" = true)
    (k62 : PySem.W.keepIn K (.ref f62) = true)
    (a63 : PySem.W.nsIn K mainGlobals "_law_is_right" = some (some (.ref f63)))
    (l63 : K.lookup f63 = some ⟨oc63, od63, .func (PySem.W.fnOf "_law_is_right" "_law_is_right" (defArgs s__law_is_right) (defBody s__law_is_right) (defScope s__law_is_right) .none kV63 dc63 pm63 an63 cd63 ct63), sl63⟩)
    (c63 : PySem.W.codeIn K cd63 "_law_is_right" = true)
    (k63 : PySem.W.keepIn K (.ref f63) = true)
    (a64 : PySem.W.nsIn K mainGlobals "law" = some (some (.ref f64)))
    (l64 : K.lookup f64 = some ⟨oc64, od64, .func (PySem.W.fnOf "law" "law" (defArgs s_law) (defBody s_law) (defScope s_law) .none kV64 dc64 pm64 an64 cd64 ct64), sl64⟩)
    (c64 : PySem.W.codeIn K cd64 "law" = true)
    (k64 : PySem.W.keepIn K (.ref f64) = true)
    (z_ValueError : PySem.W.nsIn K mainGlobals "ValueError" = some none)
    (z_bool : PySem.W.nsIn K mainGlobals "bool" = some none)
    (z_enumerate : PySem.W.nsIn K mainGlobals "enumerate" = some none)
    (z_int : PySem.W.nsIn K mainGlobals "int" = some none)
    (z_isinstance : PySem.W.nsIn K mainGlobals "isinstance" = some none)
    (z_len : PySem.W.nsIn K mainGlobals "len" = some none)
    (z_list : PySem.W.nsIn K mainGlobals "list" = some none)
    (z_max : PySem.W.nsIn K mainGlobals "max" = some none)
    (z_min : PySem.W.nsIn K mainGlobals "min" = some none)
    (z_ord : PySem.W.nsIn K mainGlobals "ord" = some none)
    (z_range : PySem.W.nsIn K mainGlobals "range" = some none)
    (z_reversed : PySem.W.nsIn K mainGlobals "reversed" = some none)
    (z_str : PySem.W.nsIn K mainGlobals "str" = some none)
    (z_sum : PySem.W.nsIn K mainGlobals "sum" = some none)
    (z_tuple : PySem.W.nsIn K mainGlobals "tuple" = some none)
    (q_PERCENT : PySem.W.nsIn K mainGlobals "PERCENT" = some (some (.int 37 t_PERCENT)))
    (q_NAME_LIMIT : PySem.W.nsIn K mainGlobals "NAME_LIMIT" = some (some (.int 30 t_NAME_LIMIT)))
    (q_NUMBER_LIMIT : PySem.W.nsIn K mainGlobals "NUMBER_LIMIT" = some (some (.int 40 t_NUMBER_LIMIT)))
    (q_TEXT_LIMIT : PySem.W.nsIn K mainGlobals "TEXT_LIMIT" = some (some (.int 6000 t_TEXT_LIMIT)))
    (q_ROW_LIMIT : PySem.W.nsIn K mainGlobals "ROW_LIMIT" = some (some (.int 120 t_ROW_LIMIT)))
    (q_TOKEN_LIMIT : PySem.W.nsIn K mainGlobals "TOKEN_LIMIT" = some (some (.int 120 t_TOKEN_LIMIT)))
    (q_INDENT_LIMIT : PySem.W.nsIn K mainGlobals "INDENT_LIMIT" = some (some (.int 11 t_INDENT_LIMIT)))
    (q_KEYWORDS : PySem.W.nsIn K mainGlobals "KEYWORDS" = some (some (.ref a_KEYWORDS)))
    (l_KEYWORDS : K.lookup a_KEYWORDS = some ⟨.type "tuple", od_KEYWORDS, .seq its_KEYWORDS n_KEYWORDS, sl_KEYWORDS⟩)
    (v_KEYWORDS : its_KEYWORDS.toList.map absV = KW.map (fun l => some (V.str (S l))))
    (w_KEYWORDS : its_KEYWORDS.size ≤ 1000)
    (q_SIGNS : PySem.W.nsIn K mainGlobals "SIGNS" = some (some (.ref a_SIGNS)))
    (l_SIGNS : K.lookup a_SIGNS = some ⟨.type "tuple", od_SIGNS, .seq its_SIGNS n_SIGNS, sl_SIGNS⟩)
    (v_SIGNS : its_SIGNS.toList.map absV = SG.map (fun l => some (V.str (S l))))
    (w_SIGNS : its_SIGNS.size ≤ 1000)
    (q_OPENING : PySem.W.nsIn K mainGlobals "OPENING" = some (some (.ref a_OPENING)))
    (l_OPENING : K.lookup a_OPENING = some ⟨.type "tuple", od_OPENING, .seq its_OPENING n_OPENING, sl_OPENING⟩)
    (v_OPENING : its_OPENING.toList.map absV = OPN.map (fun l => some (V.str (S l))))
    (w_OPENING : its_OPENING.size ≤ 1000)
    (q_ESCAPES : PySem.W.nsIn K mainGlobals "ESCAPES" = some (some (.ref a_ESCAPES)))
    (l_ESCAPES : K.lookup a_ESCAPES = some ⟨.type "dict", none, .dict #[⟨hESCAPES0, .str (Str.ofString "n") tESCAPES0, .str (Str.ofString "\n") uESCAPES0⟩, ⟨hESCAPES1, .str (Str.ofString "\\") tESCAPES1, .str (Str.ofString "\\") uESCAPES1⟩, ⟨hESCAPES2, .str (Str.ofString "'") tESCAPES2, .str (Str.ofString "'") uESCAPES2⟩, ⟨hESCAPES3, .str (Str.ofString "\"") tESCAPES3, .str (Str.ofString "\"") uESCAPES3⟩] n_ESCAPES, #[]⟩)
    (w_ESCAPES : (a_ESCAPES == sysModules) = false)
    (eESCAPES0 : hESCAPES0 = PyData.keyHash w.params (Str.ofString "n"))
    (eESCAPES1 : hESCAPES1 = PyData.keyHash w.params (Str.ofString "\\"))
    (eESCAPES2 : hESCAPES2 = PyData.keyHash w.params (Str.ofString "'"))
    (eESCAPES3 : hESCAPES3 = PyData.keyHash w.params (Str.ofString "\""))
    (q_CLOSING : PySem.W.nsIn K mainGlobals "CLOSING" = some (some (.ref a_CLOSING)))
    (l_CLOSING : K.lookup a_CLOSING = some ⟨.type "dict", none, .dict #[⟨hCLOSING0, .str (Str.ofString ")") tCLOSING0, .str (Str.ofString "(") uCLOSING0⟩, ⟨hCLOSING1, .str (Str.ofString "]") tCLOSING1, .str (Str.ofString "[") uCLOSING1⟩, ⟨hCLOSING2, .str (Str.ofString "}") tCLOSING2, .str (Str.ofString "{") uCLOSING2⟩] n_CLOSING, #[]⟩)
    (w_CLOSING : (a_CLOSING == sysModules) = false)
    (eCLOSING0 : hCLOSING0 = PyData.keyHash w.params (Str.ofString ")"))
    (eCLOSING1 : hCLOSING1 = PyData.keyHash w.params (Str.ofString "]"))
    (eCLOSING2 : hCLOSING2 = PyData.keyHash w.params (Str.ofString "}"))
    (gS : PySem.W.nsIn K mainGlobals "Scanner" = some (some (.ref CC)))
    (pgS : PySem.W.plainGet K CC Str.empty = true)
    (hdS : PySem.W.hasDictIn K CC = true)
    (poS : PySem.W.plainOver K CC = true)
    (saS : PySem.W.findIn K (.ref CC) "__setattr__" = some (some (.builtin "object.__setattr__")))
    (mkS : PySem.W.makesIn K CC = true)
    (kcS : PySem.W.keepIn K (.ref CC) = true)
    (n_marks : PySem.W.findIn K (.ref CC) "marks" = some none)
    (n_brackets : PySem.W.findIn K (.ref CC) "brackets" = some none)
    (n_indents : PySem.W.findIn K (.ref CC) "indents" = some none)
    (n_many : PySem.W.findIn K (.ref CC) "many" = some none)
    (n_behind : PySem.W.findIn K (.ref CC) "behind" = some none)
    (g_0 : PySem.W.nsIn K mainGlobals "SourceError" = some (some (.ref C0)))
    (o_0 : K.lookup C0 = some (excClassObj nm0x q0x C0 N0x bs0x bm0x true sn0x sub0x ab0x col0x dd0x k00x k10x k20x k30x k50x "ValueError.__new__"))
    (x_0 : PySem.W.excTail tlV bm0x = true)
    (sa_0 : PySem.W.findIn K (.ref C0) "__setattr__" = some (some (.builtin "object.__setattr__")))
    (xb_0 : PySem.W.subIn K (.ref C0) (.type "BaseException") = some true)
    (ty_0 : PySem.W.typeIn K (.ref C0) = some (.type "type"))
    (kc_0 : PySem.W.keepIn K (.ref C0) = true)
    (cl_0 : PySem.W.isClsIn K C0 = true)
    (hg_0 : PySem.W.findIn K (.ref C0) "__getattribute__" = some (some (.builtin "BaseException.__getattribute__")))
    (hk_0 : PySem.W.findIn K (.ref C0) "__getattr__" = some none)
    (hd_0 : PySem.W.hasDictIn K C0 = true)
    (ha_0 : PySem.W.findIn K (.ref C0) "__class__" = some (some (.builtin "object.__class__")))
    (hm_0 : PySem.W.mroIn K C0 (.type "object") = some true)
    (sv_0 : PySem.W.subIn K (.ref C0) (.type "ValueError") = some true)
    (nl_0 : PySem.W.findIn K (.ref C0) "line" = some none)
    (nc_0 : PySem.W.findIn K (.ref C0) "column" = some none)
    (g_1 : PySem.W.nsIn K mainGlobals "BadSign" = some (some (.ref C1)))
    (o_1 : K.lookup C1 = some (excClassObj nm1x q1x C1 N1x bs1x bm1x true sn1x sub1x ab1x col1x dd1x k01x k11x k21x k31x k51x "ValueError.__new__"))
    (r_1 : PySem.HandSPX.refsVE bm1x = true)
    (x_1 : PySem.W.excTail tlV bm1x = true)
    (sa_1 : PySem.W.findIn K (.ref C1) "__setattr__" = some (some (.builtin "object.__setattr__")))
    (xb_1 : PySem.W.subIn K (.ref C1) (.type "BaseException") = some true)
    (ty_1 : PySem.W.typeIn K (.ref C1) = some (.type "type"))
    (kc_1 : PySem.W.keepIn K (.ref C1) = true)
    (cl_1 : PySem.W.isClsIn K C1 = true)
    (hg_1 : PySem.W.findIn K (.ref C1) "__getattribute__" = some (some (.builtin "BaseException.__getattribute__")))
    (hk_1 : PySem.W.findIn K (.ref C1) "__getattr__" = some none)
    (hd_1 : PySem.W.hasDictIn K C1 = true)
    (ha_1 : PySem.W.findIn K (.ref C1) "__class__" = some (some (.builtin "object.__class__")))
    (hm_1 : PySem.W.mroIn K C1 (.type "object") = some true)
    (sv_1 : PySem.W.subIn K (.ref C1) (.type "ValueError") = some true)
    (nl_1 : PySem.W.findIn K (.ref C1) "line" = some none)
    (nc_1 : PySem.W.findIn K (.ref C1) "column" = some none)
    (g_2 : PySem.W.nsIn K mainGlobals "BadToken" = some (some (.ref C2)))
    (o_2 : K.lookup C2 = some (excClassObj nm2x q2x C2 N2x bs2x bm2x true sn2x sub2x ab2x col2x dd2x k02x k12x k22x k32x k52x "ValueError.__new__"))
    (r_2 : PySem.HandSPX.refsVE bm2x = true)
    (x_2 : PySem.W.excTail tlV bm2x = true)
    (sa_2 : PySem.W.findIn K (.ref C2) "__setattr__" = some (some (.builtin "object.__setattr__")))
    (xb_2 : PySem.W.subIn K (.ref C2) (.type "BaseException") = some true)
    (ty_2 : PySem.W.typeIn K (.ref C2) = some (.type "type"))
    (kc_2 : PySem.W.keepIn K (.ref C2) = true)
    (cl_2 : PySem.W.isClsIn K C2 = true)
    (hg_2 : PySem.W.findIn K (.ref C2) "__getattribute__" = some (some (.builtin "BaseException.__getattribute__")))
    (hk_2 : PySem.W.findIn K (.ref C2) "__getattr__" = some none)
    (hd_2 : PySem.W.hasDictIn K C2 = true)
    (ha_2 : PySem.W.findIn K (.ref C2) "__class__" = some (some (.builtin "object.__class__")))
    (hm_2 : PySem.W.mroIn K C2 (.type "object") = some true)
    (sv_2 : PySem.W.subIn K (.ref C2) (.type "ValueError") = some true)
    (nl_2 : PySem.W.findIn K (.ref C2) "line" = some none)
    (nc_2 : PySem.W.findIn K (.ref C2) "column" = some none)
    (g_3 : PySem.W.nsIn K mainGlobals "BadIndent" = some (some (.ref C3)))
    (o_3 : K.lookup C3 = some (excClassObj nm3x q3x C3 N3x bs3x bm3x true sn3x sub3x ab3x col3x dd3x k03x k13x k23x k33x k53x "ValueError.__new__"))
    (r_3 : PySem.HandSPX.refsVE bm3x = true)
    (x_3 : PySem.W.excTail tlV bm3x = true)
    (sa_3 : PySem.W.findIn K (.ref C3) "__setattr__" = some (some (.builtin "object.__setattr__")))
    (xb_3 : PySem.W.subIn K (.ref C3) (.type "BaseException") = some true)
    (ty_3 : PySem.W.typeIn K (.ref C3) = some (.type "type"))
    (kc_3 : PySem.W.keepIn K (.ref C3) = true)
    (cl_3 : PySem.W.isClsIn K C3 = true)
    (hg_3 : PySem.W.findIn K (.ref C3) "__getattribute__" = some (some (.builtin "BaseException.__getattribute__")))
    (hk_3 : PySem.W.findIn K (.ref C3) "__getattr__" = some none)
    (hd_3 : PySem.W.hasDictIn K C3 = true)
    (ha_3 : PySem.W.findIn K (.ref C3) "__class__" = some (some (.builtin "object.__class__")))
    (hm_3 : PySem.W.mroIn K C3 (.type "object") = some true)
    (sv_3 : PySem.W.subIn K (.ref C3) (.type "ValueError") = some true)
    (nl_3 : PySem.W.findIn K (.ref C3) "line" = some none)
    (nc_3 : PySem.W.findIn K (.ref C3) "column" = some none)
    (g_4 : PySem.W.nsIn K mainGlobals "TooLong" = some (some (.ref C4)))
    (o_4 : K.lookup C4 = some (excClassObj nm4x q4x C4 N4x bs4x bm4x true sn4x sub4x ab4x col4x dd4x k04x k14x k24x k34x k54x "ValueError.__new__"))
    (r_4 : PySem.HandSPX.refsVE bm4x = true)
    (x_4 : PySem.W.excTail tlV bm4x = true)
    (sa_4 : PySem.W.findIn K (.ref C4) "__setattr__" = some (some (.builtin "object.__setattr__")))
    (xb_4 : PySem.W.subIn K (.ref C4) (.type "BaseException") = some true)
    (ty_4 : PySem.W.typeIn K (.ref C4) = some (.type "type"))
    (kc_4 : PySem.W.keepIn K (.ref C4) = true)
    (cl_4 : PySem.W.isClsIn K C4 = true)
    (hg_4 : PySem.W.findIn K (.ref C4) "__getattribute__" = some (some (.builtin "BaseException.__getattribute__")))
    (hk_4 : PySem.W.findIn K (.ref C4) "__getattr__" = some none)
    (hd_4 : PySem.W.hasDictIn K C4 = true)
    (ha_4 : PySem.W.findIn K (.ref C4) "__class__" = some (some (.builtin "object.__class__")))
    (hm_4 : PySem.W.mroIn K C4 (.type "object") = some true)
    (sv_4 : PySem.W.subIn K (.ref C4) (.type "ValueError") = some true)
    (nl_4 : PySem.W.findIn K (.ref C4) "line" = some none)
    (nc_4 : PySem.W.findIn K (.ref C4) "column" = some none)
    (g_5 : PySem.W.nsIn K mainGlobals "TooDeep" = some (some (.ref C5)))
    (o_5 : K.lookup C5 = some (excClassObj nm5x q5x C5 N5x bs5x bm5x true sn5x sub5x ab5x col5x dd5x k05x k15x k25x k35x k55x "ValueError.__new__"))
    (r_5 : PySem.HandSPX.refsVE bm5x = true)
    (x_5 : PySem.W.excTail tlV bm5x = true)
    (sa_5 : PySem.W.findIn K (.ref C5) "__setattr__" = some (some (.builtin "object.__setattr__")))
    (xb_5 : PySem.W.subIn K (.ref C5) (.type "BaseException") = some true)
    (ty_5 : PySem.W.typeIn K (.ref C5) = some (.type "type"))
    (kc_5 : PySem.W.keepIn K (.ref C5) = true)
    (cl_5 : PySem.W.isClsIn K C5 = true)
    (hg_5 : PySem.W.findIn K (.ref C5) "__getattribute__" = some (some (.builtin "BaseException.__getattribute__")))
    (hk_5 : PySem.W.findIn K (.ref C5) "__getattr__" = some none)
    (hd_5 : PySem.W.hasDictIn K C5 = true)
    (ha_5 : PySem.W.findIn K (.ref C5) "__class__" = some (some (.builtin "object.__class__")))
    (hm_5 : PySem.W.mroIn K C5 (.type "object") = some true)
    (sv_5 : PySem.W.subIn K (.ref C5) (.type "ValueError") = some true)
    (nl_5 : PySem.W.findIn K (.ref C5) "line" = some none)
    (nc_5 : PySem.W.findIn K (.ref C5) "column" = some none)
    (g_6 : PySem.W.nsIn K mainGlobals "BadSyntax" = some (some (.ref C6)))
    (o_6 : K.lookup C6 = some (excClassObj nm6x q6x C6 N6x bs6x bm6x true sn6x sub6x ab6x col6x dd6x k06x k16x k26x k36x k56x "ValueError.__new__"))
    (x_6 : PySem.W.excTail tlV bm6x = true)
    (sa_6 : PySem.W.findIn K (.ref C6) "__setattr__" = some (some (.builtin "object.__setattr__")))
    (xb_6 : PySem.W.subIn K (.ref C6) (.type "BaseException") = some true)
    (ty_6 : PySem.W.typeIn K (.ref C6) = some (.type "type"))
    (kc_6 : PySem.W.keepIn K (.ref C6) = true)
    (cl_6 : PySem.W.isClsIn K C6 = true)
    (hg_6 : PySem.W.findIn K (.ref C6) "__getattribute__" = some (some (.builtin "BaseException.__getattribute__")))
    (hk_6 : PySem.W.findIn K (.ref C6) "__getattr__" = some none)
    (hd_6 : PySem.W.hasDictIn K C6 = true)
    (ha_6 : PySem.W.findIn K (.ref C6) "__class__" = some (some (.builtin "object.__class__")))
    (hm_6 : PySem.W.mroIn K C6 (.type "object") = some true)
    (sv_6 : PySem.W.subIn K (.ref C6) (.type "ValueError") = some true)
    (nl_6 : PySem.W.findIn K (.ref C6) "line" = some none)
    (nc_6 : PySem.W.findIn K (.ref C6) "column" = some none)
    (g_7 : PySem.W.nsIn K mainGlobals "BadScope" = some (some (.ref C7)))
    (o_7 : K.lookup C7 = some (excClassObj nm7x q7x C7 N7x bs7x bm7x true sn7x sub7x ab7x col7x dd7x k07x k17x k27x k37x k57x "ValueError.__new__"))
    (x_7 : PySem.W.excTail tlV bm7x = true)
    (sa_7 : PySem.W.findIn K (.ref C7) "__setattr__" = some (some (.builtin "object.__setattr__")))
    (xb_7 : PySem.W.subIn K (.ref C7) (.type "BaseException") = some true)
    (ty_7 : PySem.W.typeIn K (.ref C7) = some (.type "type"))
    (kc_7 : PySem.W.keepIn K (.ref C7) = true)
    (cl_7 : PySem.W.isClsIn K C7 = true)
    (hg_7 : PySem.W.findIn K (.ref C7) "__getattribute__" = some (some (.builtin "BaseException.__getattribute__")))
    (hk_7 : PySem.W.findIn K (.ref C7) "__getattr__" = some none)
    (hd_7 : PySem.W.hasDictIn K C7 = true)
    (ha_7 : PySem.W.findIn K (.ref C7) "__class__" = some (some (.builtin "object.__class__")))
    (hm_7 : PySem.W.mroIn K C7 (.type "object") = some true)
    (sv_7 : PySem.W.subIn K (.ref C7) (.type "ValueError") = some true)
    (nl_7 : PySem.W.findIn K (.ref C7) "line" = some none)
    (nc_7 : PySem.W.findIn K (.ref C7) "column" = some none)
    (g_O : PySem.W.nsIn K mainGlobals "BadOption" = some (some (.ref KO)))
    (o_O : K.lookup KO = some (excClassObj nmOx qOx KO NOx bsOx bmOx true snOx subOx abOx colOx ddOx k0Ox k1Ox k2Ox k3Ox k5Ox "ValueError.__new__"))
    (x_O : PySem.W.excTail tlV bmOx = true)
    (sa_O : PySem.W.findIn K (.ref KO) "__setattr__" = some (some (.builtin "object.__setattr__")))
    (xb_O : PySem.W.subIn K (.ref KO) (.type "BaseException") = some true)
    (ty_O : PySem.W.typeIn K (.ref KO) = some (.type "type"))
    (kc_O : PySem.W.keepIn K (.ref KO) = true)
    (cl_O : PySem.W.isClsIn K KO = true)
    (hg_O : PySem.W.findIn K (.ref KO) "__getattribute__" = some (some (.builtin "BaseException.__getattribute__")))
    (hk_O : PySem.W.findIn K (.ref KO) "__getattr__" = some none)
    (hd_O : PySem.W.hasDictIn K KO = true)
    (ha_O : PySem.W.findIn K (.ref KO) "__class__" = some (some (.builtin "object.__class__")))
    (hm_O : PySem.W.mroIn K KO (.type "object") = some true)
    (sv_O : PySem.W.subIn K (.ref KO) (.type "ValueError") = some true)
    (g_C : PySem.W.nsIn K mainGlobals "BadCode" = some (some (.ref KC)))
    (o_C : K.lookup KC = some (excClassObj nmCx qCx KC NCx bsCx bmCx true snCx subCx abCx colCx ddCx k0Cx k1Cx k2Cx k3Cx k5Cx "ValueError.__new__"))
    (x_C : PySem.W.excTail tlV bmCx = true)
    (sa_C : PySem.W.findIn K (.ref KC) "__setattr__" = some (some (.builtin "object.__setattr__")))
    (xb_C : PySem.W.subIn K (.ref KC) (.type "BaseException") = some true)
    (ty_C : PySem.W.typeIn K (.ref KC) = some (.type "type"))
    (kc_C : PySem.W.keepIn K (.ref KC) = true)
    (cl_C : PySem.W.isClsIn K KC = true)
    (hg_C : PySem.W.findIn K (.ref KC) "__getattribute__" = some (some (.builtin "BaseException.__getattribute__")))
    (hk_C : PySem.W.findIn K (.ref KC) "__getattr__" = some none)
    (hd_C : PySem.W.hasDictIn K KC = true)
    (ha_C : PySem.W.findIn K (.ref KC) "__class__" = some (some (.builtin "object.__class__")))
    (hm_C : PySem.W.mroIn K KC (.type "object") = some true)
    (sv_C : PySem.W.subIn K (.ref KC) (.type "ValueError") = some true)
    (g_P : PySem.W.nsIn K mainGlobals "BadPaper" = some (some (.ref KP)))
    (o_P : K.lookup KP = some (excClassObj nmPx qPx KP NPx bsPx bmPx true snPx subPx abPx colPx ddPx k0Px k1Px k2Px k3Px k5Px "ValueError.__new__"))
    (x_P : PySem.W.excTail tlV bmPx = true)
    (sa_P : PySem.W.findIn K (.ref KP) "__setattr__" = some (some (.builtin "object.__setattr__")))
    (xb_P : PySem.W.subIn K (.ref KP) (.type "BaseException") = some true)
    (ty_P : PySem.W.typeIn K (.ref KP) = some (.type "type"))
    (kc_P : PySem.W.keepIn K (.ref KP) = true)
    (cl_P : PySem.W.isClsIn K KP = true)
    (hg_P : PySem.W.findIn K (.ref KP) "__getattribute__" = some (some (.builtin "BaseException.__getattribute__")))
    (hk_P : PySem.W.findIn K (.ref KP) "__getattr__" = some none)
    (hd_P : PySem.W.hasDictIn K KP = true)
    (ha_P : PySem.W.findIn K (.ref KP) "__class__" = some (some (.builtin "object.__class__")))
    (hm_P : PySem.W.mroIn K KP (.type "object") = some true)
    (sv_P : PySem.W.subIn K (.ref KP) (.type "ValueError") = some true)
    (g_U : PySem.W.nsIn K mainGlobals "UnknownPass" = some (some (.ref KU)))
    (o_U : K.lookup KU = some (excClassObj nmUx qUx KU NUx bsUx bmUx true snUx subUx abUx colUx ddUx k0Ux k1Ux k2Ux k3Ux k5Ux "ValueError.__new__"))
    (x_U : PySem.W.excTail tlV bmUx = true)
    (sa_U : PySem.W.findIn K (.ref KU) "__setattr__" = some (some (.builtin "object.__setattr__")))
    (xb_U : PySem.W.subIn K (.ref KU) (.type "BaseException") = some true)
    (ty_U : PySem.W.typeIn K (.ref KU) = some (.type "type"))
    (kc_U : PySem.W.keepIn K (.ref KU) = true)
    (cl_U : PySem.W.isClsIn K KU = true)
    (hg_U : PySem.W.findIn K (.ref KU) "__getattribute__" = some (some (.builtin "BaseException.__getattribute__")))
    (hk_U : PySem.W.findIn K (.ref KU) "__getattr__" = some none)
    (hd_U : PySem.W.hasDictIn K KU = true)
    (ha_U : PySem.W.findIn K (.ref KU) "__class__" = some (some (.builtin "object.__class__")))
    (hm_U : PySem.W.mroIn K KU (.type "object") = some true)
    (sv_U : PySem.W.subIn K (.ref KU) (.type "ValueError") = some true)
    (g_V : PySem.W.nsIn K mainGlobals "BadLevel" = some (some (.ref KV)))
    (o_V : K.lookup KV = some (excClassObj nmVx qVx KV NVx bsVx bmVx true snVx subVx abVx colVx ddVx k0Vx k1Vx k2Vx k3Vx k5Vx "ValueError.__new__"))
    (x_V : PySem.W.excTail tlV bmVx = true)
    (sa_V : PySem.W.findIn K (.ref KV) "__setattr__" = some (some (.builtin "object.__setattr__")))
    (xb_V : PySem.W.subIn K (.ref KV) (.type "BaseException") = some true)
    (ty_V : PySem.W.typeIn K (.ref KV) = some (.type "type"))
    (kc_V : PySem.W.keepIn K (.ref KV) = true)
    (cl_V : PySem.W.isClsIn K KV = true)
    (hg_V : PySem.W.findIn K (.ref KV) "__getattribute__" = some (some (.builtin "BaseException.__getattribute__")))
    (hk_V : PySem.W.findIn K (.ref KV) "__getattr__" = some none)
    (hd_V : PySem.W.hasDictIn K KV = true)
    (ha_V : PySem.W.findIn K (.ref KV) "__class__" = some (some (.builtin "object.__class__")))
    (hm_V : PySem.W.mroIn K KV (.type "object") = some true)
    (sv_V : PySem.W.subIn K (.ref KV) (.type "ValueError") = some true)
    (g_F : PySem.W.nsIn K mainGlobals "Fault" = some (some (.ref KF)))
    (o_F : K.lookup KF = some (excClassObj nmFx qFx KF NFx bsFx bmFx true snFx subFx abFx colFx ddFx k0Fx k1Fx k2Fx k3Fx k5Fx "Exception.__new__"))
    (x_F : PySem.W.excTail tlE bmFx = true)
    (sa_F : PySem.W.findIn K (.ref KF) "__setattr__" = some (some (.builtin "object.__setattr__")))
    (xb_F : PySem.W.subIn K (.ref KF) (.type "BaseException") = some true)
    (ty_F : PySem.W.typeIn K (.ref KF) = some (.type "type"))
    (kc_F : PySem.W.keepIn K (.ref KF) = true)
    (cl_F : PySem.W.isClsIn K KF = true)
    (hg_F : PySem.W.findIn K (.ref KF) "__getattribute__" = some (some (.builtin "BaseException.__getattribute__")))
    (hk_F : PySem.W.findIn K (.ref KF) "__getattr__" = some none)
    (hd_F : PySem.W.hasDictIn K KF = true)
    (ha_F : PySem.W.findIn K (.ref KF) "__class__" = some (some (.builtin "object.__class__")))
    (hm_F : PySem.W.mroIn K KF (.type "object") = some true)
    (sv_F : PySem.W.subIn K (.ref KF) (.type "ValueError") = some false)
    (ne_0_1 : (C0 == C1) = false)
    (ss_0_1 : PySem.W.subIn K (.ref C0) (.ref C1) = some false)
    (ne_0_2 : (C0 == C2) = false)
    (ss_0_2 : PySem.W.subIn K (.ref C0) (.ref C2) = some false)
    (ne_0_3 : (C0 == C3) = false)
    (ss_0_3 : PySem.W.subIn K (.ref C0) (.ref C3) = some false)
    (ne_0_4 : (C0 == C4) = false)
    (ss_0_4 : PySem.W.subIn K (.ref C0) (.ref C4) = some false)
    (ne_0_5 : (C0 == C5) = false)
    (ss_0_5 : PySem.W.subIn K (.ref C0) (.ref C5) = some false)
    (ne_0_6 : (C0 == C6) = false)
    (ss_0_6 : PySem.W.subIn K (.ref C0) (.ref C6) = some false)
    (ne_0_7 : (C0 == C7) = false)
    (ss_0_7 : PySem.W.subIn K (.ref C0) (.ref C7) = some false)
    (ne_0_L : (C0 == KL) = false)
    (ss_0_L : PySem.W.subIn K (.ref C0) (.ref KL) = some true)
    (ne_0_F : (C0 == KF) = false)
    (ss_0_F : PySem.W.subIn K (.ref C0) (.ref KF) = some false)
    (ne_0_V : (C0 == KV) = false)
    (ss_0_V : PySem.W.subIn K (.ref C0) (.ref KV) = some false)
    (ne_1_0 : (C1 == C0) = false)
    (ss_1_0 : PySem.W.subIn K (.ref C1) (.ref C0) = some true)
    (ne_1_2 : (C1 == C2) = false)
    (ss_1_2 : PySem.W.subIn K (.ref C1) (.ref C2) = some false)
    (ne_1_3 : (C1 == C3) = false)
    (ss_1_3 : PySem.W.subIn K (.ref C1) (.ref C3) = some false)
    (ne_1_4 : (C1 == C4) = false)
    (ss_1_4 : PySem.W.subIn K (.ref C1) (.ref C4) = some false)
    (ne_1_5 : (C1 == C5) = false)
    (ss_1_5 : PySem.W.subIn K (.ref C1) (.ref C5) = some false)
    (ne_1_6 : (C1 == C6) = false)
    (ss_1_6 : PySem.W.subIn K (.ref C1) (.ref C6) = some false)
    (ne_1_7 : (C1 == C7) = false)
    (ss_1_7 : PySem.W.subIn K (.ref C1) (.ref C7) = some false)
    (ne_1_L : (C1 == KL) = false)
    (ss_1_L : PySem.W.subIn K (.ref C1) (.ref KL) = some true)
    (ne_1_F : (C1 == KF) = false)
    (ss_1_F : PySem.W.subIn K (.ref C1) (.ref KF) = some false)
    (ne_1_V : (C1 == KV) = false)
    (ss_1_V : PySem.W.subIn K (.ref C1) (.ref KV) = some false)
    (ne_2_0 : (C2 == C0) = false)
    (ss_2_0 : PySem.W.subIn K (.ref C2) (.ref C0) = some true)
    (ne_2_1 : (C2 == C1) = false)
    (ss_2_1 : PySem.W.subIn K (.ref C2) (.ref C1) = some false)
    (ne_2_3 : (C2 == C3) = false)
    (ss_2_3 : PySem.W.subIn K (.ref C2) (.ref C3) = some false)
    (ne_2_4 : (C2 == C4) = false)
    (ss_2_4 : PySem.W.subIn K (.ref C2) (.ref C4) = some false)
    (ne_2_5 : (C2 == C5) = false)
    (ss_2_5 : PySem.W.subIn K (.ref C2) (.ref C5) = some false)
    (ne_2_6 : (C2 == C6) = false)
    (ss_2_6 : PySem.W.subIn K (.ref C2) (.ref C6) = some false)
    (ne_2_7 : (C2 == C7) = false)
    (ss_2_7 : PySem.W.subIn K (.ref C2) (.ref C7) = some false)
    (ne_2_L : (C2 == KL) = false)
    (ss_2_L : PySem.W.subIn K (.ref C2) (.ref KL) = some true)
    (ne_2_F : (C2 == KF) = false)
    (ss_2_F : PySem.W.subIn K (.ref C2) (.ref KF) = some false)
    (ne_2_V : (C2 == KV) = false)
    (ss_2_V : PySem.W.subIn K (.ref C2) (.ref KV) = some false)
    (ne_3_0 : (C3 == C0) = false)
    (ss_3_0 : PySem.W.subIn K (.ref C3) (.ref C0) = some true)
    (ne_3_1 : (C3 == C1) = false)
    (ss_3_1 : PySem.W.subIn K (.ref C3) (.ref C1) = some false)
    (ne_3_2 : (C3 == C2) = false)
    (ss_3_2 : PySem.W.subIn K (.ref C3) (.ref C2) = some false)
    (ne_3_4 : (C3 == C4) = false)
    (ss_3_4 : PySem.W.subIn K (.ref C3) (.ref C4) = some false)
    (ne_3_5 : (C3 == C5) = false)
    (ss_3_5 : PySem.W.subIn K (.ref C3) (.ref C5) = some false)
    (ne_3_6 : (C3 == C6) = false)
    (ss_3_6 : PySem.W.subIn K (.ref C3) (.ref C6) = some false)
    (ne_3_7 : (C3 == C7) = false)
    (ss_3_7 : PySem.W.subIn K (.ref C3) (.ref C7) = some false)
    (ne_3_L : (C3 == KL) = false)
    (ss_3_L : PySem.W.subIn K (.ref C3) (.ref KL) = some true)
    (ne_3_F : (C3 == KF) = false)
    (ss_3_F : PySem.W.subIn K (.ref C3) (.ref KF) = some false)
    (ne_3_V : (C3 == KV) = false)
    (ss_3_V : PySem.W.subIn K (.ref C3) (.ref KV) = some false)
    (ne_4_0 : (C4 == C0) = false)
    (ss_4_0 : PySem.W.subIn K (.ref C4) (.ref C0) = some true)
    (ne_4_1 : (C4 == C1) = false)
    (ss_4_1 : PySem.W.subIn K (.ref C4) (.ref C1) = some false)
    (ne_4_2 : (C4 == C2) = false)
    (ss_4_2 : PySem.W.subIn K (.ref C4) (.ref C2) = some false)
    (ne_4_3 : (C4 == C3) = false)
    (ss_4_3 : PySem.W.subIn K (.ref C4) (.ref C3) = some false)
    (ne_4_5 : (C4 == C5) = false)
    (ss_4_5 : PySem.W.subIn K (.ref C4) (.ref C5) = some false)
    (ne_4_6 : (C4 == C6) = false)
    (ss_4_6 : PySem.W.subIn K (.ref C4) (.ref C6) = some false)
    (ne_4_7 : (C4 == C7) = false)
    (ss_4_7 : PySem.W.subIn K (.ref C4) (.ref C7) = some false)
    (ne_4_L : (C4 == KL) = false)
    (ss_4_L : PySem.W.subIn K (.ref C4) (.ref KL) = some true)
    (ne_4_F : (C4 == KF) = false)
    (ss_4_F : PySem.W.subIn K (.ref C4) (.ref KF) = some false)
    (ne_4_V : (C4 == KV) = false)
    (ss_4_V : PySem.W.subIn K (.ref C4) (.ref KV) = some false)
    (ne_5_0 : (C5 == C0) = false)
    (ss_5_0 : PySem.W.subIn K (.ref C5) (.ref C0) = some true)
    (ne_5_1 : (C5 == C1) = false)
    (ss_5_1 : PySem.W.subIn K (.ref C5) (.ref C1) = some false)
    (ne_5_2 : (C5 == C2) = false)
    (ss_5_2 : PySem.W.subIn K (.ref C5) (.ref C2) = some false)
    (ne_5_3 : (C5 == C3) = false)
    (ss_5_3 : PySem.W.subIn K (.ref C5) (.ref C3) = some false)
    (ne_5_4 : (C5 == C4) = false)
    (ss_5_4 : PySem.W.subIn K (.ref C5) (.ref C4) = some false)
    (ne_5_6 : (C5 == C6) = false)
    (ss_5_6 : PySem.W.subIn K (.ref C5) (.ref C6) = some false)
    (ne_5_7 : (C5 == C7) = false)
    (ss_5_7 : PySem.W.subIn K (.ref C5) (.ref C7) = some false)
    (ne_5_L : (C5 == KL) = false)
    (ss_5_L : PySem.W.subIn K (.ref C5) (.ref KL) = some true)
    (ne_5_F : (C5 == KF) = false)
    (ss_5_F : PySem.W.subIn K (.ref C5) (.ref KF) = some false)
    (ne_5_V : (C5 == KV) = false)
    (ss_5_V : PySem.W.subIn K (.ref C5) (.ref KV) = some false)
    (ne_6_0 : (C6 == C0) = false)
    (ss_6_0 : PySem.W.subIn K (.ref C6) (.ref C0) = some true)
    (ne_6_1 : (C6 == C1) = false)
    (ss_6_1 : PySem.W.subIn K (.ref C6) (.ref C1) = some false)
    (ne_6_2 : (C6 == C2) = false)
    (ss_6_2 : PySem.W.subIn K (.ref C6) (.ref C2) = some false)
    (ne_6_3 : (C6 == C3) = false)
    (ss_6_3 : PySem.W.subIn K (.ref C6) (.ref C3) = some false)
    (ne_6_4 : (C6 == C4) = false)
    (ss_6_4 : PySem.W.subIn K (.ref C6) (.ref C4) = some false)
    (ne_6_5 : (C6 == C5) = false)
    (ss_6_5 : PySem.W.subIn K (.ref C6) (.ref C5) = some false)
    (ne_6_7 : (C6 == C7) = false)
    (ss_6_7 : PySem.W.subIn K (.ref C6) (.ref C7) = some false)
    (ne_6_L : (C6 == KL) = false)
    (ss_6_L : PySem.W.subIn K (.ref C6) (.ref KL) = some true)
    (ne_6_F : (C6 == KF) = false)
    (ss_6_F : PySem.W.subIn K (.ref C6) (.ref KF) = some false)
    (ne_6_V : (C6 == KV) = false)
    (ss_6_V : PySem.W.subIn K (.ref C6) (.ref KV) = some false)
    (ne_7_0 : (C7 == C0) = false)
    (ss_7_0 : PySem.W.subIn K (.ref C7) (.ref C0) = some true)
    (ne_7_1 : (C7 == C1) = false)
    (ss_7_1 : PySem.W.subIn K (.ref C7) (.ref C1) = some false)
    (ne_7_2 : (C7 == C2) = false)
    (ss_7_2 : PySem.W.subIn K (.ref C7) (.ref C2) = some false)
    (ne_7_3 : (C7 == C3) = false)
    (ss_7_3 : PySem.W.subIn K (.ref C7) (.ref C3) = some false)
    (ne_7_4 : (C7 == C4) = false)
    (ss_7_4 : PySem.W.subIn K (.ref C7) (.ref C4) = some false)
    (ne_7_5 : (C7 == C5) = false)
    (ss_7_5 : PySem.W.subIn K (.ref C7) (.ref C5) = some false)
    (ne_7_6 : (C7 == C6) = false)
    (ss_7_6 : PySem.W.subIn K (.ref C7) (.ref C6) = some false)
    (ne_7_L : (C7 == KL) = false)
    (ss_7_L : PySem.W.subIn K (.ref C7) (.ref KL) = some true)
    (ne_7_F : (C7 == KF) = false)
    (ss_7_F : PySem.W.subIn K (.ref C7) (.ref KF) = some false)
    (ne_7_V : (C7 == KV) = false)
    (ss_7_V : PySem.W.subIn K (.ref C7) (.ref KV) = some false)
    (ne_O_L : (KO == KL) = false)
    (ss_O_L : PySem.W.subIn K (.ref KO) (.ref KL) = some true)
    (ne_O_0 : (KO == C0) = false)
    (ss_O_0 : PySem.W.subIn K (.ref KO) (.ref C0) = some false)
    (f_O : PySem.W.findIn K (.ref KO) "option" = some none)
    (ne_C_L : (KC == KL) = false)
    (ss_C_L : PySem.W.subIn K (.ref KC) (.ref KL) = some true)
    (ne_C_0 : (KC == C0) = false)
    (ss_C_0 : PySem.W.subIn K (.ref KC) (.ref C0) = some false)
    (f_C : PySem.W.findIn K (.ref KC) "unit" = some none)
    (ne_P_L : (KP == KL) = false)
    (ss_P_L : PySem.W.subIn K (.ref KP) (.ref KL) = some true)
    (ne_P_0 : (KP == C0) = false)
    (ss_P_0 : PySem.W.subIn K (.ref KP) (.ref C0) = some false)
    (f_P : PySem.W.findIn K (.ref KP) "paper" = some none)
    (ne_U_L : (KU == KL) = false)
    (ss_U_L : PySem.W.subIn K (.ref KU) (.ref KL) = some true)
    (ne_U_0 : (KU == C0) = false)
    (ss_U_0 : PySem.W.subIn K (.ref KU) (.ref C0) = some false)
    (f_U : PySem.W.findIn K (.ref KU) "word" = some none)
    (ne_V_L : (KV == KL) = false)
    (ss_V_L : PySem.W.subIn K (.ref KV) (.ref KL) = some true)
    (ne_V_0 : (KV == C0) = false)
    (ss_V_0 : PySem.W.subIn K (.ref KV) (.ref C0) = some false)
    (f_V : PySem.W.findIn K (.ref KV) "level" = some none)
    (f_F : PySem.W.findIn K (.ref KF) "name" = some none)
    (f_F2 : PySem.W.findIn K (.ref KF) "value" = some none)
    (ne_O_V : (KO == KV) = false)
    (ss_O_V : PySem.W.subIn K (.ref KO) (.ref KV) = some false)
    (ne_U_O : (KU == KO) = false)
    (ss_U_O : PySem.W.subIn K (.ref KU) (.ref KO) = some false)
    (ne_V_C : (KV == KC) = false)
    (ss_V_C : PySem.W.subIn K (.ref KV) (.ref KC) = some false)
    (hn : PySem.W.specialIn K (.builtin "object.__class__") "__get__" = some (some (.builtin "getset_descriptor.__get__")))
    (ht : PySem.W.takesIn K (.builtin "object.__class__") = some true)
    (g_L : PySem.W.nsIn K mainGlobals "LikerunError" = some (some (.ref KL)))
    (ty_L : PySem.W.typeIn K (.ref KL) = some (.type "type"))
    (cl_L : PySem.W.isClsIn K KL = true)
    (xb_L : PySem.W.subIn K (.ref KL) (.type "BaseException") = some true)
    (hd_L : PySem.W.hasDictIn K KL = true) :
    ∃ fd : FuncData, (∀ (s : Shared) (v : Value), BindsTo s fd ⟨[v], []⟩ [("script", v)]) ∧ ∀ base : Heap, K.In base → base.Ns mainGlobals mg → FnOk l.prog w K mg base CX0 9 fa fd ["script"] (spLaw K) := by
  have e := hfa.symm.trans (PySem.W.mg_of X G a64)
  cases e
  have g1 : ∃ fI fd, (∀ k : Ec, PySem.W.findIn K (.ref (ccf C0 C1 C2 C3 C4 C5 C6 C7 k)) "__init__" = some (some (.ref fI))) ∧ PySem.W.typeIn K (.ref fI) = some (.type "function") ∧ Binds K fd p_SourceError___init__ [] ∧ Fun K "__init__" "SourceError.__init__" s_SourceError___init__ fI fd := ⟨_, _, (fun k => by cases k <;> assumption), i1, ((fun_mk (st := s_SourceError___init__) l1 c1 k1).binds (ps := p_SourceError___init__) fun _ _ _ _ _ _ us hl => match us, hl with | [_, _, _], _ => rfl), (fun_mk (st := s_SourceError___init__) l1 c1 k1)⟩
  have g2 : ∃ fI fd, PySem.W.findIn K (.ref KO) "__init__" = some (some (.ref fI)) ∧ PySem.W.typeIn K (.ref fI) = some (.type "function") ∧ Binds K fd p_BadOption___init__ [] ∧ Fun K "__init__" "BadOption.__init__" s_BadOption___init__ fI fd := ⟨_, _, a2, i2, ((fun_mk (st := s_BadOption___init__) l2 c2 k2).binds (ps := p_BadOption___init__) fun _ _ _ _ _ _ us hl => match us, hl with | [_, _], _ => rfl), (fun_mk (st := s_BadOption___init__) l2 c2 k2)⟩
  have g3 : ∃ fI fd, PySem.W.findIn K (.ref KC) "__init__" = some (some (.ref fI)) ∧ PySem.W.typeIn K (.ref fI) = some (.type "function") ∧ Binds K fd p_BadCode___init__ [] ∧ Fun K "__init__" "BadCode.__init__" s_BadCode___init__ fI fd := ⟨_, _, a3, i3, ((fun_mk (st := s_BadCode___init__) l3 c3 k3).binds (ps := p_BadCode___init__) fun _ _ _ _ _ _ us hl => match us, hl with | [_, _], _ => rfl), (fun_mk (st := s_BadCode___init__) l3 c3 k3)⟩
  have g4 : ∃ fI fd, PySem.W.findIn K (.ref KP) "__init__" = some (some (.ref fI)) ∧ PySem.W.typeIn K (.ref fI) = some (.type "function") ∧ Binds K fd p_BadPaper___init__ [] ∧ Fun K "__init__" "BadPaper.__init__" s_BadPaper___init__ fI fd := ⟨_, _, a4, i4, ((fun_mk (st := s_BadPaper___init__) l4 c4 k4).binds (ps := p_BadPaper___init__) fun _ _ _ _ _ _ us hl => match us, hl with | [_, _], _ => rfl), (fun_mk (st := s_BadPaper___init__) l4 c4 k4)⟩
  have g5 : ∃ fI fd, PySem.W.findIn K (.ref KU) "__init__" = some (some (.ref fI)) ∧ PySem.W.typeIn K (.ref fI) = some (.type "function") ∧ Binds K fd p_UnknownPass___init__ [] ∧ Fun K "__init__" "UnknownPass.__init__" s_UnknownPass___init__ fI fd := ⟨_, _, a5, i5, ((fun_mk (st := s_UnknownPass___init__) l5 c5 k5).binds (ps := p_UnknownPass___init__) fun _ _ _ _ _ _ us hl => match us, hl with | [_, _], _ => rfl), (fun_mk (st := s_UnknownPass___init__) l5 c5 k5)⟩
  have g6 : ∃ fI fd, PySem.W.findIn K (.ref KV) "__init__" = some (some (.ref fI)) ∧ PySem.W.typeIn K (.ref fI) = some (.type "function") ∧ Binds K fd p_BadLevel___init__ [] ∧ Fun K "__init__" "BadLevel.__init__" s_BadLevel___init__ fI fd := ⟨_, _, a6, i6, ((fun_mk (st := s_BadLevel___init__) l6 c6 k6).binds (ps := p_BadLevel___init__) fun _ _ _ _ _ _ us hl => match us, hl with | [_, _], _ => rfl), (fun_mk (st := s_BadLevel___init__) l6 c6 k6)⟩
  have g7 : ∃ fI fd, PySem.W.findIn K (.ref KF) "__init__" = some (some (.ref fI)) ∧ PySem.W.typeIn K (.ref fI) = some (.type "function") ∧ Binds K fd p_Fault___init__ [] ∧ Fun K "__init__" "Fault.__init__" s_Fault___init__ fI fd := ⟨_, _, a7, i7, ((fun_mk (st := s_Fault___init__) l7 c7 k7).binds (ps := p_Fault___init__) fun _ _ _ _ _ _ us hl => match us, hl with | [_, _, _], _ => rfl), (fun_mk (st := s_Fault___init__) l7 c7 k7)⟩
  have g8 : Gv K mg "is_row" s_is_row p_is_row := ⟨_, _, (fun_mk (st := s_is_row) l8 c8 k8), PySem.W.mg_of X G a8, ((fun_mk (st := s_is_row) l8 c8 k8).binds (ps := p_is_row) fun _ _ _ _ _ _ us hl => match us, hl with | [_], _ => rfl)⟩
  have g9 : Gv K mg "is_letter" s_is_letter p_is_letter := ⟨_, _, (fun_mk (st := s_is_letter) l9 c9 k9), PySem.W.mg_of X G a9, ((fun_mk (st := s_is_letter) l9 c9 k9).binds (ps := p_is_letter) fun _ _ _ _ _ _ us hl => match us, hl with | [_], _ => rfl)⟩
  have g10 : Gv K mg "is_digit" s_is_digit p_is_digit := ⟨_, _, (fun_mk (st := s_is_digit) l10 c10 k10), PySem.W.mg_of X G a10, ((fun_mk (st := s_is_digit) l10 c10 k10).binds (ps := p_is_digit) fun _ _ _ _ _ _ us hl => match us, hl with | [_], _ => rfl)⟩
  have g11 : Gv K mg "digits_end" s_digits_end p_digits_end := ⟨_, _, (fun_mk (st := s_digits_end) l11 c11 k11), PySem.W.mg_of X G a11, ((fun_mk (st := s_digits_end) l11 c11 k11).binds (ps := p_digits_end) fun _ _ _ _ _ _ us hl => match us, hl with | [_, _], _ => rfl)⟩
  have g12 : Gv K mg "name_end" s_name_end p_name_end := ⟨_, _, (fun_mk (st := s_name_end) l12 c12 k12), PySem.W.mg_of X G a12, ((fun_mk (st := s_name_end) l12 c12 k12).binds (ps := p_name_end) fun _ _ _ _ _ _ us hl => match us, hl with | [_, _], _ => rfl)⟩
  have g13 : Gv K mg "scan_token" s_scan_token p_scan_token := ⟨_, _, (fun_mk (st := s_scan_token) l13 c13 k13), PySem.W.mg_of X G a13, ((fun_mk (st := s_scan_token) l13 c13 k13).binds (ps := p_scan_token) fun _ _ _ _ _ _ us hl => match us, hl with | [_, _, _], _ => rfl)⟩
  have g14 : Gv K mg "scan_name" s_scan_name p_scan_name := ⟨_, _, (fun_mk (st := s_scan_name) l14 c14 k14), PySem.W.mg_of X G a14, ((fun_mk (st := s_scan_name) l14 c14 k14).binds (ps := p_scan_name) fun _ _ _ _ _ _ us hl => match us, hl with | [_, _, _], _ => rfl)⟩
  have g15 : Gv K mg "scan_number" s_scan_number p_scan_number := ⟨_, _, (fun_mk (st := s_scan_number) l15 c15 k15), PySem.W.mg_of X G a15, ((fun_mk (st := s_scan_number) l15 c15 k15).binds (ps := p_scan_number) fun _ _ _ _ _ _ us hl => match us, hl with | [_, _, _], _ => rfl)⟩
  have g16 : Gv K mg "scan_text" s_scan_text p_scan_text := ⟨_, _, (fun_mk (st := s_scan_text) l16 c16 k16), PySem.W.mg_of X G a16, ((fun_mk (st := s_scan_text) l16 c16 k16).binds (ps := p_scan_text) fun _ _ _ _ _ _ us hl => match us, hl with | [_, _, _], _ => rfl)⟩
  have g17 : Gv K mg "scan_sign" s_scan_sign p_scan_sign := ⟨_, _, (fun_mk (st := s_scan_sign) l17 c17 k17), PySem.W.mg_of X G a17, ((fun_mk (st := s_scan_sign) l17 c17 k17).binds (ps := p_scan_sign) fun _ _ _ _ _ _ us hl => match us, hl with | [_, _, _], _ => rfl)⟩
  have g18 : ∃ fI fd, L2.Mk K CC fI ∧ Binds K fd p_Scanner___init__ [] ∧ Fun K "__init__" "Scanner.__init__" s_Scanner___init__ fI fd := ⟨_, _, ⟨mkS, a18, i18, kcS⟩, ((fun_mk (st := s_Scanner___init__) l18 c18 k18).binds (ps := p_Scanner___init__) fun _ _ _ _ _ _ us hl => match us, hl with | [_], _ => rfl), (fun_mk (st := s_Scanner___init__) l18 c18 k18)⟩
  have g19 : Gvm K CC "scan_row" "Scanner.scan_row" s_Scanner_scan_row p_Scanner_scan_row := ⟨_, _, (fun_mk (st := s_Scanner_scan_row) l19 c19 k19), ⟨a19, i19, k19⟩, ((fun_mk (st := s_Scanner_scan_row) l19 c19 k19).binds (ps := p_Scanner_scan_row) fun _ _ _ _ _ _ us hl => match us, hl with | [_, _, _], _ => rfl)⟩
  have g20 : Gvm K CC "begin_line" "Scanner.begin_line" s_Scanner_begin_line p_Scanner_begin_line := ⟨_, _, (fun_mk (st := s_Scanner_begin_line) l20 c20 k20), ⟨a20, i20, k20⟩, ((fun_mk (st := s_Scanner_begin_line) l20 c20 k20).binds (ps := p_Scanner_begin_line) fun _ _ _ _ _ _ us hl => match us, hl with | [_, _, _], _ => rfl)⟩
  have g21 : Gvm K CC "gather" "Scanner.gather" s_Scanner_gather p_Scanner_gather := ⟨_, _, (fun_mk (st := s_Scanner_gather) l21 c21 k21), ⟨a21, i21, k21⟩, ((fun_mk (st := s_Scanner_gather) l21 c21 k21).binds (ps := p_Scanner_gather) fun _ _ _ _ _ _ us hl => match us, hl with | [_, _], _ => rfl)⟩
  have g22 : Gvm K CC "match_bracket" "Scanner.match_bracket" s_Scanner_match_bracket p_Scanner_match_bracket := ⟨_, _, (fun_mk (st := s_Scanner_match_bracket) l22 c22 k22), ⟨a22, i22, k22⟩, ((fun_mk (st := s_Scanner_match_bracket) l22 c22 k22).binds (ps := p_Scanner_match_bracket) fun _ _ _ _ _ _ us hl => match us, hl with | [_, _], _ => rfl)⟩
  have g23 : Gvm K CC "end_line" "Scanner.end_line" s_Scanner_end_line p_Scanner_end_line := ⟨_, _, (fun_mk (st := s_Scanner_end_line) l23 c23 k23), ⟨a23, i23, k23⟩, ((fun_mk (st := s_Scanner_end_line) l23 c23 k23).binds (ps := p_Scanner_end_line) fun _ _ _ _ _ _ us hl => match us, hl with | [_, _], _ => rfl)⟩
  have g24 : Gvm K CC "end_text" "Scanner.end_text" s_Scanner_end_text p_Scanner_end_text := ⟨_, _, (fun_mk (st := s_Scanner_end_text) l24 c24 k24), ⟨a24, i24, k24⟩, ((fun_mk (st := s_Scanner_end_text) l24 c24 k24).binds (ps := p_Scanner_end_text) fun _ _ _ _ _ _ us hl => match us, hl with | [_], _ => rfl)⟩
  have g25 : Gv K mg "tokens" s_tokens p_tokens := ⟨_, _, (fun_mk (st := s_tokens) l25 c25 k25), PySem.W.mg_of X G a25, ((fun_mk (st := s_tokens) l25 c25 k25).binds (ps := p_tokens) fun _ _ _ _ _ _ us hl => match us, hl with | [_], _ => rfl)⟩
  have g26 : Gv K mg "checked_rows" s_checked_rows p_checked_rows := ⟨_, _, (fun_mk (st := s_checked_rows) l26 c26 k26), PySem.W.mg_of X G a26, ((fun_mk (st := s_checked_rows) l26 c26 k26).binds (ps := p_checked_rows) fun _ _ _ _ _ _ us hl => match us, hl with | [_], _ => rfl)⟩
  have g27 : Gv K mg "check_letters" s_check_letters p_check_letters := ⟨_, _, (fun_mk (st := s_check_letters) l27 c27 k27), PySem.W.mg_of X G a27, ((fun_mk (st := s_check_letters) l27 c27 k27).binds (ps := p_check_letters) fun _ _ _ _ _ _ us hl => match us, hl with | [_, _], _ => rfl)⟩
  have g28 : Gv K mg "spaces_end" s_spaces_end p_spaces_end := ⟨_, _, (fun_mk (st := s_spaces_end) l28 c28 k28), PySem.W.mg_of X G a28, ((fun_mk (st := s_spaces_end) l28 c28 k28).binds (ps := p_spaces_end) fun _ _ _ _ _ _ us hl => match us, hl with | [_, _], _ => rfl)⟩
  have g29 : Gv K mg "_law_bag" s__law_bag p__law_bag := ⟨_, _, (fun_mk (st := s__law_bag) l29 c29 k29), PySem.W.mg_of X G a29, ((fun_mk (st := s__law_bag) l29 c29 k29).binds (ps := p__law_bag) fun _ _ _ _ _ _ us hl => match us, hl with | [_, _], _ => rfl)⟩
  have g30 : Gv K mg "_law_take" s__law_take p__law_take := ⟨_, _, (fun_mk (st := s__law_take) l30 c30 k30), PySem.W.mg_of X G a30, ((fun_mk (st := s__law_take) l30 c30 k30).binds (ps := p__law_take) fun _ _ _ _ _ _ us hl => match us, hl with | [_, _], _ => rfl)⟩
  have g31 : Gv K mg "_law_whole" s__law_whole p__law_whole := ⟨_, _, (fun_mk (st := s__law_whole) l31 c31 k31), PySem.W.mg_of X G a31, ((fun_mk (st := s__law_whole) l31 c31 k31).binds (ps := p__law_whole) fun _ _ _ _ _ _ us hl => match us, hl with | [_], _ => rfl)⟩
  have g32 : Gv K mg "_law_signs" s__law_signs p__law_signs := ⟨_, _, (fun_mk (st := s__law_signs) l32 c32 k32), PySem.W.mg_of X G a32, ((fun_mk (st := s__law_signs) l32 c32 k32).binds (ps := p__law_signs) fun _ _ _ _ _ _ us hl => match us, hl with | [], _ => rfl)⟩
  have g33 : Gv K mg "_law_keywords" s__law_keywords p__law_keywords := ⟨_, _, (fun_mk (st := s__law_keywords) l33 c33 k33), PySem.W.mg_of X G a33, ((fun_mk (st := s__law_keywords) l33 c33 k33).binds (ps := p__law_keywords) fun _ _ _ _ _ _ us hl => match us, hl with | [], _ => rfl)⟩
  have g34 : Gv K mg "_law_letters" s__law_letters p__law_letters := ⟨_, _, (fun_mk (st := s__law_letters) l34 c34 k34), PySem.W.mg_of X G a34, ((fun_mk (st := s__law_letters) l34 c34 k34).binds (ps := p__law_letters) fun _ _ _ _ _ _ us hl => match us, hl with | [], _ => rfl)⟩
  have g35 : Gv K mg "_law_allowed" s__law_allowed p__law_allowed := ⟨_, _, (fun_mk (st := s__law_allowed) l35 c35 k35), PySem.W.mg_of X G a35, ((fun_mk (st := s__law_allowed) l35 c35 k35).binds (ps := p__law_allowed) fun _ _ _ _ _ _ us hl => match us, hl with | [], _ => rfl)⟩
  have g36 : Gv K mg "_law_spelled" s__law_spelled p__law_spelled := ⟨_, _, (fun_mk (st := s__law_spelled) l36 c36 k36), PySem.W.mg_of X G a36, ((fun_mk (st := s__law_spelled) l36 c36 k36).binds (ps := p__law_spelled) fun _ _ _ _ _ _ us hl => match us, hl with | [_, _, _], _ => rfl)⟩
  have g37 : Gv K mg "_law_figures" s__law_figures p__law_figures := ⟨_, _, (fun_mk (st := s__law_figures) l37 c37 k37), PySem.W.mg_of X G a37, ((fun_mk (st := s__law_figures) l37 c37 k37).binds (ps := p__law_figures) fun _ _ _ _ _ _ us hl => match us, hl with | [_, _], _ => rfl)⟩
  have g38 : Gv K mg "_law_inner" s__law_inner p__law_inner := ⟨_, _, (fun_mk (st := s__law_inner) l38 c38 k38), PySem.W.mg_of X G a38, ((fun_mk (st := s__law_inner) l38 c38 k38).binds (ps := p__law_inner) fun _ _ _ _ _ _ us hl => match us, hl with | [_, _, _], _ => rfl)⟩
  have g39 : Gv K mg "_law_named" s__law_named p__law_named := ⟨_, _, (fun_mk (st := s__law_named) l39 c39 k39), PySem.W.mg_of X G a39, ((fun_mk (st := s__law_named) l39 c39 k39).binds (ps := p__law_named) fun _ _ _ _ _ _ us hl => match us, hl with | [_], _ => rfl)⟩
  have g40 : Gv K mg "_law_good" s__law_good p__law_good := ⟨_, _, (fun_mk (st := s__law_good) l40 c40 k40), PySem.W.mg_of X G a40, ((fun_mk (st := s__law_good) l40 c40 k40).binds (ps := p__law_good) fun _ _ _ _ _ _ us hl => match us, hl with | [_], _ => rfl)⟩
  have g41 : Gv K mg "_law_odd_figures" s__law_odd_figures p__law_odd_figures := ⟨_, _, (fun_mk (st := s__law_odd_figures) l41 c41 k41), PySem.W.mg_of X G a41, ((fun_mk (st := s__law_odd_figures) l41 c41 k41).binds (ps := p__law_odd_figures) fun _ _ _ _ _ _ us hl => match us, hl with | [_, _, _], _ => rfl)⟩
  have g42 : Gv K mg "_law_odd_text" s__law_odd_text p__law_odd_text := ⟨_, _, (fun_mk (st := s__law_odd_text) l42 c42 k42), PySem.W.mg_of X G a42, ((fun_mk (st := s__law_odd_text) l42 c42 k42).binds (ps := p__law_odd_text) fun _ _ _ _ _ _ us hl => match us, hl with | [_, _, _], _ => rfl)⟩
  have g43 : Gv K mg "_law_odd" s__law_odd p__law_odd := ⟨_, _, (fun_mk (st := s__law_odd) l43 c43 k43), PySem.W.mg_of X G a43, ((fun_mk (st := s__law_odd) l43 c43 k43).binds (ps := p__law_odd) fun _ _ _ _ _ _ us hl => match us, hl with | [_, _], _ => rfl)⟩
  have g44 : Gv K mg "_law_item" s__law_item p__law_item := ⟨_, _, (fun_mk (st := s__law_item) l44 c44 k44), PySem.W.mg_of X G a44, ((fun_mk (st := s__law_item) l44 c44 k44).binds (ps := p__law_item) fun _ _ _ _ _ _ us hl => match us, hl with | [_, _, _, _], _ => rfl)⟩
  have g45 : Gv K mg "_law_add_item" s__law_add_item p__law_add_item := ⟨_, _, (fun_mk (st := s__law_add_item) l45 c45 k45), PySem.W.mg_of X G a45, ((fun_mk (st := s__law_add_item) l45 c45 k45).binds (ps := p__law_add_item) fun _ _ _ _ _ _ us hl => match us, hl with | [_, _, _, _], _ => rfl)⟩
  have g46 : Gv K mg "_law_row" s__law_row p__law_row := ⟨_, _, (fun_mk (st := s__law_row) l46 c46 k46), PySem.W.mg_of X G a46, ((fun_mk (st := s__law_row) l46 c46 k46).binds (ps := p__law_row) fun _ _ _ _ _ _ us hl => match us, hl with | [_, _, _, _, _, _], _ => rfl)⟩
  have g47 : Gv K mg "_law_width" s__law_width p__law_width := ⟨_, _, (fun_mk (st := s__law_width) l47 c47 k47), PySem.W.mg_of X G a47, ((fun_mk (st := s__law_width) l47 c47 k47).binds (ps := p__law_width) fun _ _ _ _ _ _ us hl => match us, hl with | [_, _, _, _, _], _ => rfl)⟩
  have g48 : Gv K mg "_law_crowd" s__law_crowd p__law_crowd := ⟨_, _, (fun_mk (st := s__law_crowd) l48 c48 k48), PySem.W.mg_of X G a48, ((fun_mk (st := s__law_crowd) l48 c48 k48).binds (ps := p__law_crowd) fun _ _ _ _ _ _ us hl => match us, hl with | [_, _, _], _ => rfl)⟩
  have g49 : Gv K mg "_law_stretched" s__law_stretched p__law_stretched := ⟨_, _, (fun_mk (st := s__law_stretched) l49 c49 k49), PySem.W.mg_of X G a49, ((fun_mk (st := s__law_stretched) l49 c49 k49).binds (ps := p__law_stretched) fun _ _ _ _ _ _ us hl => match us, hl with | [_, _, _], _ => rfl)⟩
  have g50 : Gv K mg "_law_filled" s__law_filled p__law_filled := ⟨_, _, (fun_mk (st := s__law_filled) l50 c50 k50), PySem.W.mg_of X G a50, ((fun_mk (st := s__law_filled) l50 c50 k50).binds (ps := p__law_filled) fun _ _ _ _ _ _ us hl => match us, hl with | [_, _, _], _ => rfl)⟩
  have g51 : Gv K mg "_law_page" s__law_page p__law_page := ⟨_, _, (fun_mk (st := s__law_page) l51 c51 k51), PySem.W.mg_of X G a51, ((fun_mk (st := s__law_page) l51 c51 k51).binds (ps := p__law_page) fun _ _ _ _ _ _ us hl => match us, hl with | [_, _], _ => rfl)⟩
  have g52 : Gv K mg "_law_block_fault" s__law_block_fault p__law_block_fault := ⟨_, _, (fun_mk (st := s__law_block_fault) l52 c52 k52), PySem.W.mg_of X G a52, ((fun_mk (st := s__law_block_fault) l52 c52 k52).binds (ps := p__law_block_fault) fun _ _ _ _ _ _ us hl => match us, hl with | [_, _], _ => rfl)⟩
  have g53 : Gv K mg "_law_first_fault" s__law_first_fault p__law_first_fault := ⟨_, _, (fun_mk (st := s__law_first_fault) l53 c53 k53), PySem.W.mg_of X G a53, ((fun_mk (st := s__law_first_fault) l53 c53 k53).binds (ps := p__law_first_fault) fun _ _ _ _ _ _ us hl => match us, hl with | [_], _ => rfl)⟩
  have g54 : Gv K mg "_law_logical_lines" s__law_logical_lines p__law_logical_lines := ⟨_, _, (fun_mk (st := s__law_logical_lines) l54 c54 k54), PySem.W.mg_of X G a54, ((fun_mk (st := s__law_logical_lines) l54 c54 k54).binds (ps := p__law_logical_lines) fun _ _ _ _ _ _ us hl => match us, hl with | [_], _ => rfl)⟩
  have g55 : Gv K mg "_law_is_tokens" s__law_is_tokens p__law_is_tokens := ⟨_, _, (fun_mk (st := s__law_is_tokens) l55 c55 k55), PySem.W.mg_of X G a55, ((fun_mk (st := s__law_is_tokens) l55 c55 k55).binds (ps := p__law_is_tokens) fun _ _ _ _ _ _ us hl => match us, hl with | [_], _ => rfl)⟩
  have g56 : Gv K mg "_law_is_good" s__law_is_good p__law_is_good := ⟨_, _, (fun_mk (st := s__law_is_good) l56 c56 k56), PySem.W.mg_of X G a56, ((fun_mk (st := s__law_is_good) l56 c56 k56).binds (ps := p__law_is_good) fun _ _ _ _ _ _ us hl => match us, hl with | [_], _ => rfl)⟩
  have g57 : Gv K mg "_law_classes" s__law_classes p__law_classes := ⟨_, _, (fun_mk (st := s__law_classes) l57 c57 k57), PySem.W.mg_of X G a57, ((fun_mk (st := s__law_classes) l57 c57 k57).binds (ps := p__law_classes) fun _ _ _ _ _ _ us hl => match us, hl with | [_], _ => rfl)⟩
  have g58 : Gv K mg "_law_is_source_error" s__law_is_source_error p__law_is_source_error := ⟨_, _, (fun_mk (st := s__law_is_source_error) l58 c58 k58), PySem.W.mg_of X G a58, ((fun_mk (st := s__law_is_source_error) l58 c58 k58).binds (ps := p__law_is_source_error) fun _ _ _ _ _ _ us hl => match us, hl with | [_, _], _ => rfl)⟩
  have g59 : Gv K mg "_law_is_raised" s__law_is_raised p__law_is_raised := ⟨_, _, (fun_mk (st := s__law_is_raised) l59 c59 k59), PySem.W.mg_of X G a59, ((fun_mk (st := s__law_is_raised) l59 c59 k59).binds (ps := p__law_is_raised) fun _ _ _ _ _ _ us hl => match us, hl with | [_, _], _ => rfl)⟩
  have g60 : Gv K mg "_law_are_made" s__law_are_made p__law_are_made := ⟨_, _, (fun_mk (st := s__law_are_made) l60 c60 k60), PySem.W.mg_of X G a60, ((fun_mk (st := s__law_are_made) l60 c60 k60).binds (ps := p__law_are_made) fun _ _ _ _ _ _ us hl => match us, hl with | [_, _], _ => rfl)⟩
  have g61 : Gv K mg "_law_is_below" s__law_is_below p__law_is_below := ⟨_, _, (fun_mk (st := s__law_is_below) l61 c61 k61), PySem.W.mg_of X G a61, ((fun_mk (st := s__law_is_below) l61 c61 k61).binds (ps := p__law_is_below) fun _ _ _ _ _ _ us hl => match us, hl with | [_], _ => rfl)⟩
  have g62 : Gv K mg "_law_others_are_made" s__law_others_are_made p__law_others_are_made := ⟨_, _, (fun_mk (st := s__law_others_are_made) l62 c62 k62), PySem.W.mg_of X G a62, ((fun_mk (st := s__law_others_are_made) l62 c62 k62).binds (ps := p__law_others_are_made) fun _ _ _ _ _ _ us hl => match us, hl with | [_], _ => rfl)⟩
  have g63 : Gv K mg "_law_is_right" s__law_is_right p__law_is_right := ⟨_, _, (fun_mk (st := s__law_is_right) l63 c63 k63), PySem.W.mg_of X G a63, ((fun_mk (st := s__law_is_right) l63 c63 k63).binds (ps := p__law_is_right) fun _ _ _ _ _ _ us hl => match us, hl with | [_], _ => rfl)⟩
  have g64 : Gv K mg "law" s_law p_law := ⟨_, _, (fun_mk (st := s_law) l64 c64 k64), PySem.W.mg_of X G a64, ((fun_mk (st := s_law) l64 c64 k64).binds (ps := p_law) fun _ _ _ _ _ _ us hl => match us, hl with | [_], _ => rfl)⟩
  have D_ESCAPES : DictT K w mg "ESCAPES" escV := by
    have sN : (Str.ofString "n") = S [110] ∧ (Str.ofString "\n") = S [10] ∧ (Str.ofString "\\") = S [92] ∧ (Str.ofString "'") = S [39] ∧ (Str.ofString "\"") = S [34] := by decide +kernel
    obtain ⟨s0, s1, s2, s3, s4⟩ := sN
    rw [s0, s1, s2, s3, s4] at l_ESCAPES
    rw [s0] at eESCAPES0
    rw [s2] at eESCAPES1
    rw [s3] at eESCAPES2
    rw [s4] at eESCAPES3
    exact dictT_of escP escV_get (PySem.W.mg_of X G q_ESCAPES) w_ESCAPES l_ESCAPES ⟨⟨_, _, _, rfl, eESCAPES0⟩, ⟨_, _, _, rfl, eESCAPES1⟩, ⟨_, _, _, rfl, eESCAPES2⟩, ⟨_, _, _, rfl, eESCAPES3⟩, trivial⟩
  have D_CLOSING : DictT K w mg "CLOSING" cloV := by
    have sN : (Str.ofString ")") = S [41] ∧ (Str.ofString "(") = S [40] ∧ (Str.ofString "]") = S [93] ∧ (Str.ofString "[") = S [91] ∧ (Str.ofString "}") = S [125] ∧ (Str.ofString "{") = S [123] := by decide +kernel
    obtain ⟨s0, s1, s2, s3, s4, s5⟩ := sN
    rw [s0, s1, s2, s3, s4, s5] at l_CLOSING
    rw [s0] at eCLOSING0
    rw [s2] at eCLOSING1
    rw [s4] at eCLOSING2
    exact dictT_of cloP cloV_get (PySem.W.mg_of X G q_CLOSING) w_CLOSING l_CLOSING ⟨⟨_, _, _, rfl, eCLOSING0⟩, ⟨_, _, _, rfl, eCLOSING1⟩, ⟨_, _, _, rfl, eCLOSING2⟩, trivial⟩
  have T : Txt K w mg := { z_ValueError := PySem.W.mg_none_of X G z_ValueError, z_bool := PySem.W.mg_none_of X G z_bool, z_enumerate := PySem.W.mg_none_of X G z_enumerate, z_int := PySem.W.mg_none_of X G z_int, z_isinstance := PySem.W.mg_none_of X G z_isinstance, z_len := PySem.W.mg_none_of X G z_len, z_list := PySem.W.mg_none_of X G z_list, z_max := PySem.W.mg_none_of X G z_max, z_min := PySem.W.mg_none_of X G z_min, z_ord := PySem.W.mg_none_of X G z_ord, z_range := PySem.W.mg_none_of X G z_range, z_reversed := PySem.W.mg_none_of X G z_reversed, z_str := PySem.W.mg_none_of X G z_str, z_sum := PySem.W.mg_none_of X G z_sum, z_tuple := PySem.W.mg_none_of X G z_tuple, g_is_row := g8, g_is_letter := g9, g_is_digit := g10, g_digits_end := g11, g_name_end := g12, g_scan_token := g13, g_scan_name := g14, g_scan_number := g15, g_scan_text := g16, g_scan_sign := g17, g_tokens := g25, g_checked_rows := g26, g_check_letters := g27, g_spaces_end := g28, g__law_bag := g29, g__law_take := g30, g__law_whole := g31, g__law_signs := g32, g__law_keywords := g33, g__law_letters := g34, g__law_allowed := g35, g__law_spelled := g36, g__law_figures := g37, g__law_inner := g38, g__law_named := g39, g__law_good := g40, g__law_odd_figures := g41, g__law_odd_text := g42, g__law_odd := g43, g__law_item := g44, g__law_add_item := g45, g__law_row := g46, g__law_width := g47, g__law_crowd := g48, g__law_stretched := g49, g__law_filled := g50, g__law_page := g51, g__law_block_fault := g52, g__law_first_fault := g53, g__law_logical_lines := g54, g__law_is_tokens := g55, g__law_is_good := g56, g__law_classes := g57, g__law_is_source_error := g58, g__law_is_raised := g59, g__law_are_made := g60, g__law_is_below := g61, g__law_others_are_made := g62, g__law_is_right := g63, g_law := g64, c_PERCENT := ⟨_, PySem.W.mg_of X G q_PERCENT⟩, c_NAME_LIMIT := ⟨_, PySem.W.mg_of X G q_NAME_LIMIT⟩, c_NUMBER_LIMIT := ⟨_, PySem.W.mg_of X G q_NUMBER_LIMIT⟩, c_TEXT_LIMIT := ⟨_, PySem.W.mg_of X G q_TEXT_LIMIT⟩, c_ROW_LIMIT := ⟨_, PySem.W.mg_of X G q_ROW_LIMIT⟩, c_TOKEN_LIMIT := ⟨_, PySem.W.mg_of X G q_TOKEN_LIMIT⟩, c_INDENT_LIMIT := ⟨_, PySem.W.mg_of X G q_INDENT_LIMIT⟩, c_KEYWORDS := tupT_of (PySem.W.mg_of X G q_KEYWORDS) l_KEYWORDS v_KEYWORDS w_KEYWORDS, c_SIGNS := tupT_of (PySem.W.mg_of X G q_SIGNS) l_SIGNS v_SIGNS w_SIGNS, c_OPENING := tupT_of (PySem.W.mg_of X G q_OPENING) l_OPENING v_OPENING w_OPENING, c_ESCAPES := D_ESCAPES, c_CLOSING := D_CLOSING }
  have SC0 : ScT K mg CC := { cl := ⟨pgS, hdS, poS, saS⟩, gl := PySem.W.mg_of X G gS, n_marks := n_marks, n_brackets := n_brackets, n_indents := n_indents, n_many := n_many, n_behind := n_behind, ini := g18, g_scan_row := g19, g_begin_line := g20, g_gather := g21, g_match_bracket := g22, g_end_line := g23, g_end_text := g24 }
  have oex : ∀ k : Er, OexC K ((ccf C0 C1 C2 C3 C4 C5 C6 C7) k.up) := (fun k => match k with | .sign => ⟨⟨_, _, _, _, _, _, _, _, _, _, _, _, _, _, _, o_1, r_1⟩, sa_1, xb_1, ty_1, kc_1⟩ | .token => ⟨⟨_, _, _, _, _, _, _, _, _, _, _, _, _, _, _, o_2, r_2⟩, sa_2, xb_2, ty_2, kc_2⟩ | .indent => ⟨⟨_, _, _, _, _, _, _, _, _, _, _, _, _, _, _, o_3, r_3⟩, sa_3, xb_3, ty_3, kc_3⟩ | .long => ⟨⟨_, _, _, _, _, _, _, _, _, _, _, _, _, _, _, o_4, r_4⟩, sa_4, xb_4, ty_4, kc_4⟩ | .deep => ⟨⟨_, _, _, _, _, _, _, _, _, _, _, _, _, _, _, o_5, r_5⟩, sa_5, xb_5, ty_5, kc_5⟩)
  have kk : ∀ k j : Ec, PySem.W.kitOne K (.ref ((ccf C0 C1 C2 C3 C4 C5 C6 C7) k)) (.ref ((ccf C0 C1 C2 C3 C4 C5 C6 C7) j)) = some (k.isA j) := (fun k j => match k, j with | .src, .src => kit_self | .src, .sign => kit_own ne_0_1 cl_1 ty_1 ss_0_1 | .src, .token => kit_own ne_0_2 cl_2 ty_2 ss_0_2 | .src, .indent => kit_own ne_0_3 cl_3 ty_3 ss_0_3 | .src, .long => kit_own ne_0_4 cl_4 ty_4 ss_0_4 | .src, .deep => kit_own ne_0_5 cl_5 ty_5 ss_0_5 | .src, .syn => kit_own ne_0_6 cl_6 ty_6 ss_0_6 | .src, .sco => kit_own ne_0_7 cl_7 ty_7 ss_0_7 | .sign, .src => kit_own ne_1_0 cl_0 ty_0 ss_1_0 | .sign, .sign => kit_self | .sign, .token => kit_own ne_1_2 cl_2 ty_2 ss_1_2 | .sign, .indent => kit_own ne_1_3 cl_3 ty_3 ss_1_3 | .sign, .long => kit_own ne_1_4 cl_4 ty_4 ss_1_4 | .sign, .deep => kit_own ne_1_5 cl_5 ty_5 ss_1_5 | .sign, .syn => kit_own ne_1_6 cl_6 ty_6 ss_1_6 | .sign, .sco => kit_own ne_1_7 cl_7 ty_7 ss_1_7 | .token, .src => kit_own ne_2_0 cl_0 ty_0 ss_2_0 | .token, .sign => kit_own ne_2_1 cl_1 ty_1 ss_2_1 | .token, .token => kit_self | .token, .indent => kit_own ne_2_3 cl_3 ty_3 ss_2_3 | .token, .long => kit_own ne_2_4 cl_4 ty_4 ss_2_4 | .token, .deep => kit_own ne_2_5 cl_5 ty_5 ss_2_5 | .token, .syn => kit_own ne_2_6 cl_6 ty_6 ss_2_6 | .token, .sco => kit_own ne_2_7 cl_7 ty_7 ss_2_7 | .indent, .src => kit_own ne_3_0 cl_0 ty_0 ss_3_0 | .indent, .sign => kit_own ne_3_1 cl_1 ty_1 ss_3_1 | .indent, .token => kit_own ne_3_2 cl_2 ty_2 ss_3_2 | .indent, .indent => kit_self | .indent, .long => kit_own ne_3_4 cl_4 ty_4 ss_3_4 | .indent, .deep => kit_own ne_3_5 cl_5 ty_5 ss_3_5 | .indent, .syn => kit_own ne_3_6 cl_6 ty_6 ss_3_6 | .indent, .sco => kit_own ne_3_7 cl_7 ty_7 ss_3_7 | .long, .src => kit_own ne_4_0 cl_0 ty_0 ss_4_0 | .long, .sign => kit_own ne_4_1 cl_1 ty_1 ss_4_1 | .long, .token => kit_own ne_4_2 cl_2 ty_2 ss_4_2 | .long, .indent => kit_own ne_4_3 cl_3 ty_3 ss_4_3 | .long, .long => kit_self | .long, .deep => kit_own ne_4_5 cl_5 ty_5 ss_4_5 | .long, .syn => kit_own ne_4_6 cl_6 ty_6 ss_4_6 | .long, .sco => kit_own ne_4_7 cl_7 ty_7 ss_4_7 | .deep, .src => kit_own ne_5_0 cl_0 ty_0 ss_5_0 | .deep, .sign => kit_own ne_5_1 cl_1 ty_1 ss_5_1 | .deep, .token => kit_own ne_5_2 cl_2 ty_2 ss_5_2 | .deep, .indent => kit_own ne_5_3 cl_3 ty_3 ss_5_3 | .deep, .long => kit_own ne_5_4 cl_4 ty_4 ss_5_4 | .deep, .deep => kit_self | .deep, .syn => kit_own ne_5_6 cl_6 ty_6 ss_5_6 | .deep, .sco => kit_own ne_5_7 cl_7 ty_7 ss_5_7 | .syn, .src => kit_own ne_6_0 cl_0 ty_0 ss_6_0 | .syn, .sign => kit_own ne_6_1 cl_1 ty_1 ss_6_1 | .syn, .token => kit_own ne_6_2 cl_2 ty_2 ss_6_2 | .syn, .indent => kit_own ne_6_3 cl_3 ty_3 ss_6_3 | .syn, .long => kit_own ne_6_4 cl_4 ty_4 ss_6_4 | .syn, .deep => kit_own ne_6_5 cl_5 ty_5 ss_6_5 | .syn, .syn => kit_self | .syn, .sco => kit_own ne_6_7 cl_7 ty_7 ss_6_7 | .sco, .src => kit_own ne_7_0 cl_0 ty_0 ss_7_0 | .sco, .sign => kit_own ne_7_1 cl_1 ty_1 ss_7_1 | .sco, .token => kit_own ne_7_2 cl_2 ty_2 ss_7_2 | .sco, .indent => kit_own ne_7_3 cl_3 ty_3 ss_7_3 | .sco, .long => kit_own ne_7_4 cl_4 ty_4 ss_7_4 | .sco, .deep => kit_own ne_7_5 cl_5 ty_5 ss_7_5 | .sco, .syn => kit_own ne_7_6 cl_6 ty_6 ss_7_6 | .sco, .sco => kit_self )
  have xd : ∀ k : Ec, ExcD K ((ccf C0 C1 C2 C3 C4 C5 C6 C7) k) := (fun k => match k with | .src => ⟨cl_0, hg_0, hk_0, xb_0, hd_0, ha_0, hn, ht, hm_0⟩ | .sign => ⟨cl_1, hg_1, hk_1, xb_1, hd_1, ha_1, hn, ht, hm_1⟩ | .token => ⟨cl_2, hg_2, hk_2, xb_2, hd_2, ha_2, hn, ht, hm_2⟩ | .indent => ⟨cl_3, hg_3, hk_3, xb_3, hd_3, ha_3, hn, ht, hm_3⟩ | .long => ⟨cl_4, hg_4, hk_4, xb_4, hd_4, ha_4, hn, ht, hm_4⟩ | .deep => ⟨cl_5, hg_5, hk_5, xb_5, hd_5, ha_5, hn, ht, hm_5⟩ | .syn => ⟨cl_6, hg_6, hk_6, xb_6, hd_6, ha_6, hn, ht, hm_6⟩ | .sco => ⟨cl_7, hg_7, hk_7, xb_7, hd_7, ha_7, hn, ht, hm_7⟩)
  have xl : ∀ k : Ec, PySem.W.exmOne K (.ref ((ccf C0 C1 C2 C3 C4 C5 C6 C7) k)) (.ref KL) = some true := (fun k => match k with | .src => PySem.W.exm_ref xb_L hd_L ty_L ss_0_L | .sign => PySem.W.exm_ref xb_L hd_L ty_L ss_1_L | .token => PySem.W.exm_ref xb_L hd_L ty_L ss_2_L | .indent => PySem.W.exm_ref xb_L hd_L ty_L ss_3_L | .long => PySem.W.exm_ref xb_L hd_L ty_L ss_4_L | .deep => PySem.W.exm_ref xb_L hd_L ty_L ss_5_L | .syn => PySem.W.exm_ref xb_L hd_L ty_L ss_6_L | .sco => PySem.W.exm_ref xb_L hd_L ty_L ss_7_L)
  have U : Kit8 K mg (ccf C0 C1 C2 C3 C4 C5 C6 C7) KL KF KV := { ex := xd, gl := (fun k => match k with | .src => PySem.W.mg_of X G g_0 | .sign => PySem.W.mg_of X G g_1 | .token => PySem.W.mg_of X G g_2 | .indent => PySem.W.mg_of X G g_3 | .long => PySem.W.mg_of X G g_4 | .deep => PySem.W.mg_of X G g_5 | .syn => PySem.W.mg_of X G g_6 | .sco => PySem.W.mg_of X G g_7), gL := PySem.W.mg_of X G g_L, gF := PySem.W.mg_of X G g_F, gV := PySem.W.mg_of X G g_V, kk := kk, kL := (fun k => match k with | .src => kit_own ne_0_L cl_L ty_L ss_0_L | .sign => kit_own ne_1_L cl_L ty_L ss_1_L | .token => kit_own ne_2_L cl_L ty_L ss_2_L | .indent => kit_own ne_3_L cl_L ty_L ss_3_L | .long => kit_own ne_4_L cl_L ty_L ss_4_L | .deep => kit_own ne_5_L cl_L ty_L ss_5_L | .syn => kit_own ne_6_L cl_L ty_L ss_6_L | .sco => kit_own ne_7_L cl_L ty_L ss_7_L), kE := (fun k => match k with | .src => kit_bt (by decide +kernel) sv_0 | .sign => kit_bt (by decide +kernel) sv_1 | .token => kit_bt (by decide +kernel) sv_2 | .indent => kit_bt (by decide +kernel) sv_3 | .long => kit_bt (by decide +kernel) sv_4 | .deep => kit_bt (by decide +kernel) sv_5 | .syn => kit_bt (by decide +kernel) sv_6 | .sco => kit_bt (by decide +kernel) sv_7), kF := (fun k => match k with | .src => kit_own ne_0_F cl_F ty_F ss_0_F | .sign => kit_own ne_1_F cl_F ty_F ss_1_F | .token => kit_own ne_2_F cl_F ty_F ss_2_F | .indent => kit_own ne_3_F cl_F ty_F ss_3_F | .long => kit_own ne_4_F cl_F ty_F ss_4_F | .deep => kit_own ne_5_F cl_F ty_F ss_5_F | .syn => kit_own ne_6_F cl_F ty_F ss_6_F | .sco => kit_own ne_7_F cl_F ty_F ss_7_F), kV := (fun k => match k with | .src => kit_own ne_0_V cl_V ty_V ss_0_V | .sign => kit_own ne_1_V cl_V ty_V ss_1_V | .token => kit_own ne_2_V cl_V ty_V ss_2_V | .indent => kit_own ne_3_V cl_V ty_V ss_3_V | .long => kit_own ne_4_V cl_V ty_V ss_4_V | .deep => kit_own ne_5_V cl_V ty_V ss_5_V | .syn => kit_own ne_6_V cl_V ty_V ss_6_V | .sco => kit_own ne_7_V cl_V ty_V ss_7_V), eL := xl, xf := (fun k => match k with | .src => ⟨hg_0, hk_0, xb_0, hd_0⟩ | .sign => ⟨hg_1, hk_1, xb_1, hd_1⟩ | .token => ⟨hg_2, hk_2, xb_2, hd_2⟩ | .indent => ⟨hg_3, hk_3, xb_3, hd_3⟩ | .long => ⟨hg_4, hk_4, xb_4, hd_4⟩ | .deep => ⟨hg_5, hk_5, xb_5, hd_5⟩ | .syn => ⟨hg_6, hk_6, xb_6, hd_6⟩ | .sco => ⟨hg_7, hk_7, xb_7, hd_7⟩), nl := (fun k => match k with | .src => nl_0 | .sign => nl_1 | .token => nl_2 | .indent => nl_3 | .long => nl_4 | .deep => nl_5 | .syn => nl_6 | .sco => nl_7), nc := (fun k => match k with | .src => nc_0 | .sign => nc_1 | .token => nc_2 | .indent => nc_3 | .long => nc_4 | .deep => nc_5 | .syn => nc_6 | .sco => nc_7) }
  refine ⟨PySem.W.fnOf "law" "law" (defArgs s_law) (defBody s_law) (defScope s_law) .none kV64 dc64 pm64 an64 cd64 ct64, fun s v => .of_eq rfl, fun base _ _ => ?_⟩
  obtain ⟨fI, fdI, iI1, iI2, iI3, iI4⟩ := g1
  have ER : ErrT l.prog w K mg base fun k => (ccf C0 C1 C2 C3 C4 C5 C6 C7) k.up := { gl := (fun k => match k with | .sign => PySem.W.mg_of X G g_1 | .token => PySem.W.mg_of X G g_2 | .indent => PySem.W.mg_of X G g_3 | .long => PySem.W.mg_of X G g_4 | .deep => PySem.W.mg_of X G g_5), oex := oex, nl := fun k => U.nl k.up, nc := fun k => U.nc k.up, ini := ⟨fI, fdI, fun k => iI1 k.up, iI2, iI3, iI4⟩ }
  have N : ∀ k : Ec, NewC l.prog w K mg base k.nm ((ccf C0 C1 C2 C3 C4 C5 C6 C7) k) p_SourceError___init__ (spI2 K "line" "column") := fun k => ⟨(show ∀ k : Ec, OexG K ((ccf C0 C1 C2 C3 C4 C5 C6 C7) k) from (fun k => match k with | .src => (oexV (hin_of o_0 x_0) sa_0 hd_0 kc_0) | .sign => (oexV (hin_of o_1 x_1) sa_1 hd_1 kc_1) | .token => (oexV (hin_of o_2 x_2) sa_2 hd_2 kc_2) | .indent => (oexV (hin_of o_3 x_3) sa_3 hd_3 kc_3) | .long => (oexV (hin_of o_4 x_4) sa_4 hd_4 kc_4) | .deep => (oexV (hin_of o_5 x_5) sa_5 hd_5 kc_5) | .syn => (oexV (hin_of o_6 x_6) sa_6 hd_6 kc_6) | .sco => (oexV (hin_of o_7 x_7) sa_7 hd_7 kc_7))) k, U.gl k, ⟨fI, fdI, iI1 k, iI2, iI3, okG_SourceError___init__ iI4⟩⟩
  obtain ⟨fOI, fdOI, iO1, iO2, iO3, iO4⟩ := g2
  obtain ⟨fCI, fdCI, iC1, iC2, iC3, iC4⟩ := g3
  obtain ⟨fPI, fdPI, iP1, iP2, iP3, iP4⟩ := g4
  obtain ⟨fUI, fdUI, iU1, iU2, iU3, iU4⟩ := g5
  obtain ⟨fVI, fdVI, iV1, iV2, iV3, iV4⟩ := g6
  obtain ⟨fFI, fdFI, iF1, iF2, iF3, iF4⟩ := g7
  have G6 : Kit6 l.prog w K mg base KL ((ccf C0 C1 C2 C3 C4 C5 C6 C7) .src) KO KC KP KU KV KF := { nO := ⟨(oexV (hin_of o_O x_O) sa_O hd_O kc_O), PySem.W.mg_of X G g_O, ⟨fOI, fdOI, iO1, iO2, iO3, ok_BadOption___init__ iO4⟩⟩, nC := ⟨(oexV (hin_of o_C x_C) sa_C hd_C kc_C), PySem.W.mg_of X G g_C, ⟨fCI, fdCI, iC1, iC2, iC3, ok_BadCode___init__ iC4⟩⟩, nP := ⟨(oexV (hin_of o_P x_P) sa_P hd_P kc_P), PySem.W.mg_of X G g_P, ⟨fPI, fdPI, iP1, iP2, iP3, ok_BadPaper___init__ iP4⟩⟩, nU := ⟨(oexV (hin_of o_U x_U) sa_U hd_U kc_U), PySem.W.mg_of X G g_U, ⟨fUI, fdUI, iU1, iU2, iU3, ok_UnknownPass___init__ iU4⟩⟩, nV := ⟨(oexV (hin_of o_V x_V) sa_V hd_V kc_V), PySem.W.mg_of X G g_V, ⟨fVI, fdVI, iV1, iV2, iV3, ok_BadLevel___init__ iV4⟩⟩, nF := ⟨(oexE (hin_of o_F x_F) sa_F hd_F kc_F), PySem.W.mg_of X G g_F, ⟨fFI, fdFI, iF1, iF2, iF3, okG_Fault___init__ iF4⟩⟩, fO := f_O, bO := ⟨⟨cl_O, hg_O, hk_O, xb_O, hd_O, ha_O, hn, ht, hm_O⟩, kit_own ne_O_L cl_L ty_L ss_O_L, kit_own ne_O_0 cl_0 ty_0 ss_O_0, kit_bt (by decide +kernel) sv_O⟩, xO := ⟨hg_O, hk_O, xb_O, hd_O⟩, fC := f_C, bC := ⟨⟨cl_C, hg_C, hk_C, xb_C, hd_C, ha_C, hn, ht, hm_C⟩, kit_own ne_C_L cl_L ty_L ss_C_L, kit_own ne_C_0 cl_0 ty_0 ss_C_0, kit_bt (by decide +kernel) sv_C⟩, xC := ⟨hg_C, hk_C, xb_C, hd_C⟩, fP := f_P, bP := ⟨⟨cl_P, hg_P, hk_P, xb_P, hd_P, ha_P, hn, ht, hm_P⟩, kit_own ne_P_L cl_L ty_L ss_P_L, kit_own ne_P_0 cl_0 ty_0 ss_P_0, kit_bt (by decide +kernel) sv_P⟩, xP := ⟨hg_P, hk_P, xb_P, hd_P⟩, fU := f_U, bU := ⟨⟨cl_U, hg_U, hk_U, xb_U, hd_U, ha_U, hn, ht, hm_U⟩, kit_own ne_U_L cl_L ty_L ss_U_L, kit_own ne_U_0 cl_0 ty_0 ss_U_0, kit_bt (by decide +kernel) sv_U⟩, xU := ⟨hg_U, hk_U, xb_U, hd_U⟩, fV := f_V, bV := ⟨⟨cl_V, hg_V, hk_V, xb_V, hd_V, ha_V, hn, ht, hm_V⟩, kit_own ne_V_L cl_L ty_L ss_V_L, kit_own ne_V_0 cl_0 ty_0 ss_V_0, kit_bt (by decide +kernel) sv_V⟩, xV := ⟨hg_V, hk_V, xb_V, hd_V⟩, xF := ⟨hg_F, hk_F, xb_F, hd_F⟩, fN := f_F, fL := f_F2, eF := ⟨cl_F, hg_F, hk_F, xb_F, hd_F, ha_F, hn, ht, hm_F⟩, kFE := kit_bt (by decide +kernel) sv_F, kOV := kit_own ne_O_V cl_V ty_V ss_O_V, kUO := kit_own ne_U_O cl_O ty_O ss_U_O, kVC := kit_own ne_V_C cl_C ty_C ss_V_C }
  obtain ⟨f, fd, hm', hk', hb', ⟨oc, od, osl, lk⟩, F⟩ := all_ok (P := l.prog) (base := base) T ER SC0 U G6 N
  have e2 : fa = f := Value.ref.inj (Option.some.inj (hfa.symm.trans hm'))
  subst e2
  have e3 := lk.symm.trans l64
  cases e3
  exact F
end D0
open PySem PySem.W PyProof.Rows
set_option maxRecDepth 100000 in
set_option maxHeartbeats 0 in
theorem PySem.Challenge.cw_likerun_k02_first_fault_of_all_holds : PySem.Challenge.rw_likerun_k02_first_fault_of_all.Holds := by
  w_on; o_law; k_head; (case hw => w_witness2)
  k_fill
  refine L2.walk_of (l := PySem.Challenge.rw_likerun_k02_first_fault_of_all) (n := 63) (k := 9) (x := "script") (CX := fun _ => L2.CX0) (sp := fun w => D0.spLaw _) rfl (by decide) rfl ⟨rfl, by decide, by decide⟩ (fun w h Y => PySem.W.kIn_of Y) ?F (fun _ _ a ns hl hO hS => ⟨a, ns, rfl, hO, hS, hl, fun _ => rfl⟩) (fun _ _ _ _ _ h => h)
  case F =>
    intro w mg fa h KX G hmg
    refine' D0.all_mk KX G hmg ?a1_0 ?a1_1 ?a1_2 ?a1_3 ?a1_4 ?a1_5 ?a1_6 ?a1_7 ?i1 ?l1 ?c1 ?k1 ?a2 ?i2 ?l2 ?c2 ?k2 ?a3 ?i3 ?l3 ?c3 ?k3 ?a4 ?i4 ?l4 ?c4 ?k4 ?a5 ?i5 ?l5 ?c5 ?k5 ?a6 ?i6 ?l6 ?c6 ?k6 ?a7 ?i7 ?l7 ?c7 ?k7 ?a8 ?l8 ?c8 ?k8 ?a9 ?l9 ?c9 ?k9 ?a10 ?l10 ?c10 ?k10 ?a11 ?l11 ?c11 ?k11 ?a12 ?l12 ?c12 ?k12 ?a13 ?l13 ?c13 ?k13 ?a14 ?l14 ?c14 ?k14 ?a15 ?l15 ?c15 ?k15 ?a16 ?l16 ?c16 ?k16 ?a17 ?l17 ?c17 ?k17 ?a18 ?i18 ?l18 ?c18 ?k18 ?a19 ?i19 ?l19 ?c19 ?k19 ?a20 ?i20 ?l20 ?c20 ?k20 ?a21 ?i21 ?l21 ?c21 ?k21 ?a22 ?i22 ?l22 ?c22 ?k22 ?a23 ?i23 ?l23 ?c23 ?k23 ?a24 ?i24 ?l24 ?c24 ?k24 ?a25 ?l25 ?c25 ?k25 ?a26 ?l26 ?c26 ?k26 ?a27 ?l27 ?c27 ?k27 ?a28 ?l28 ?c28 ?k28 ?a29 ?l29 ?c29 ?k29 ?a30 ?l30 ?c30 ?k30 ?a31 ?l31 ?c31 ?k31 ?a32 ?l32 ?c32 ?k32 ?a33 ?l33 ?c33 ?k33 ?a34 ?l34 ?c34 ?k34 ?a35 ?l35 ?c35 ?k35 ?a36 ?l36 ?c36 ?k36 ?a37 ?l37 ?c37 ?k37 ?a38 ?l38 ?c38 ?k38 ?a39 ?l39 ?c39 ?k39 ?a40 ?l40 ?c40 ?k40 ?a41 ?l41 ?c41 ?k41 ?a42 ?l42 ?c42 ?k42 ?a43 ?l43 ?c43 ?k43 ?a44 ?l44 ?c44 ?k44 ?a45 ?l45 ?c45 ?k45 ?a46 ?l46 ?c46 ?k46 ?a47 ?l47 ?c47 ?k47 ?a48 ?l48 ?c48 ?k48 ?a49 ?l49 ?c49 ?k49 ?a50 ?l50 ?c50 ?k50 ?a51 ?l51 ?c51 ?k51 ?a52 ?l52 ?c52 ?k52 ?a53 ?l53 ?c53 ?k53 ?a54 ?l54 ?c54 ?k54 ?a55 ?l55 ?c55 ?k55 ?a56 ?l56 ?c56 ?k56 ?a57 ?l57 ?c57 ?k57 ?a58 ?l58 ?c58 ?k58 ?a59 ?l59 ?c59 ?k59 ?a60 ?l60 ?c60 ?k60 ?a61 ?l61 ?c61 ?k61 ?a62 ?l62 ?c62 ?k62 ?a63 ?l63 ?c63 ?k63 ?a64 ?l64 ?c64 ?k64 ?z_ValueError ?z_bool ?z_enumerate ?z_int ?z_isinstance ?z_len ?z_list ?z_max ?z_min ?z_ord ?z_range ?z_reversed ?z_str ?z_sum ?z_tuple ?q_PERCENT ?q_NAME_LIMIT ?q_NUMBER_LIMIT ?q_TEXT_LIMIT ?q_ROW_LIMIT ?q_TOKEN_LIMIT ?q_INDENT_LIMIT ?q_KEYWORDS ?l_KEYWORDS ?v_KEYWORDS ?w_KEYWORDS ?q_SIGNS ?l_SIGNS ?v_SIGNS ?w_SIGNS ?q_OPENING ?l_OPENING ?v_OPENING ?w_OPENING ?q_ESCAPES ?l_ESCAPES ?w_ESCAPES ?eESCAPES0 ?eESCAPES1 ?eESCAPES2 ?eESCAPES3 ?q_CLOSING ?l_CLOSING ?w_CLOSING ?eCLOSING0 ?eCLOSING1 ?eCLOSING2 ?gS ?pgS ?hdS ?poS ?saS ?mkS ?kcS ?n_marks ?n_brackets ?n_indents ?n_many ?n_behind ?g_0 ?o_0 ?x_0 ?sa_0 ?xb_0 ?ty_0 ?kc_0 ?cl_0 ?hg_0 ?hk_0 ?hd_0 ?ha_0 ?hm_0 ?sv_0 ?nl_0 ?nc_0 ?g_1 ?o_1 ?r_1 ?x_1 ?sa_1 ?xb_1 ?ty_1 ?kc_1 ?cl_1 ?hg_1 ?hk_1 ?hd_1 ?ha_1 ?hm_1 ?sv_1 ?nl_1 ?nc_1 ?g_2 ?o_2 ?r_2 ?x_2 ?sa_2 ?xb_2 ?ty_2 ?kc_2 ?cl_2 ?hg_2 ?hk_2 ?hd_2 ?ha_2 ?hm_2 ?sv_2 ?nl_2 ?nc_2 ?g_3 ?o_3 ?r_3 ?x_3 ?sa_3 ?xb_3 ?ty_3 ?kc_3 ?cl_3 ?hg_3 ?hk_3 ?hd_3 ?ha_3 ?hm_3 ?sv_3 ?nl_3 ?nc_3 ?g_4 ?o_4 ?r_4 ?x_4 ?sa_4 ?xb_4 ?ty_4 ?kc_4 ?cl_4 ?hg_4 ?hk_4 ?hd_4 ?ha_4 ?hm_4 ?sv_4 ?nl_4 ?nc_4 ?g_5 ?o_5 ?r_5 ?x_5 ?sa_5 ?xb_5 ?ty_5 ?kc_5 ?cl_5 ?hg_5 ?hk_5 ?hd_5 ?ha_5 ?hm_5 ?sv_5 ?nl_5 ?nc_5 ?g_6 ?o_6 ?x_6 ?sa_6 ?xb_6 ?ty_6 ?kc_6 ?cl_6 ?hg_6 ?hk_6 ?hd_6 ?ha_6 ?hm_6 ?sv_6 ?nl_6 ?nc_6 ?g_7 ?o_7 ?x_7 ?sa_7 ?xb_7 ?ty_7 ?kc_7 ?cl_7 ?hg_7 ?hk_7 ?hd_7 ?ha_7 ?hm_7 ?sv_7 ?nl_7 ?nc_7 ?g_O ?o_O ?x_O ?sa_O ?xb_O ?ty_O ?kc_O ?cl_O ?hg_O ?hk_O ?hd_O ?ha_O ?hm_O ?sv_O ?g_C ?o_C ?x_C ?sa_C ?xb_C ?ty_C ?kc_C ?cl_C ?hg_C ?hk_C ?hd_C ?ha_C ?hm_C ?sv_C ?g_P ?o_P ?x_P ?sa_P ?xb_P ?ty_P ?kc_P ?cl_P ?hg_P ?hk_P ?hd_P ?ha_P ?hm_P ?sv_P ?g_U ?o_U ?x_U ?sa_U ?xb_U ?ty_U ?kc_U ?cl_U ?hg_U ?hk_U ?hd_U ?ha_U ?hm_U ?sv_U ?g_V ?o_V ?x_V ?sa_V ?xb_V ?ty_V ?kc_V ?cl_V ?hg_V ?hk_V ?hd_V ?ha_V ?hm_V ?sv_V ?g_F ?o_F ?x_F ?sa_F ?xb_F ?ty_F ?kc_F ?cl_F ?hg_F ?hk_F ?hd_F ?ha_F ?hm_F ?sv_F ?ne_0_1 ?ss_0_1 ?ne_0_2 ?ss_0_2 ?ne_0_3 ?ss_0_3 ?ne_0_4 ?ss_0_4 ?ne_0_5 ?ss_0_5 ?ne_0_6 ?ss_0_6 ?ne_0_7 ?ss_0_7 ?ne_0_L ?ss_0_L ?ne_0_F ?ss_0_F ?ne_0_V ?ss_0_V ?ne_1_0 ?ss_1_0 ?ne_1_2 ?ss_1_2 ?ne_1_3 ?ss_1_3 ?ne_1_4 ?ss_1_4 ?ne_1_5 ?ss_1_5 ?ne_1_6 ?ss_1_6 ?ne_1_7 ?ss_1_7 ?ne_1_L ?ss_1_L ?ne_1_F ?ss_1_F ?ne_1_V ?ss_1_V ?ne_2_0 ?ss_2_0 ?ne_2_1 ?ss_2_1 ?ne_2_3 ?ss_2_3 ?ne_2_4 ?ss_2_4 ?ne_2_5 ?ss_2_5 ?ne_2_6 ?ss_2_6 ?ne_2_7 ?ss_2_7 ?ne_2_L ?ss_2_L ?ne_2_F ?ss_2_F ?ne_2_V ?ss_2_V ?ne_3_0 ?ss_3_0 ?ne_3_1 ?ss_3_1 ?ne_3_2 ?ss_3_2 ?ne_3_4 ?ss_3_4 ?ne_3_5 ?ss_3_5 ?ne_3_6 ?ss_3_6 ?ne_3_7 ?ss_3_7 ?ne_3_L ?ss_3_L ?ne_3_F ?ss_3_F ?ne_3_V ?ss_3_V ?ne_4_0 ?ss_4_0 ?ne_4_1 ?ss_4_1 ?ne_4_2 ?ss_4_2 ?ne_4_3 ?ss_4_3 ?ne_4_5 ?ss_4_5 ?ne_4_6 ?ss_4_6 ?ne_4_7 ?ss_4_7 ?ne_4_L ?ss_4_L ?ne_4_F ?ss_4_F ?ne_4_V ?ss_4_V ?ne_5_0 ?ss_5_0 ?ne_5_1 ?ss_5_1 ?ne_5_2 ?ss_5_2 ?ne_5_3 ?ss_5_3 ?ne_5_4 ?ss_5_4 ?ne_5_6 ?ss_5_6 ?ne_5_7 ?ss_5_7 ?ne_5_L ?ss_5_L ?ne_5_F ?ss_5_F ?ne_5_V ?ss_5_V ?ne_6_0 ?ss_6_0 ?ne_6_1 ?ss_6_1 ?ne_6_2 ?ss_6_2 ?ne_6_3 ?ss_6_3 ?ne_6_4 ?ss_6_4 ?ne_6_5 ?ss_6_5 ?ne_6_7 ?ss_6_7 ?ne_6_L ?ss_6_L ?ne_6_F ?ss_6_F ?ne_6_V ?ss_6_V ?ne_7_0 ?ss_7_0 ?ne_7_1 ?ss_7_1 ?ne_7_2 ?ss_7_2 ?ne_7_3 ?ss_7_3 ?ne_7_4 ?ss_7_4 ?ne_7_5 ?ss_7_5 ?ne_7_6 ?ss_7_6 ?ne_7_L ?ss_7_L ?ne_7_F ?ss_7_F ?ne_7_V ?ss_7_V ?ne_O_L ?ss_O_L ?ne_O_0 ?ss_O_0 ?f_O ?ne_C_L ?ss_C_L ?ne_C_0 ?ss_C_0 ?f_C ?ne_P_L ?ss_P_L ?ne_P_0 ?ss_P_0 ?f_P ?ne_U_L ?ss_U_L ?ne_U_0 ?ss_U_0 ?f_U ?ne_V_L ?ss_V_L ?ne_V_0 ?ss_V_0 ?f_V ?f_F ?f_F2 ?ne_O_V ?ss_O_V ?ne_U_O ?ss_U_O ?ne_V_C ?ss_V_C ?hn ?ht ?g_L ?ty_L ?cl_L ?xb_L ?hd_L
    (case gS => k_is)
    (case g_0 => k_is)
    (case g_1 => k_is)
    (case g_2 => k_is)
    (case g_3 => k_is)
    (case g_4 => k_is)
    (case g_5 => k_is)
    (case g_6 => k_is)
    (case g_7 => k_is)
    (case g_O => k_is)
    (case g_C => k_is)
    (case g_P => k_is)
    (case g_U => k_is)
    (case g_V => k_is)
    (case g_F => k_is)
    (case g_L => k_is)
    (case a1_0 => k_is)
    (case a1_1 => k_is)
    (case a1_2 => k_is)
    (case a1_3 => k_is)
    (case a1_4 => k_is)
    (case a1_5 => k_is)
    (case a1_6 => k_is)
    (case a1_7 => k_is)
    (case i1 => k_is)
    (case l1 => k_is)
    (case c1 => k_is)
    (case k1 => k_is)
    (case a2 => k_is)
    (case i2 => k_is)
    (case l2 => k_is)
    (case c2 => k_is)
    (case k2 => k_is)
    (case a3 => k_is)
    (case i3 => k_is)
    (case l3 => k_is)
    (case c3 => k_is)
    (case k3 => k_is)
    (case a4 => k_is)
    (case i4 => k_is)
    (case l4 => k_is)
    (case c4 => k_is)
    (case k4 => k_is)
    (case a5 => k_is)
    (case i5 => k_is)
    (case l5 => k_is)
    (case c5 => k_is)
    (case k5 => k_is)
    (case a6 => k_is)
    (case i6 => k_is)
    (case l6 => k_is)
    (case c6 => k_is)
    (case k6 => k_is)
    (case a7 => k_is)
    (case i7 => k_is)
    (case l7 => k_is)
    (case c7 => k_is)
    (case k7 => k_is)
    (case a8 => k_is)
    (case l8 => k_is)
    (case c8 => k_is)
    (case k8 => k_is)
    (case a9 => k_is)
    (case l9 => k_is)
    (case c9 => k_is)
    (case k9 => k_is)
    (case a10 => k_is)
    (case l10 => k_is)
    (case c10 => k_is)
    (case k10 => k_is)
    (case a11 => k_is)
    (case l11 => k_is)
    (case c11 => k_is)
    (case k11 => k_is)
    (case a12 => k_is)
    (case l12 => k_is)
    (case c12 => k_is)
    (case k12 => k_is)
    (case a13 => k_is)
    (case l13 => k_is)
    (case c13 => k_is)
    (case k13 => k_is)
    (case a14 => k_is)
    (case l14 => k_is)
    (case c14 => k_is)
    (case k14 => k_is)
    (case a15 => k_is)
    (case l15 => k_is)
    (case c15 => k_is)
    (case k15 => k_is)
    (case a16 => k_is)
    (case l16 => k_is)
    (case c16 => k_is)
    (case k16 => k_is)
    (case a17 => k_is)
    (case l17 => k_is)
    (case c17 => k_is)
    (case k17 => k_is)
    (case a18 => k_is)
    (case i18 => k_is)
    (case l18 => k_is)
    (case c18 => k_is)
    (case k18 => k_is)
    (case a19 => k_is)
    (case i19 => k_is)
    (case l19 => k_is)
    (case c19 => k_is)
    (case k19 => k_is)
    (case a20 => k_is)
    (case i20 => k_is)
    (case l20 => k_is)
    (case c20 => k_is)
    (case k20 => k_is)
    (case a21 => k_is)
    (case i21 => k_is)
    (case l21 => k_is)
    (case c21 => k_is)
    (case k21 => k_is)
    (case a22 => k_is)
    (case i22 => k_is)
    (case l22 => k_is)
    (case c22 => k_is)
    (case k22 => k_is)
    (case a23 => k_is)
    (case i23 => k_is)
    (case l23 => k_is)
    (case c23 => k_is)
    (case k23 => k_is)
    (case a24 => k_is)
    (case i24 => k_is)
    (case l24 => k_is)
    (case c24 => k_is)
    (case k24 => k_is)
    (case a25 => k_is)
    (case l25 => k_is)
    (case c25 => k_is)
    (case k25 => k_is)
    (case a26 => k_is)
    (case l26 => k_is)
    (case c26 => k_is)
    (case k26 => k_is)
    (case a27 => k_is)
    (case l27 => k_is)
    (case c27 => k_is)
    (case k27 => k_is)
    (case a28 => k_is)
    (case l28 => k_is)
    (case c28 => k_is)
    (case k28 => k_is)
    (case a29 => k_is)
    (case l29 => k_is)
    (case c29 => k_is)
    (case k29 => k_is)
    (case a30 => k_is)
    (case l30 => k_is)
    (case c30 => k_is)
    (case k30 => k_is)
    (case a31 => k_is)
    (case l31 => k_is)
    (case c31 => k_is)
    (case k31 => k_is)
    (case a32 => k_is)
    (case l32 => k_is)
    (case c32 => k_is)
    (case k32 => k_is)
    (case a33 => k_is)
    (case l33 => k_is)
    (case c33 => k_is)
    (case k33 => k_is)
    (case a34 => k_is)
    (case l34 => k_is)
    (case c34 => k_is)
    (case k34 => k_is)
    (case a35 => k_is)
    (case l35 => k_is)
    (case c35 => k_is)
    (case k35 => k_is)
    (case a36 => k_is)
    (case l36 => k_is)
    (case c36 => k_is)
    (case k36 => k_is)
    (case a37 => k_is)
    (case l37 => k_is)
    (case c37 => k_is)
    (case k37 => k_is)
    (case a38 => k_is)
    (case l38 => k_is)
    (case c38 => k_is)
    (case k38 => k_is)
    (case a39 => k_is)
    (case l39 => k_is)
    (case c39 => k_is)
    (case k39 => k_is)
    (case a40 => k_is)
    (case l40 => k_is)
    (case c40 => k_is)
    (case k40 => k_is)
    (case a41 => k_is)
    (case l41 => k_is)
    (case c41 => k_is)
    (case k41 => k_is)
    (case a42 => k_is)
    (case l42 => k_is)
    (case c42 => k_is)
    (case k42 => k_is)
    (case a43 => k_is)
    (case l43 => k_is)
    (case c43 => k_is)
    (case k43 => k_is)
    (case a44 => k_is)
    (case l44 => k_is)
    (case c44 => k_is)
    (case k44 => k_is)
    (case a45 => k_is)
    (case l45 => k_is)
    (case c45 => k_is)
    (case k45 => k_is)
    (case a46 => k_is)
    (case l46 => k_is)
    (case c46 => k_is)
    (case k46 => k_is)
    (case a47 => k_is)
    (case l47 => k_is)
    (case c47 => k_is)
    (case k47 => k_is)
    (case a48 => k_is)
    (case l48 => k_is)
    (case c48 => k_is)
    (case k48 => k_is)
    (case a49 => k_is)
    (case l49 => k_is)
    (case c49 => k_is)
    (case k49 => k_is)
    (case a50 => k_is)
    (case l50 => k_is)
    (case c50 => k_is)
    (case k50 => k_is)
    (case a51 => k_is)
    (case l51 => k_is)
    (case c51 => k_is)
    (case k51 => k_is)
    (case a52 => k_is)
    (case l52 => k_is)
    (case c52 => k_is)
    (case k52 => k_is)
    (case a53 => k_is)
    (case l53 => k_is)
    (case c53 => k_is)
    (case k53 => k_is)
    (case a54 => k_is)
    (case l54 => k_is)
    (case c54 => k_is)
    (case k54 => k_is)
    (case a55 => k_is)
    (case l55 => k_is)
    (case c55 => k_is)
    (case k55 => k_is)
    (case a56 => k_is)
    (case l56 => k_is)
    (case c56 => k_is)
    (case k56 => k_is)
    (case a57 => k_is)
    (case l57 => k_is)
    (case c57 => k_is)
    (case k57 => k_is)
    (case a58 => k_is)
    (case l58 => k_is)
    (case c58 => k_is)
    (case k58 => k_is)
    (case a59 => k_is)
    (case l59 => k_is)
    (case c59 => k_is)
    (case k59 => k_is)
    (case a60 => k_is)
    (case l60 => k_is)
    (case c60 => k_is)
    (case k60 => k_is)
    (case a61 => k_is)
    (case l61 => k_is)
    (case c61 => k_is)
    (case k61 => k_is)
    (case a62 => k_is)
    (case l62 => k_is)
    (case c62 => k_is)
    (case k62 => k_is)
    (case a63 => k_is)
    (case l63 => k_is)
    (case c63 => k_is)
    (case k63 => k_is)
    (case a64 => k_is)
    (case l64 => k_is)
    (case c64 => k_is)
    (case k64 => k_is)
    (case z_ValueError => k_is)
    (case z_bool => k_is)
    (case z_enumerate => k_is)
    (case z_int => k_is)
    (case z_isinstance => k_is)
    (case z_len => k_is)
    (case z_list => k_is)
    (case z_max => k_is)
    (case z_min => k_is)
    (case z_ord => k_is)
    (case z_range => k_is)
    (case z_reversed => k_is)
    (case z_str => k_is)
    (case z_sum => k_is)
    (case z_tuple => k_is)
    (case q_PERCENT => k_is)
    (case q_NAME_LIMIT => k_is)
    (case q_NUMBER_LIMIT => k_is)
    (case q_TEXT_LIMIT => k_is)
    (case q_ROW_LIMIT => k_is)
    (case q_TOKEN_LIMIT => k_is)
    (case q_INDENT_LIMIT => k_is)
    (case q_KEYWORDS => k_is)
    (case l_KEYWORDS => k_is)
    (case v_KEYWORDS => rfl)
    (case w_KEYWORDS => decide)
    (case q_SIGNS => k_is)
    (case l_SIGNS => k_is)
    (case v_SIGNS => rfl)
    (case w_SIGNS => decide)
    (case q_OPENING => k_is)
    (case l_OPENING => k_is)
    (case v_OPENING => rfl)
    (case w_OPENING => decide)
    (case q_ESCAPES => k_is)
    (case l_ESCAPES => k_is)
    (case w_ESCAPES => rfl)
    (case eESCAPES0 => rfl)
    (case eESCAPES1 => rfl)
    (case eESCAPES2 => rfl)
    (case eESCAPES3 => rfl)
    (case q_CLOSING => k_is)
    (case l_CLOSING => k_is)
    (case w_CLOSING => rfl)
    (case eCLOSING0 => rfl)
    (case eCLOSING1 => rfl)
    (case eCLOSING2 => rfl)
    (case pgS => k_is)
    (case hdS => k_is)
    (case poS => k_is)
    (case saS => k_is)
    (case mkS => k_is)
    (case kcS => k_is)
    (case n_marks => k_is)
    (case n_brackets => k_is)
    (case n_indents => k_is)
    (case n_many => k_is)
    (case n_behind => k_is)
    (case o_0 => k_is)
    (case x_0 => first | rfl | decide +kernel)
    (case sa_0 => k_is)
    (case xb_0 => k_is)
    (case ty_0 => k_is)
    (case kc_0 => k_is)
    (case cl_0 => k_is)
    (case hg_0 => k_is)
    (case hk_0 => k_is)
    (case hd_0 => k_is)
    (case ha_0 => k_is)
    (case hm_0 => k_is)
    (case sv_0 => k_is)
    (case nl_0 => k_is)
    (case nc_0 => k_is)
    (case o_1 => k_is)
    (case r_1 => rfl)
    (case x_1 => first | rfl | decide +kernel)
    (case sa_1 => k_is)
    (case xb_1 => k_is)
    (case ty_1 => k_is)
    (case kc_1 => k_is)
    (case cl_1 => k_is)
    (case hg_1 => k_is)
    (case hk_1 => k_is)
    (case hd_1 => k_is)
    (case ha_1 => k_is)
    (case hm_1 => k_is)
    (case sv_1 => k_is)
    (case nl_1 => k_is)
    (case nc_1 => k_is)
    (case o_2 => k_is)
    (case r_2 => rfl)
    (case x_2 => first | rfl | decide +kernel)
    (case sa_2 => k_is)
    (case xb_2 => k_is)
    (case ty_2 => k_is)
    (case kc_2 => k_is)
    (case cl_2 => k_is)
    (case hg_2 => k_is)
    (case hk_2 => k_is)
    (case hd_2 => k_is)
    (case ha_2 => k_is)
    (case hm_2 => k_is)
    (case sv_2 => k_is)
    (case nl_2 => k_is)
    (case nc_2 => k_is)
    (case o_3 => k_is)
    (case r_3 => rfl)
    (case x_3 => first | rfl | decide +kernel)
    (case sa_3 => k_is)
    (case xb_3 => k_is)
    (case ty_3 => k_is)
    (case kc_3 => k_is)
    (case cl_3 => k_is)
    (case hg_3 => k_is)
    (case hk_3 => k_is)
    (case hd_3 => k_is)
    (case ha_3 => k_is)
    (case hm_3 => k_is)
    (case sv_3 => k_is)
    (case nl_3 => k_is)
    (case nc_3 => k_is)
    (case o_4 => k_is)
    (case r_4 => rfl)
    (case x_4 => first | rfl | decide +kernel)
    (case sa_4 => k_is)
    (case xb_4 => k_is)
    (case ty_4 => k_is)
    (case kc_4 => k_is)
    (case cl_4 => k_is)
    (case hg_4 => k_is)
    (case hk_4 => k_is)
    (case hd_4 => k_is)
    (case ha_4 => k_is)
    (case hm_4 => k_is)
    (case sv_4 => k_is)
    (case nl_4 => k_is)
    (case nc_4 => k_is)
    (case o_5 => k_is)
    (case r_5 => rfl)
    (case x_5 => first | rfl | decide +kernel)
    (case sa_5 => k_is)
    (case xb_5 => k_is)
    (case ty_5 => k_is)
    (case kc_5 => k_is)
    (case cl_5 => k_is)
    (case hg_5 => k_is)
    (case hk_5 => k_is)
    (case hd_5 => k_is)
    (case ha_5 => k_is)
    (case hm_5 => k_is)
    (case sv_5 => k_is)
    (case nl_5 => k_is)
    (case nc_5 => k_is)
    (case o_6 => k_is)
    (case x_6 => first | rfl | decide +kernel)
    (case sa_6 => k_is)
    (case xb_6 => k_is)
    (case ty_6 => k_is)
    (case kc_6 => k_is)
    (case cl_6 => k_is)
    (case hg_6 => k_is)
    (case hk_6 => k_is)
    (case hd_6 => k_is)
    (case ha_6 => k_is)
    (case hm_6 => k_is)
    (case sv_6 => k_is)
    (case nl_6 => k_is)
    (case nc_6 => k_is)
    (case o_7 => k_is)
    (case x_7 => first | rfl | decide +kernel)
    (case sa_7 => k_is)
    (case xb_7 => k_is)
    (case ty_7 => k_is)
    (case kc_7 => k_is)
    (case cl_7 => k_is)
    (case hg_7 => k_is)
    (case hk_7 => k_is)
    (case hd_7 => k_is)
    (case ha_7 => k_is)
    (case hm_7 => k_is)
    (case sv_7 => k_is)
    (case nl_7 => k_is)
    (case nc_7 => k_is)
    (case o_O => k_is)
    (case x_O => first | rfl | decide +kernel)
    (case sa_O => k_is)
    (case xb_O => k_is)
    (case ty_O => k_is)
    (case kc_O => k_is)
    (case cl_O => k_is)
    (case hg_O => k_is)
    (case hk_O => k_is)
    (case hd_O => k_is)
    (case ha_O => k_is)
    (case hm_O => k_is)
    (case sv_O => k_is)
    (case o_C => k_is)
    (case x_C => first | rfl | decide +kernel)
    (case sa_C => k_is)
    (case xb_C => k_is)
    (case ty_C => k_is)
    (case kc_C => k_is)
    (case cl_C => k_is)
    (case hg_C => k_is)
    (case hk_C => k_is)
    (case hd_C => k_is)
    (case ha_C => k_is)
    (case hm_C => k_is)
    (case sv_C => k_is)
    (case o_P => k_is)
    (case x_P => first | rfl | decide +kernel)
    (case sa_P => k_is)
    (case xb_P => k_is)
    (case ty_P => k_is)
    (case kc_P => k_is)
    (case cl_P => k_is)
    (case hg_P => k_is)
    (case hk_P => k_is)
    (case hd_P => k_is)
    (case ha_P => k_is)
    (case hm_P => k_is)
    (case sv_P => k_is)
    (case o_U => k_is)
    (case x_U => first | rfl | decide +kernel)
    (case sa_U => k_is)
    (case xb_U => k_is)
    (case ty_U => k_is)
    (case kc_U => k_is)
    (case cl_U => k_is)
    (case hg_U => k_is)
    (case hk_U => k_is)
    (case hd_U => k_is)
    (case ha_U => k_is)
    (case hm_U => k_is)
    (case sv_U => k_is)
    (case o_V => k_is)
    (case x_V => first | rfl | decide +kernel)
    (case sa_V => k_is)
    (case xb_V => k_is)
    (case ty_V => k_is)
    (case kc_V => k_is)
    (case cl_V => k_is)
    (case hg_V => k_is)
    (case hk_V => k_is)
    (case hd_V => k_is)
    (case ha_V => k_is)
    (case hm_V => k_is)
    (case sv_V => k_is)
    (case o_F => k_is)
    (case x_F => first | rfl | decide +kernel)
    (case sa_F => k_is)
    (case xb_F => k_is)
    (case ty_F => k_is)
    (case kc_F => k_is)
    (case cl_F => k_is)
    (case hg_F => k_is)
    (case hk_F => k_is)
    (case hd_F => k_is)
    (case ha_F => k_is)
    (case hm_F => k_is)
    (case sv_F => k_is)
    (case ne_0_1 => rfl)
    (case ss_0_1 => k_is)
    (case ne_0_2 => rfl)
    (case ss_0_2 => k_is)
    (case ne_0_3 => rfl)
    (case ss_0_3 => k_is)
    (case ne_0_4 => rfl)
    (case ss_0_4 => k_is)
    (case ne_0_5 => rfl)
    (case ss_0_5 => k_is)
    (case ne_0_6 => rfl)
    (case ss_0_6 => k_is)
    (case ne_0_7 => rfl)
    (case ss_0_7 => k_is)
    (case ne_0_L => rfl)
    (case ss_0_L => k_is)
    (case ne_0_F => rfl)
    (case ss_0_F => k_is)
    (case ne_0_V => rfl)
    (case ss_0_V => k_is)
    (case ne_1_0 => rfl)
    (case ss_1_0 => k_is)
    (case ne_1_2 => rfl)
    (case ss_1_2 => k_is)
    (case ne_1_3 => rfl)
    (case ss_1_3 => k_is)
    (case ne_1_4 => rfl)
    (case ss_1_4 => k_is)
    (case ne_1_5 => rfl)
    (case ss_1_5 => k_is)
    (case ne_1_6 => rfl)
    (case ss_1_6 => k_is)
    (case ne_1_7 => rfl)
    (case ss_1_7 => k_is)
    (case ne_1_L => rfl)
    (case ss_1_L => k_is)
    (case ne_1_F => rfl)
    (case ss_1_F => k_is)
    (case ne_1_V => rfl)
    (case ss_1_V => k_is)
    (case ne_2_0 => rfl)
    (case ss_2_0 => k_is)
    (case ne_2_1 => rfl)
    (case ss_2_1 => k_is)
    (case ne_2_3 => rfl)
    (case ss_2_3 => k_is)
    (case ne_2_4 => rfl)
    (case ss_2_4 => k_is)
    (case ne_2_5 => rfl)
    (case ss_2_5 => k_is)
    (case ne_2_6 => rfl)
    (case ss_2_6 => k_is)
    (case ne_2_7 => rfl)
    (case ss_2_7 => k_is)
    (case ne_2_L => rfl)
    (case ss_2_L => k_is)
    (case ne_2_F => rfl)
    (case ss_2_F => k_is)
    (case ne_2_V => rfl)
    (case ss_2_V => k_is)
    (case ne_3_0 => rfl)
    (case ss_3_0 => k_is)
    (case ne_3_1 => rfl)
    (case ss_3_1 => k_is)
    (case ne_3_2 => rfl)
    (case ss_3_2 => k_is)
    (case ne_3_4 => rfl)
    (case ss_3_4 => k_is)
    (case ne_3_5 => rfl)
    (case ss_3_5 => k_is)
    (case ne_3_6 => rfl)
    (case ss_3_6 => k_is)
    (case ne_3_7 => rfl)
    (case ss_3_7 => k_is)
    (case ne_3_L => rfl)
    (case ss_3_L => k_is)
    (case ne_3_F => rfl)
    (case ss_3_F => k_is)
    (case ne_3_V => rfl)
    (case ss_3_V => k_is)
    (case ne_4_0 => rfl)
    (case ss_4_0 => k_is)
    (case ne_4_1 => rfl)
    (case ss_4_1 => k_is)
    (case ne_4_2 => rfl)
    (case ss_4_2 => k_is)
    (case ne_4_3 => rfl)
    (case ss_4_3 => k_is)
    (case ne_4_5 => rfl)
    (case ss_4_5 => k_is)
    (case ne_4_6 => rfl)
    (case ss_4_6 => k_is)
    (case ne_4_7 => rfl)
    (case ss_4_7 => k_is)
    (case ne_4_L => rfl)
    (case ss_4_L => k_is)
    (case ne_4_F => rfl)
    (case ss_4_F => k_is)
    (case ne_4_V => rfl)
    (case ss_4_V => k_is)
    (case ne_5_0 => rfl)
    (case ss_5_0 => k_is)
    (case ne_5_1 => rfl)
    (case ss_5_1 => k_is)
    (case ne_5_2 => rfl)
    (case ss_5_2 => k_is)
    (case ne_5_3 => rfl)
    (case ss_5_3 => k_is)
    (case ne_5_4 => rfl)
    (case ss_5_4 => k_is)
    (case ne_5_6 => rfl)
    (case ss_5_6 => k_is)
    (case ne_5_7 => rfl)
    (case ss_5_7 => k_is)
    (case ne_5_L => rfl)
    (case ss_5_L => k_is)
    (case ne_5_F => rfl)
    (case ss_5_F => k_is)
    (case ne_5_V => rfl)
    (case ss_5_V => k_is)
    (case ne_6_0 => rfl)
    (case ss_6_0 => k_is)
    (case ne_6_1 => rfl)
    (case ss_6_1 => k_is)
    (case ne_6_2 => rfl)
    (case ss_6_2 => k_is)
    (case ne_6_3 => rfl)
    (case ss_6_3 => k_is)
    (case ne_6_4 => rfl)
    (case ss_6_4 => k_is)
    (case ne_6_5 => rfl)
    (case ss_6_5 => k_is)
    (case ne_6_7 => rfl)
    (case ss_6_7 => k_is)
    (case ne_6_L => rfl)
    (case ss_6_L => k_is)
    (case ne_6_F => rfl)
    (case ss_6_F => k_is)
    (case ne_6_V => rfl)
    (case ss_6_V => k_is)
    (case ne_7_0 => rfl)
    (case ss_7_0 => k_is)
    (case ne_7_1 => rfl)
    (case ss_7_1 => k_is)
    (case ne_7_2 => rfl)
    (case ss_7_2 => k_is)
    (case ne_7_3 => rfl)
    (case ss_7_3 => k_is)
    (case ne_7_4 => rfl)
    (case ss_7_4 => k_is)
    (case ne_7_5 => rfl)
    (case ss_7_5 => k_is)
    (case ne_7_6 => rfl)
    (case ss_7_6 => k_is)
    (case ne_7_L => rfl)
    (case ss_7_L => k_is)
    (case ne_7_F => rfl)
    (case ss_7_F => k_is)
    (case ne_7_V => rfl)
    (case ss_7_V => k_is)
    (case ne_O_L => rfl)
    (case ss_O_L => k_is)
    (case ne_O_0 => rfl)
    (case ss_O_0 => k_is)
    (case f_O => k_is)
    (case ne_C_L => rfl)
    (case ss_C_L => k_is)
    (case ne_C_0 => rfl)
    (case ss_C_0 => k_is)
    (case f_C => k_is)
    (case ne_P_L => rfl)
    (case ss_P_L => k_is)
    (case ne_P_0 => rfl)
    (case ss_P_0 => k_is)
    (case f_P => k_is)
    (case ne_U_L => rfl)
    (case ss_U_L => k_is)
    (case ne_U_0 => rfl)
    (case ss_U_0 => k_is)
    (case f_U => k_is)
    (case ne_V_L => rfl)
    (case ss_V_L => k_is)
    (case ne_V_0 => rfl)
    (case ss_V_0 => k_is)
    (case f_V => k_is)
    (case f_F => k_is)
    (case f_F2 => k_is)
    (case ne_O_V => rfl)
    (case ss_O_V => k_is)
    (case ne_U_O => rfl)
    (case ss_U_O => k_is)
    (case ne_V_C => rfl)
    (case ss_V_C => k_is)
    (case hn => k_is)
    (case ht => k_is)
    (case ty_L => k_is)
    (case cl_L => k_is)
    (case xb_L => k_is)
    (case hd_L => k_is)
