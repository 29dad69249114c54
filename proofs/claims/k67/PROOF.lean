import PyProof.Rows.All
import Wide.All
import OpenK.AllK
import Wide.FinOn
import PySem.Challenge.RW_eachcut_k67_whole_places_and_worths_by_c
import HandS.ForMost
import HandS.Evl
import HandS.Style
import HandS.Zip
import HandS.IsInst
import HandS.Conv
import HandS.SortRule
import HandS.TupAny
import HandS.TupLe
import HandS.SetKeys
import HandS.Flow
import HandS.Small
import HandS.RaiseMore
import HandS.Wide
import HandS.Walk
import KE.KUnpackStar
import KE.GoesEnum
import HandS.SortKw
import HandS.SortInts
import HandS.Ends
import KE.DataEq
import KE.KRevSl
import HandS.DictComp
import HandS.RevRange
import HandS.Deep
import PyProof.SeqIndex
import HandS.More
import KE.KDictPairs
import HandS.Text
import KE.DataMinMax
import PyProof.FString5
import HandS.SetFor
import KE.KEqDict
import HandS.TryOnly
import PyProof.P3In
import HandS.TupMul
import HandS.SetTxt0
import HandS.Strs
import KE.KSortTupUse
import PySem.Str
import HandS.DictTup
import PyProof.DictUpdate
set_option Elab.async false
set_option linter.all false
set_option maxRecDepth 100000
set_option maxHeartbeats 4000000
/-! A layer over HandS: what an expression, a test, an argument list, a block comes to, from a heap that is known in part. -/
namespace Y
open PySem PySem.Spec PyProof.Rows L2 Evl
section
variable {X : Cx} {σ : L2.St} {H H' : Hp} {v w x y z : V} {e a b c f : Expr} {i j k : Nat} {K : PySem.W.Frag}

/-! ### readings that every expression has -/
def semE (X : Cx) (e : Expr) : TE := fun σ H Q => ∀ (pins : List (Addr × Obj)) (s : Shared), Inv X pins σ H s → wpAny (model X.prog X.w) X.A (eval e X.env) (EP X pins σ Q) X.xe s
theorem pe_sem : PE X e (semE X e) := ⟨fun pins s _ _ _ I h => h pins s I⟩
theorem sem_of {te : TE} (h : PE X e te) {Q : VK} (q : te σ H Q) : semE X e σ H Q := fun pins s I => h.run pins s σ H Q I q
theorem sem_mono {Q Q' : VK} (h : semE X e σ H Q) (k : ∀ v H', Q v H' → Q' v H') : semE X e σ H Q' := fun pins s I => thn (h pins s I) fun _ _ ⟨v, H', I', r, q⟩ => ⟨v, H', I', r, k v H' q⟩
def semT (X : Cx) (e : Expr) : TT := fun σ H Q => ∀ (pins : List (Addr × Obj)) (s : Shared), Inv X pins σ H s → wpAny (model X.prog X.w) X.A (isTrue e X.env (eval e X.env)) (TP X pins σ Q) X.xe s
theorem pt_sem : PT X e (semT X e) := ⟨fun pins s _ _ _ I h => h pins s I⟩
theorem semT_of {te : TT} (h : PT X e te) {Q : Bool → Hp → Prop} (q : te σ H Q) : semT X e σ H Q := fun pins s I => h.run pins s σ H Q I q
theorem semT_mono {Q Q' : Bool → Hp → Prop} (h : semT X e σ H Q) (k : ∀ v H', Q v H' → Q' v H') : semT X e σ H Q' := fun pins s I => thn (h pins s I) fun b _ ⟨H', I', q⟩ => ⟨H', I', k b H' q⟩
def semA (X : Cx) (es : List Expr) : TA := fun σ H Q => ∀ (pos : Pos) (pins : List (Addr × Obj)) (s : Shared), Inv X pins σ H s → wpAny (model X.prog X.w) X.A (spliced (backTo pos (starEach es X.env))) (AP X pins σ Q) X.xe s
theorem pa_sem {es : List Expr} : PA X es (semA X es) := ⟨fun pos pins s _ _ _ I h => h pos pins s I⟩
theorem semA_of {es : List Expr} {t : TA} (h : PA X es t) {Q : List V → Hp → Prop} (q : t σ H Q) : semA X es σ H Q := fun pos pins s I => h.run pos pins s σ H Q I q
theorem semA_mono {es : List Expr} {Q Q' : List V → Hp → Prop} (h : semA X es σ H Q) (k : ∀ v H', Q v H' → Q' v H') : semA X es σ H Q' := fun pos pins s I => thn (h pos pins s I) fun _ _ ⟨v, H', I', r, q⟩ => ⟨v, H', I', r, k v H' q⟩
def semS (X : Cx) (ss : List Stmt) : TS := fun D σ H => ∀ (pins : List (Addr × Obj)) (s : Shared), Inv X pins σ H s → wpAny (model X.prog X.w) X.A (execs ss X.env) (SP X pins D) X.xe s
theorem pss_sem {ss : List Stmt} : PSs X ss (semS X ss) := ⟨fun pins s _ _ _ I h => h pins s I⟩
theorem semS_of {ss : List Stmt} {t : TS} (h : PSs X ss t) {D : Ends} (q : t D σ H) : semS X ss D σ H := fun pins s I => h.run pins s σ H D I q

/-! ### expressions -/
/-- e comes to a value of which φ is true, on whatever extends H; what is known stays -/
structure EN (X : Cx) (e : Expr) (σ : L2.St) (H : Hp) (φ : V → Hp → Prop)  : Prop where
  run : ∀ H1, Ex H H1 → semE X e σ H1 fun v H2 => Ex H1 H2 ∧ φ v H2
instance {X : Cx} {e : Expr} {σ : L2.St} {H : Hp} {φ : V → Hp → Prop} : CoeFun (EN X e σ H φ) fun _ => ∀ H1, Ex H H1 → semE X e σ H1 fun v H2 => Ex H1 H2 ∧ φ v H2 := ⟨EN.run⟩
abbrev EV (X : Cx) (e : Expr) (σ : L2.St) (H : Hp) (v : V) : Prop := EN X e σ H fun u _ => u = v
/-- e comes to a value, the known heap to another one -/
structure EM (X : Cx) (e : Expr) (σ : L2.St) (H : Hp) (R : V → Hp → Prop)  : Prop where
  run : ∀ H1, Ex H H1 → semE X e σ H1 fun v H2 => ∃ Hb, Ex Hb H2 ∧ R v Hb
instance {X : Cx} {e : Expr} {σ : L2.St} {H : Hp} {R : V → Hp → Prop} : CoeFun (EM X e σ H R) fun _ => ∀ H1, Ex H H1 → semE X e σ H1 fun v H2 => ∃ Hb, Ex Hb H2 ∧ R v Hb := ⟨EM.run⟩
structure TN (X : Cx) (e : Expr) (σ : L2.St) (H : Hp) (b : Bool)  : Prop where
  run : ∀ H1, Ex H H1 → semT X e σ H1 fun b' H2 => Ex H1 H2 ∧ b' = b
instance {X : Cx} {e : Expr} {σ : L2.St} {H : Hp} {b : Bool} : CoeFun (TN X e σ H b) fun _ => ∀ H1, Ex H H1 → semT X e σ H1 fun b' H2 => Ex H1 H2 ∧ b' = b := ⟨TN.run⟩
/-- a test whose answer is not said -/
structure TD (X : Cx) (e : Expr) (σ : L2.St) (H : Hp) (ψ : Bool → Hp → Prop)  : Prop where
  run : ∀ H1, Ex H H1 → semT X e σ H1 fun b' H2 => Ex H1 H2 ∧ ψ b' H2
instance {X : Cx} {e : Expr} {σ : L2.St} {H : Hp} {ψ : Bool → Hp → Prop} : CoeFun (TD X e σ H ψ) fun _ => ∀ H1, Ex H H1 → semT X e σ H1 fun b' H2 => Ex H1 H2 ∧ ψ b' H2 := ⟨TD.run⟩
structure AM (X : Cx) (es : List Expr) (σ : L2.St) (H : Hp) (R : List V → Hp → Prop)  : Prop where
  run : ∀ H1, Ex H H1 → semA X es σ H1 fun vs H2 => ∃ Hb, Ex Hb H2 ∧ R vs Hb
instance {X : Cx} {es : List Expr} {σ : L2.St} {H : Hp} {R : List V → Hp → Prop} : CoeFun (AM X es σ H R) fun _ => ∀ H1, Ex H H1 → semA X es σ H1 fun vs H2 => ∃ Hb, Ex Hb H2 ∧ R vs Hb := ⟨AM.run⟩
structure AV (X : Cx) (es : List Expr) (σ : L2.St) (H : Hp) (vs : List V)  : Prop where
  run : ∀ H1, Ex H H1 → semA X es σ H1 fun us H2 => Ex H1 H2 ∧ us = vs
instance {X : Cx} {es : List Expr} {σ : L2.St} {H : Hp} {vs : List V} : CoeFun (AV X es σ H vs) fun _ => ∀ H1, Ex H H1 → semA X es σ H1 fun us H2 => Ex H1 H2 ∧ us = vs := ⟨AV.run⟩

theorem EV.of {te : TE} (h : PE X e te) (q : Evl.Ev te σ H v) : EV X e σ H v := ⟨fun H1 e1 => sem_of h (q H1 e1 _ fun H2 e2 => ⟨e2, rfl⟩)⟩
theorem EV.ev (h : EV X e σ H v) : Evl.Ev (semE X e) σ H v := fun H1 e1 Q q => sem_mono (h H1 e1) fun u H2 ⟨e2, hu⟩ => by subst hu; exact q H2 e2
theorem TN.of {te : TT} {b : Bool} (h : PT X e te) (q : Evl.EvT te σ H b) : TN X e σ H b := ⟨fun H1 e1 => semT_of h (q H1 e1 _ fun H2 e2 => ⟨e2, rfl⟩)⟩
theorem TN.ev {b : Bool} (h : TN X e σ H b) : Evl.EvT (semT X e) σ H b := fun H1 e1 Q q => semT_mono (h H1 e1) fun u H2 ⟨e2, hu⟩ => by subst hu; exact q H2 e2
theorem AV.of {es : List Expr} {t : TA} {vs : List V} (h : PA X es t) (q : Evl.EvA t σ H vs) : AV X es σ H vs := ⟨fun H1 e1 => semA_of h (q H1 e1 _ fun H2 e2 => ⟨e2, rfl⟩)⟩
theorem AV.ev {es : List Expr} {vs : List V} (h : AV X es σ H vs) : Evl.EvA (semA X es) σ H vs := fun H1 e1 Q q => semA_mono (h H1 e1) fun u H2 ⟨e2, hu⟩ => by subst hu; exact q H2 e2
theorem EN.mono {φ : V → Hp → Prop} (h : EN X e σ H φ) (x : Ex H H') : EN X e σ H' φ := ⟨fun H1 e1 => h H1 (x.trans e1)⟩
theorem EN.weak {φ ψ : V → Hp → Prop} (h : EN X e σ H φ) (k : ∀ v H2, Ex H H2 → φ v H2 → ψ v H2) : EN X e σ H ψ := ⟨fun H1 e1 => sem_mono (h H1 e1) fun v H2 ⟨e2, q⟩ => ⟨e2, k v H2 (e1.trans e2) q⟩⟩
theorem EV.is (h : EV X e σ H v) (q : v = w) : EV X e σ H w := q ▸ h
theorem TN.is {b b' : Bool} (h : TN X e σ H b) (q : b = b') : TN X e σ H b' := q ▸ h
theorem EM.en {φ R : V → Hp → Prop} (h : EN X e σ H φ) (k : ∀ v H2, Ex H H2 → φ v H2 → R v H2) : EM X e σ H R := ⟨fun H1 e1 => sem_mono (h H1 e1) fun v H2 ⟨e2, q⟩ => ⟨H2, Ex.refl H2, k v H2 (e1.trans e2) q⟩⟩
theorem EM.ev {R : V → Hp → Prop} (h : EV X e σ H v) (k : R v H) : EM X e σ H R := ⟨fun H1 e1 => sem_mono (h H1 e1) fun u H2 ⟨e2, q⟩ => ⟨H, e1.trans e2, by subst q; exact k⟩⟩
theorem EM.of {te : TE} {R : V → Hp → Prop} (h : PE X e te) (q : ∀ H1, Ex H H1 → te σ H1 fun v H2 => ∃ Hb, Ex Hb H2 ∧ R v Hb) : EM X e σ H R := ⟨fun H1 e1 => sem_of h (q H1 e1)⟩
theorem EN.of {te : TE} {φ : V → Hp → Prop} (h : PE X e te) (q : ∀ H1, Ex H H1 → te σ H1 fun v H2 => Ex H1 H2 ∧ φ v H2) : EN X e σ H φ := ⟨fun H1 e1 => sem_of h (q H1 e1)⟩
theorem EM.weak {R R' : V → Hp → Prop} (h : EM X e σ H R) (k : ∀ v Hb, R v Hb → R' v Hb) : EM X e σ H R' := ⟨fun H1 e1 => sem_mono (h H1 e1) fun v _ ⟨Hb, e2, q⟩ => ⟨Hb, e2, k v Hb q⟩⟩
/-- a new object on what is known -/
theorem ex_upd {H H1 : Hp} {p : Addr} {o : HO} (e : Ex H H1) : Ex (upd H p o) (upd H1 p o) := fun b u q => by
  by_cases hb : b = p
  · subst hb; rw [upd_same] at q ⊢; exact q
  · rw [upd_ne hb] at q ⊢; exact e b u q

/-! ### argument lists -/
theorem AM.nil {R : List V → Hp → Prop} (h : R [] H) : AM X [] σ H R := ⟨fun H1 e1 => semA_of pa_nil ⟨H, e1, h⟩⟩
theorem AM.cons {es : List Expr} {R : List V → Hp → Prop} (h : EM X e σ H fun x Hb => AM X es σ Hb fun xs Hc => R (x :: xs) Hc) (hs : starEach (e :: es) X.env = (false, eval e X.env) :: starEach es X.env := by rfl) : AM X (e :: es) σ H R := ⟨fun H1 e1 =>
  semA_of (pa_cons pe_sem pa_sem hs) (sem_mono (h H1 e1) fun x H2 ⟨Hb, e2, q⟩ => semA_mono (q H2 e2) fun xs H3 r => r)⟩
theorem AV.nil : AV X [] σ H [] := AV.of pa_nil ea_nil
theorem AV.cons {es : List Expr} {vs : List V} (h : EV X e σ H v) (r : AV X es σ H vs) (hs : starEach (e :: es) X.env = (false, eval e X.env) :: starEach es X.env := by rfl) : AV X (e :: es) σ H (v :: vs) := AV.of (pa_cons pe_sem pa_sem hs) (ea_cons h.ev r.ev)
theorem AM.av {es : List Expr} {vs : List V} {R : List V → Hp → Prop} (h : AV X es σ H vs) (k : R vs H) : AM X es σ H R := ⟨fun H1 e1 => semA_mono (h H1 e1) fun u H2 ⟨e2, q⟩ => ⟨H, e1.trans e2, by subst q; exact k⟩⟩

/-! ### names, constants, numbers -/
theorem ev_nm (i : Nat) {x : Str} {pos : Pos} (h : σ[i]? = some (some v) := by rfl) (hN : X.N[i]? = some x := by rfl) (hv : Vis X.env.scope x := by first | exact Or.inl rfl | exact Or.inr (Or.inl rfl) | exact Or.inr (Or.inr rfl))
    (hd : (x == ("__debug__" : Str)) = false := by decide) (hcd : (x == ("__classdict__" : Str)) = false := by decide) : EV X (.Name x pos) σ H v := EV.of (pe_var hN hv hd hcd) (Evl.ev_var h)
theorem ev_i {n : Int} {j pos} : EV X (.Constant (.int n) j pos) σ H (.int n) := EV.of pe_int ev_c
theorem ev_b {n : Bool} {j pos} : EV X (.Constant (.bool n) j pos) σ H (.bl n) := EV.of pe_bl ev_c
theorem ev_n {j pos} : EV X (.Constant .none j pos) σ H .non := EV.of pe_non ev_c
theorem ev_s {n : Str} {j pos} : EV X (.Constant (.str n) j pos) σ H (.str n) := EV.of pe_str ev_c
variable {n m : Int} {pos : Pos}
theorem ev_add (ha : EV X a σ H (.int n)) (hb : EV X b σ H (.int m)) : EV X (.BinOp a .Add b pos) σ H (.int (n + m)) := EV.of (pe_op op_add pe_sem pe_sem) (ev_op ha.ev hb.ev rv_I0)
theorem ev_sub (ha : EV X a σ H (.int n)) (hb : EV X b σ H (.int m)) : EV X (.BinOp a .Sub b pos) σ H (.int (n - m)) := EV.of (pe_op op_sub pe_sem pe_sem) (ev_op ha.ev hb.ev rv_I0)
theorem ev_mul (ha : EV X a σ H (.int n)) (hb : EV X b σ H (.int m)) (hc : CMul n m) : EV X (.BinOp a .Mult b pos) σ H (.int (n * m)) := EV.of (pe_op op_mul pe_sem pe_sem) (ev_op ha.ev hb.ev (rv_I hc))
theorem ev_mod (ha : EV X a σ H (.int n)) (hb : EV X b σ H (.int m)) (hc : 0 < m) : EV X (.BinOp a .Mod b pos) σ H (.int (n % m)) := EV.of (pe_op op_mod pe_sem pe_sem) (ev_op ha.ev hb.ev (rv_I hc))
theorem ev_div (ha : EV X a σ H (.int n)) (hb : EV X b σ H (.int m)) (hc : CDivN n m) : EV X (.BinOp a .FloorDiv b pos) σ H (.int (n.fdiv m)) := EV.of (pe_op op_fdivN pe_sem pe_sem) (ev_op ha.ev hb.ev (rv_I hc))
theorem ev_pow (ha : EV X a σ H (.int n)) (hb : EV X b σ H (.int m)) (hc : CPow n m) : EV X (.BinOp a .Pow b pos) σ H (.int (n ^ m.toNat)) := EV.of (pe_op op_pow pe_sem pe_sem) (ev_op ha.ev hb.ev (rv_I hc))
theorem ev_neg (ha : EV X a σ H (.int n)) : EV X (.UnaryOp .USub a pos) σ H (.int (-n)) := EV.of (pe_un un_neg pe_sem) (ev_un ha.ev ru_neg)
/-- int(x) of an int -/
theorem ev_int {p q : Pos} {x : Str} (hx : x = ("int" : Str)) (hg : Gl X "int") (hm : X.mg "int" = none) (ha : EV X a σ H (.int n)) (hs : starEach [a] X.env = (false, eval a X.env) :: starEach [] X.env := by rfl) : EV X (.Call (.Name x p) [a] [] q) σ H (.int n) := by
  subst hx
  exact EV.of (pe_callTy call_int1 hg hm (by decide +kernel) (pa_cons pe_sem pa_nil hs) (he := hs)) (ev_cb (ea_cons ha.ev ea_nil) fun H1 _ Q q => .inl ⟨_, rfl, q H1 (Ex.refl H1)⟩)
/-! ### comparisons, truth -/
variable {bb cc : Bool}
theorem ev_lt (ha : EV X a σ H (.int n)) (hb : EV X b σ H (.int m)) : EV X (.Compare a [.Lt] [b] pos) σ H (.bl (decide (n < m))) := EV.of (pe_cmpR op_lt pe_sem pe_sem (nomark _)) (ev_op ha.ev hb.ev rv_I0)
theorem ev_gt (ha : EV X a σ H (.int n)) (hb : EV X b σ H (.int m)) : EV X (.Compare a [.Gt] [b] pos) σ H (.bl (decide (m < n))) := EV.of (pe_cmpR op_gt pe_sem pe_sem (nomark _)) (ev_op ha.ev hb.ev rv_I0)
theorem ev_ge (ha : EV X a σ H (.int n)) (hb : EV X b σ H (.int m)) : EV X (.Compare a [.GtE] [b] pos) σ H (.bl (decide (m ≤ n))) := EV.of (pe_cmpR op_ge pe_sem pe_sem (nomark _)) (ev_op ha.ev hb.ev rv_I0)
theorem ev_le (ha : EV X a σ H (.int n)) (hb : EV X b σ H (.int m)) : EV X (.Compare a [.LtE] [b] pos) σ H (.bl (decide (n ≤ m))) := EV.of (pe_cmpR op_le pe_sem pe_sem (nomark _)) (ev_op ha.ev hb.ev rv_I0)
theorem ev_eq (ha : EV X a σ H v) (hb : EV X b σ H w) (hs : scal v w = true) : EV X (.Compare a [.Eq] [b] pos) σ H (.bl (decide (v = w))) := EV.of (pe_cmpR op_eq pe_sem pe_sem (nomark _)) (ev_op ha.ev hb.ev (rv_eq hs))
theorem ev_ne (ha : EV X a σ H v) (hb : EV X b σ H w) (hs : scal v w = true) : EV X (.Compare a [.NotEq] [b] pos) σ H (.bl (!decide (v = w))) := EV.of (pe_cmpR op_ne pe_sem pe_sem (nomark _)) (ev_op ha.ev hb.ev (rv_ne hs))
theorem ev_not (ha : EV X a σ H (.bl bb)) : EV X (.UnaryOp .Not a pos) σ H (.bl (!bb)) := EV.of (pe_not pe_sem) (ev_notV ha.ev)
theorem tn_v (h : EV X e σ H (.bl bb)) (he : ∀ whole, isTrue e X.env whole = (do let v ← whole; standAt e.pos; holding [v] (truthy v)) := by intro _; rfl) : TN X e σ H bb := TN.of (pt_val pe_sem he) (et_B h.ev)
theorem tn_not (h : TN X a σ H bb) : TN X (.UnaryOp .Not a pos) σ H (!bb) := TN.of (pt_not pt_sem) (et_not h.ev)
theorem ev_if (ht : TN X c σ H bb) (h1 : bb = true → EV X a σ H v) (h2 : bb = false → EV X b σ H v) : EV X (.IfExp c a b pos) σ H v := EV.of (pe_ifExp pt_sem pe_sem pe_sem) (Evl.ev_if ht.ev (fun q => (h1 q).ev) fun q => (h2 q).ev)
theorem em_if {R : V → Hp → Prop} (ht : TN X c σ H bb) (h1 : bb = true → EM X a σ H R) (h2 : bb = false → EM X b σ H R) : EM X (.IfExp c a b pos) σ H R := EM.of (pe_ifExp pt_sem pe_sem pe_sem) fun H1 e1 => semT_mono (ht H1 e1) fun b' H2 ⟨e2, q⟩ => by
  subst q
  cases b' with
  | true => exact h1 rfl H2 (e1.trans e2)
  | false => exact h2 rfl H2 (e1.trans e2)
theorem en_if {φ : V → Hp → Prop} (ht : TN X c σ H bb) (h1 : bb = true → EN X a σ H φ) (h2 : bb = false → EN X b σ H φ) : EN X (.IfExp c a b pos) σ H φ := EN.of (pe_ifExp pt_sem pe_sem pe_sem) fun H1 e1 => semT_mono (ht H1 e1) fun b' H2 ⟨e2, q⟩ => by
  subst q
  cases b' with
  | true => exact sem_mono (h1 rfl H2 (e1.trans e2)) fun v H3 ⟨e3, q⟩ => ⟨e2.trans e3, q⟩
  | false => exact sem_mono (h2 rfl H2 (e1.trans e2)) fun v H3 ⟨e3, q⟩ => ⟨e2.trans e3, q⟩

/-! ### items, slices, lengths -/
theorem ev_ixL {p : Addr} {xs : List V} (ha : EV X a σ H (.ref p)) (hb : EV X b σ H (.int n)) (h : SqL X.K H p xs) (g : atI xs n = some v) (hs : PlainIx b := by exact fun _ _ => rfl) : EV X (.Subscript a b pos) σ H v := EV.of (pe_ix ix_list pe_sem pe_sem hs) (ev_op ha.ev hb.ev (rv_ixL h g))
theorem ev_ixT {p : Addr} {xs : List V} (ha : EV X a σ H (.ref p)) (hb : EV X b σ H (.int n)) (h : SqT X.K H p xs) (g : atI xs n = some v) (hs : PlainIx b := by exact fun _ _ => rfl) : EV X (.Subscript a b pos) σ H v := EV.of (pe_ix ix_tup pe_sem pe_sem hs) (ev_op ha.ev hb.ev (rv_ixT h g))
theorem ev_ixS {z : Str} {c : Nat} (ha : EV X a σ H (.str z)) (hb : EV X b σ H (.int n)) (h : z.length ≤ 100000) (g : atI z.cps.toList n = some c) (hs : PlainIx b := by exact fun _ _ => rfl) : EV X (.Subscript a b pos) σ H (.str ⟨#[c]⟩) := EV.of (pe_ix ix_str pe_sem pe_sem hs) (ev_op ha.ev hb.ev (rv_ixS h g))
theorem ev_dget {p : Addr} {kvs : List (Key × V)} {k : Key} (hu : X.A.units + 1 < cLine) (ha : EV X a σ H (.ref p)) (hb : EV X b σ H (kV k)) (h : H p = some (.dK kvs)) (g : valV kvs k = some v) (hs : NoSl b := by exact fun _ _ => rfl) : EV X (.Subscript a b pos) σ H v :=
  EV.of (pe_dget hu pe_sem pe_sem hs) fun H1 e1 Q q => ha.ev H1 e1 _ fun H2 e2 => hb.ev H2 (e1.trans e2) _ fun H3 e3 => ⟨p, v, rfl, g ▸ DGet.k (((e1.trans e2).trans e3) _ _ h), q H3 (e2.trans e3)⟩
theorem ev_fld {p C dx : Addr} {fs : List (Str × V)} {nm : Str} (ha : EV X a σ H (.ref p)) (h : H p = some (.ins C dx fs)) (hc : Cls X.K C) (hn : NoAttr X.K C nm) (g : fs.lookup nm = some v) (hb : attributeBase a nm X.env (eval a X.env) = eval a X.env := by rfl) : EV X (.Attribute a nm pos) σ H v :=
  EV.of (pe_fld pe_sem hb) fun H1 e1 Q q => ha.ev H1 e1 _ fun H2 e2 => ⟨p, C, dx, fs, v, rfl, (e1.trans e2) _ _ h, hc, hn, g, q H2 e2⟩
/-- len(list), len(tuple), len(text) -/
theorem ev_len {p q : Pos} {r : Addr} {xs : List V} (hg : Gl X "len") (hm : X.mg "len" = none) (ha : EV X a σ H (.ref r)) (h : SqL X.K H r xs ∨ SqT X.K H r xs) (hs : starEach [a] X.env = (false, eval a X.env) :: starEach [] X.env := by rfl) : EV X (.Call (.Name "len" p) [a] [] q) σ H (.int (xs.length : Int)) :=
  EV.of (pe_callB call_len_seq hg hm PySem.boot_len (pa_cons pe_sem pa_nil hs) (he := hs)) (ev_cb (ea_cons ha.ev ea_nil) fun H1 e1 Q q => ⟨r, xs, rfl, h.imp (ex_l e1) (ex_t e1), q H1 (Ex.refl H1)⟩)
theorem ev_lenS {p q : Pos} {z : Str} (hg : Gl X "len") (hm : X.mg "len" = none) (ha : EV X a σ H (.str z)) (h : z.length ≤ sizeLine) (hs : starEach [a] X.env = (false, eval a X.env) :: starEach [] X.env := by rfl) : EV X (.Call (.Name "len" p) [a] [] q) σ H (.int (z.length : Int)) :=
  EV.of (pe_callB call_len_str hg hm PySem.boot_len (pa_cons pe_sem pa_nil hs) (he := hs)) (ev_cb (ea_cons ha.ev ea_nil) fun H1 e1 Q q => ⟨z, rfl, h, q H1 (Ex.refl H1)⟩)
theorem ev_max2 {p q : Pos} (hc : X.calm = true) (hg : Gl X "max") (hm : X.mg "max" = none) (ha : EV X a σ H (.int n)) (hb : EV X b σ H (.int m)) (hs : starEach [a, b] X.env = (false, eval a X.env) :: starEach [b] X.env := by rfl) (hs' : starEach [b] X.env = (false, eval b X.env) :: starEach [] X.env := by rfl)
    (hpl : (backTo q (starEach [b] X.env)).any (·.1) = false := by rfl) : EV X (.Call (.Name "max" p) [a, b] [] q) σ H (.int (if m > n then m else n)) :=
  EV.of (pe_callB (call_max2 hc) hg hm (by decide +kernel) (pa_cons pe_sem (pa_cons pe_sem pa_nil hs') hs) (he := hs) (hpl := hpl)) (ev_cb (ea_cons ha.ev (ea_cons hb.ev ea_nil)) fun H1 e1 Q q => ⟨n, m, rfl, q H1 (Ex.refl H1)⟩)

/-! ### displays: a new list, a new tuple -/
theorem em_lst {es : List Expr} {R : V → Hp → Prop} (h : AM X es σ H fun vs Hb => vs.length ≤ 100000 ∧ ∀ p, Hb p = none → R (.ref p) (upd Hb p (.lst vs))) : EM X (.List es pos) σ H R := EM.of (pe_lst pa_sem) fun H1 e1 => semA_mono (h H1 e1) fun vs H2 ⟨Hb, e2, hl, k⟩ => ⟨sz_of hl, fun p hp => ⟨_, ex_upd e2, k p (fresh_back e2 hp)⟩⟩
theorem em_tup {es : List Expr} {R : V → Hp → Prop} {x1} (h : AM X es σ H fun vs Hb => vs.length ≤ 100000 ∧ ∀ p, Hb p = none → R (.ref p) (upd Hb p (.tup vs))) : EM X (.Tuple es x1 pos) σ H R := EM.of (pe_tup pa_sem) fun H1 e1 => semA_mono (h H1 e1) fun vs H2 ⟨Hb, e2, hl, k⟩ => ⟨sz_of hl, fun p hp => ⟨_, ex_upd e2, k p (fresh_back e2 hp)⟩⟩
/-- .. of values that make nothing -/
theorem em_lstV {es : List Expr} {vs : List V} {R : V → Hp → Prop} (h : AV X es σ H vs) (hl : vs.length ≤ 100000) (k : ∀ p, H p = none → R (.ref p) (upd H p (.lst vs))) : EM X (.List es pos) σ H R := em_lst (AM.av h ⟨hl, k⟩)
theorem em_tupV {es : List Expr} {vs : List V} {R : V → Hp → Prop} {x1} (h : AV X es σ H vs) (hl : vs.length ≤ 100000) (k : ∀ p, H p = none → R (.ref p) (upd H p (.tup vs))) : EM X (.Tuple es x1 pos) σ H R := em_tup (AM.av h ⟨hl, k⟩)
theorem en_lstV {es : List Expr} {vs : List V} (h : AV X es σ H vs) (hl : vs.length ≤ 100000) : EN X (.List es pos) σ H fun v H2 => ∃ p, v = .ref p ∧ H p = none ∧ H2 p = some (.lst vs) := EN.of (pe_lst pa_sem) fun H1 e1 => semA_mono (h H1 e1) fun us H2 ⟨e2, q⟩ => by
  subst q
  exact ⟨sz_of hl, fun p hp => ⟨e2.trans (Ex.new hp), p, rfl, fresh_back (e1.trans e2) hp, upd_same⟩⟩
theorem en_tupV {es : List Expr} {vs : List V} {x1} (h : AV X es σ H vs) (hl : vs.length ≤ 100000) : EN X (.Tuple es x1 pos) σ H fun v H2 => ∃ p, v = .ref p ∧ H p = none ∧ H2 p = some (.tup vs) := EN.of (pe_tup pa_sem) fun H1 e1 => semA_mono (h H1 e1) fun us H2 ⟨e2, q⟩ => by
  subst q
  exact ⟨sz_of hl, fun p hp => ⟨e2.trans (Ex.new hp), p, rfl, fresh_back (e1.trans e2) hp, upd_same⟩⟩

/-! ### calls of own defs -/
theorem em_call {CX : CXT} {lv : Nat} {g : Addr} {fd : FuncData} {ps : List Str} {sp : Sp} {dvs : List V} {ds : List Value} {E : XK} {nm : Str} {p q : Pos} {es : List Expr} {R : V → Hp → Prop}
    (F : FnOk X.prog X.w X.K X.mg X.base CX lv g fd ps sp) (hr : Room lv X.A) (hg : Gl X nm) (hm : X.mg nm = some (.ref g)) (hk : PySem.W.keepIn X.K (.ref g) = true) (hb : Binds X.K fd ps ds) (hd : Vals dvs ds) (hx : Passes CX X E)
    (h : AM X (e :: es) σ H fun vs Hb => ∀ H2, Ex Hb H2 → sp (vs ++ dvs) H2 (fun v H3 => ∃ Hc, Ex Hc H3 ∧ R v Hc) E)
    (hdb : (nm == ("__debug__" : Str)) = false := by decide) (he : starEach (e :: es) X.env = (false, eval e X.env) :: starEach es X.env := by rfl) (hpl : (backTo q (starEach es X.env)).any (·.1) = false := by rfl) :
    EM X (.Call (.Name nm p) (e :: es) [] q) σ H R := EM.of (pe_call F hr hg hm hk hb hd hx pa_sem hdb he hpl) fun H1 e1 => semA_mono (h H1 e1) fun vs H2 ⟨Hb, e2, k⟩ => k H2 e2
theorem en_call {CX : CXT} {lv : Nat} {g : Addr} {fd : FuncData} {ps : List Str} {sp : Sp} {dvs : List V} {ds : List Value} {E : XK} {nm : Str} {p q : Pos} {es : List Expr} {us : List V} {φ : V → Hp → Prop}
    (F : FnOk X.prog X.w X.K X.mg X.base CX lv g fd ps sp) (hr : Room lv X.A) (hg : Gl X nm) (hm : X.mg nm = some (.ref g)) (hk : PySem.W.keepIn X.K (.ref g) = true) (hb : Binds X.K fd ps ds) (hd : Vals dvs ds) (hx : Passes CX X E)
    (ha : AV X (e :: es) σ H us) (h : ∀ H1, Ex H H1 → sp (us ++ dvs) H1 (fun v H2 => Ex H1 H2 ∧ φ v H2) E)
    (hsp : ∀ vs H1 (Q Q' : VK), (∀ v H', Q v H' → Q' v H') → sp vs H1 Q E → sp vs H1 Q' E)
    (hdb : (nm == ("__debug__" : Str)) = false := by decide) (he : starEach (e :: es) X.env = (false, eval e X.env) :: starEach es X.env := by rfl) (hpl : (backTo q (starEach es X.env)).any (·.1) = false := by rfl) :
    EN X (.Call (.Name nm p) (e :: es) [] q) σ H φ := EN.of (pe_call F hr hg hm hk hb hd hx pa_sem hdb he hpl) fun H1 e1 => semA_mono (ha H1 e1) fun vs H2 ⟨e2, k⟩ => by
  subst k
  exact hsp _ _ _ _ (fun v H' z => ⟨e2.trans z.1, z.2⟩) (h H2 (e1.trans e2))

/-! ### statements -/
variable {D : Ends} {rest ss tt : List Stmt} {st : Stmt}
structure RX (X : Cx) (ss : List Stmt) (D : Ends) (σ : L2.St) (H : Hp)  : Prop where
  run : ∀ H1, Ex H H1 → semS X ss D σ H1
instance {X : Cx} {ss : List Stmt} {D : Ends} {σ : L2.St} {H : Hp} : CoeFun (RX X ss D σ H) fun _ => ∀ H1, Ex H H1 → semS X ss D σ H1 := ⟨RX.run⟩
def UpS (P : L2.St → Hp → Prop) : L2.St → Hp → Prop := fun σ H => ∃ Hb, Ex Hb H ∧ P σ Hb
theorem RX.mono (h : RX X ss D σ H) (q : Ex H H') : RX X ss D σ H' := ⟨fun H1 e1 => h H1 (q.trans e1)⟩
theorem rx_end (k : ∀ H1, Ex H H1 → D.nx σ H1) : RX X [] D σ H := ⟨fun H1 e1 => semS_of pss_nil (k H1 e1)⟩
theorem rx_of {t : TS} (h : PS X st t) (q : ∀ H1, Ex H H1 → t { D with nx := semS X rest D } σ H1) : RX X (st :: rest) D σ H := ⟨fun H1 e1 => semS_of (pss_cons h pss_sem) (q H1 e1)⟩
/-- what stands behind an inner block -/
theorem rx_out {D' : Ends} (hD : D'.nx = semS X rest D) (h : RX X rest D σ H) : RX X [] D' σ H := rx_end fun H1 e1 => by rw [hD]; exact h H1 e1
theorem rx_up {P : L2.St → Hp → Prop} (hD : D.nx = UpS P) (h : P σ H) : RX X [] D σ H := rx_end fun H1 e1 => by rw [hD]; exact ⟨H, e1, h⟩
variable {pos' : Pos} {nm : Str}
theorem rx_setM (i : Nat) (h : EM X e σ H fun v Hb => RX X rest D (σ.set i (some v)) Hb) (hN : X.N.Nodup) (hi : X.N[i]? = some nm := by rfl) (hx : Loc X.env.scope nm := by first | exact Or.inl rfl | exact Or.inr rfl)
    (hs : swapsWith e (some (.Name nm pos')) pos.line X.env = pure false := by rfl) (hf : X.fn nm = true ∨ X.env.scope.names.lookup nm = some .local := by first | exact .inl rfl | exact .inr rfl) : RX X (.Assign [.Name nm pos'] e pos :: rest) D σ H :=
  rx_of (ps_set hN hi hx pe_sem hs hf) fun H1 e1 => sem_mono (h H1 e1) fun v H2 ⟨Hb, e2, k⟩ => k H2 e2
theorem rx_set (i : Nat) (h : EV X e σ H v) (k : RX X rest D (σ.set i (some v)) H) (hN : X.N.Nodup) (hi : X.N[i]? = some nm := by rfl) (hx : Loc X.env.scope nm := by first | exact Or.inl rfl | exact Or.inr rfl)
    (hs : swapsWith e (some (.Name nm pos')) pos.line X.env = pure false := by rfl) (hf : X.fn nm = true ∨ X.env.scope.names.lookup nm = some .local := by first | exact .inl rfl | exact .inr rfl) : RX X (.Assign [.Name nm pos'] e pos :: rest) D σ H := rx_setM i (EM.ev h k) hN hi hx hs hf
theorem rx_exprM (h : EM X e σ H fun _ Hb => RX X rest D σ Hb) (hs : swapsWith e none pos.line X.env = pure false := by rfl) : RX X (.Expr e pos :: rest) D σ H :=
  rx_of (ps_expr pe_sem hs) fun H1 e1 => sem_mono (h H1 e1) fun v H2 ⟨Hb, e2, k⟩ => k H2 e2
theorem rx_retM (h : EM X e σ H fun v Hb => ∀ H1, Ex Hb H1 → D.rt v H1) : RX X (.Return (some e) pos :: rest) D σ H :=
  rx_of (ps_ret pe_sem) fun H1 e1 => sem_mono (h H1 e1) fun v H2 ⟨Hb, e2, k⟩ => k H2 e2
theorem rx_ret (h : EV X e σ H v) (k : ∀ H1, Ex H H1 → D.rt v H1) : RX X (.Return (some e) pos :: rest) D σ H := rx_retM (EM.ev h k)
theorem rx_if (ht : TN X c σ H bb) (h1 : bb = true → RX X ss { D with nx := semS X rest D } σ H) (h2 : bb = false → RX X tt { D with nx := semS X rest D } σ H) : RX X (.If c ss tt pos :: rest) D σ H :=
  rx_of (ps_if pt_sem pss_sem pss_sem) fun H1 e1 => semT_mono (ht H1 e1) fun b' H2 ⟨e2, q⟩ => by
    subst q
    cases b' with
    | true => exact h1 rfl H2 (e1.trans e2)
    | false => exact h2 rfl H2 (e1.trans e2)
/-- an if without else -/
theorem rx_when (ht : TN X c σ H bb) (h1 : bb = true → RX X ss { D with nx := semS X rest D } σ H) (h2 : bb = false → RX X rest D σ H) : RX X (.If c ss [] pos :: rest) D σ H := rx_if ht h1 fun q => rx_out rfl (h2 q)
/-- d[k] = e -/
theorem rx_dput {o b : Expr} {p : Addr} {kvs : List (Key × V)} {k : Key} (hu : X.A.units + 1 < cLine) (hv : EV X e σ H v) (ho : EV X o σ H (.ref p)) (hb : EV X b σ H (kV k)) (h : H p = some (.dK kvs)) (hl : kvs.length < 100000) (q : RX X rest D σ (upd H p (.dK (putK kvs k v))))
    (hs : swapsWith e (some (.Subscript o b pos')) pos.line X.env = pure false := by rfl) : RX X (.Assign [.Subscript o b pos'] e pos :: rest) D σ H :=
  rx_of (ps_dput hu pe_sem pe_sem pe_sem hs) fun H1 e1 => hv.ev H1 e1 _ fun H2 e2 => ho.ev H2 (e1.trans e2) _ fun H3 e3 => hb.ev H3 ((e1.trans e2).trans e3) _ fun H4 e4 =>
    ⟨p, _, rfl, DPut.k ((((e1.trans e2).trans e3).trans e4) _ _ h) (sz_lt hl), q _ (ex_upd (((e1.trans e2).trans e3).trans e4))⟩
/-- d[k] = e, e makes something -/
theorem rx_dputM {o b : Expr} (hu : X.A.units + 1 < cLine) (hv : EM X e σ H fun v Hb => ∃ (p : Addr) (kvs : List (Key × V)) (k : Key), EV X o σ Hb (.ref p) ∧ EV X b σ Hb (kV k) ∧ Hb p = some (.dK kvs) ∧ kvs.length < 100000 ∧ RX X rest D σ (upd Hb p (.dK (putK kvs k v))))
    (hs : swapsWith e (some (.Subscript o b pos')) pos.line X.env = pure false := by rfl) : RX X (.Assign [.Subscript o b pos'] e pos :: rest) D σ H :=
  rx_of (ps_dput hu pe_sem pe_sem pe_sem hs) fun H1 e1 => sem_mono (hv H1 e1) fun v H2 ⟨Hb, e2, p, kvs, k, ho, hb, h, hl, q⟩ => ho.ev H2 e2 _ fun H3 e3 => hb.ev H3 (e2.trans e3) _ fun H4 e4 =>
    ⟨p, _, rfl, DPut.k (((e2.trans e3).trans e4) _ _ h) (sz_lt hl), q _ (ex_upd ((e2.trans e3).trans e4))⟩
/-- loops -/
theorem rx_forL (i : Nat) {l : Expr} {body : List Stmt} {r : Addr} {xs : List V} (hp : PassesOwn (model X.prog X.w) X.A X.env X.xe) (hc : X.calm = true) (hl : EV X l σ H (.ref r)) (hx : SqL X.K H r xs) (P : Nat → L2.St → Hp → Prop) (h0 : P 0 σ H)
    (hk : ∀ n σ' Hb, n ≤ xs.length → P n σ' Hb → SqL X.K Hb r xs) (hs : ∀ n x σ' Hb, xs[n]? = some x → P n σ' Hb → RX X body { D with nx := UpS (P (n + 1)), ct := UpS (P (n + 1)), bk := semS X rest D } (σ'.set i (some x)) Hb)
    (hd : ∀ σ' Hb, P xs.length σ' Hb → RX X rest D σ' Hb) (hN : X.N.Nodup) (hi : X.N[i]? = some nm := by rfl) (hlo : Loc X.env.scope nm := by first | exact Or.inl rfl | exact Or.inr rfl)
    (hf : X.fn nm = true ∨ X.env.scope.names.lookup nm = some .local := by first | exact .inl rfl | exact .inr rfl) (hfo : ∀ x, foldedSetIterable l X.env x = pure x := by intro _; rfl) : RX X (.For (.Name nm pos') l body [] pos :: rest) D σ H :=
  rx_of (ps_for hp hc (pi_list pe_sem) (pg_name hN hi hlo hf) pss_sem hfo) fun H1 e1 => s_forL (D := { D with nx := semS X rest D }) (EV.ev (EN.mono hl e1)) (ex_l e1 hx) (fun n => UpS (P n)) (fun H2 e2 => ⟨H, e1.trans e2, h0⟩)
    (fun n σ' H' hn ⟨Hb, e, p⟩ => ex_l e (hk n σ' Hb hn p)) (fun n x σ' H' hx ⟨Hb, e, p⟩ => hs n x σ' Hb hx p H' e) fun σ' H' ⟨Hb, e, p⟩ => hd σ' Hb p H' e
theorem rx_forT (i : Nat) {l : Expr} {body : List Stmt} {r : Addr} {xs : List V} (hp : PassesOwn (model X.prog X.w) X.A X.env X.xe) (hc : X.calm = true) (hl : EV X l σ H (.ref r)) (hx : SqT X.K H r xs) (P : Nat → L2.St → Hp → Prop) (h0 : P 0 σ H)
    (hk : ∀ n σ' Hb, n ≤ xs.length → P n σ' Hb → SqT X.K Hb r xs) (hs : ∀ n x σ' Hb, xs[n]? = some x → P n σ' Hb → RX X body { D with nx := UpS (P (n + 1)), ct := UpS (P (n + 1)), bk := semS X rest D } (σ'.set i (some x)) Hb)
    (hd : ∀ σ' Hb, P xs.length σ' Hb → RX X rest D σ' Hb) (hN : X.N.Nodup) (hi : X.N[i]? = some nm := by rfl) (hlo : Loc X.env.scope nm := by first | exact Or.inl rfl | exact Or.inr rfl)
    (hf : X.fn nm = true ∨ X.env.scope.names.lookup nm = some .local := by first | exact .inl rfl | exact .inr rfl) (hfo : ∀ x, foldedSetIterable l X.env x = pure x := by intro _; rfl) : RX X (.For (.Name nm pos') l body [] pos :: rest) D σ H :=
  rx_of (ps_for hp hc (pi_tup pe_sem) (pg_name hN hi hlo hf) pss_sem hfo) fun H1 e1 => s_forT (D := { D with nx := semS X rest D }) (EV.ev (EN.mono hl e1)) (ex_t e1 hx) (fun n => UpS (P n)) (fun H2 e2 => ⟨H, e1.trans e2, h0⟩)
    (fun n σ' H' hn ⟨Hb, e, p⟩ => ex_t e (hk n σ' Hb hn p)) (fun n x σ' H' hx ⟨Hb, e, p⟩ => hs n x σ' Hb hx p H' e) fun σ' H' ⟨Hb, e, p⟩ => hd σ' Hb p H' e
theorem rx_forR (i : Nat) {g : Expr} {body : List Stmt} {p q : Pos} (hp : PassesOwn (model X.prog X.w) X.A X.env X.xe) (hc : X.calm = true) (hg : Gl X "range") (hm : X.mg "range" = none) (hl : EV X g σ H (.int n)) (hn : 0 ≤ n ∧ n ≤ 100000) (P : Nat → L2.St → Hp → Prop) (h0 : P 0 σ H)
    (hs : ∀ (t : Nat) σ' Hb, (t : Int) < n → P t σ' Hb → RX X body { D with nx := UpS (P (t + 1)), ct := UpS (P (t + 1)), bk := semS X rest D } (σ'.set i (some (.int (t : Int)))) Hb)
    (hd : ∀ σ' Hb, P n.toNat σ' Hb → RX X rest D σ' Hb) (hN : X.N.Nodup) (hi : X.N[i]? = some nm := by rfl) (hlo : Loc X.env.scope nm := by first | exact Or.inl rfl | exact Or.inr rfl)
    (hf : X.fn nm = true ∨ X.env.scope.names.lookup nm = some .local := by first | exact .inl rfl | exact .inr rfl) (hst : starEach [g] X.env = (false, eval g X.env) :: starEach [] X.env := by rfl) : RX X (.For (.Name nm pos') (.Call (.Name "range" p) [g] [] q) body [] pos :: rest) D σ H :=
  rx_of (ps_for hp hc (pi_range1 hg hm (pa_cons pe_sem pa_nil hst) hst) (pg_name hN hi hlo hf) pss_sem) fun H1 e1 => s_forR1 (D := { D with nx := semS X rest D }) (ea_cons (EV.ev (EN.mono hl e1)) ea_nil) hn (fun n => UpS (P n)) (fun H2 e2 => ⟨H, e1.trans e2, h0⟩)
    (fun n σ' H' hx ⟨Hb, e, p⟩ => hs n σ' Hb hx p H' e) fun σ' H' ⟨Hb, e, p⟩ => hd σ' Hb p H' e

/-! ### comprehensions -/
/-- the tuples that stand, stand -/
def Tx (H H' : Hp) : Prop := ∀ a xs, H a = some (.tup xs) → H' a = some (.tup xs)
theorem Tx.refl (H : Hp) : Tx H H := fun _ _ h => h
theorem Tx.trans {H H1 H2 : Hp} (a : Tx H H1) (b : Tx H1 H2) : Tx H H2 := fun x o h => b x o (a x o h)
theorem _root_.Evl.Ex.tx {H H1 : Hp} (e : Ex H H1) : Tx H H1 := fun a xs h => e a _ h
theorem Tx.lst {H : Hp} {D : Addr} {xs ys : List V} (h : H D = some (.lst xs)) : Tx H (upd H D (.lst ys)) := fun a zs q => by
  rw [upd_ne (ne_of q h (fun z => nomatch z))]; exact q
theorem Tx.dK {H : Hp} {D : Addr} {xs ys : List (Key × V)} (h : H D = some (.dK xs)) : Tx H (upd H D (.dK ys)) := fun a zs q => by
  rw [upd_ne (ne_of q h (fun z => nomatch z))]; exact q
def blkE (X : Cx) (scope : Scope) (e : Expr) : TE := fun σ H Q => ∀ (s : Shared) (H' : Hp) (C : Addr) (cl : List (Str × Addr)) (fp : List Addr), semE (X.blk s H' scope (compEnvC scope cl C X.env) fp) e σ H Q
def blkT (X : Cx) (scope : Scope) (e : Expr) : TT := fun σ H Q => ∀ (s : Shared) (H' : Hp) (C : Addr) (cl : List (Str × Addr)) (fp : List Addr), semT (X.blk s H' scope (compEnvC scope cl C X.env) fp) e σ H Q
theorem pe_blk {scope : Scope} (s : Shared) (H' : Hp) (C : Addr) (cl : List (Str × Addr)) (fp : List Addr) : PE (X.blk s H' scope (compEnvC scope cl C X.env) fp) e (blkE X scope e) := ⟨fun pins s1 σ H Q I h => h s H' C cl fp pins s1 I⟩
theorem pt_blk {scope : Scope} (s : Shared) (H' : Hp) (C : Addr) (cl : List (Str × Addr)) (fp : List Addr) : PT (X.blk s H' scope (compEnvC scope cl C X.env) fp) e (blkT X scope e) := ⟨fun pins s1 σ H Q I h => h s H' C cl fp pins s1 I⟩
/-- the word of a comprehension's turns -/
def LcW (H : Hp) (D : Addr) (P : Nat → List V → Hp → Prop) (i : Nat) (H' : Hp) : Prop := ∃ acc : List V, acc.length ≤ i ∧ H D = none ∧ Ex H H' ∧ H' D = some (.lst acc) ∧ P i acc H'
theorem LcW.push {H : Hp} {D : Addr} {P : Nat → List V → Hp → Prop} {i : Nat} {acc : List V} {H4 : Hp} {v : V} (hP : ∀ n acc H1 H2, Tx H1 H2 → P n acc H1 → P n acc H2) (h1 : acc.length ≤ i) (h2 : H D = none) (h3 : Ex H H4) (h4 : H4 D = some (.lst acc)) (hi : i < 100000) (h5 : P (i + 1) (acc ++ [v]) H4) :
    ∃ ac, H4 D = some (.lst ac) ∧ ac.length < sizeLine ∧ LcW H D P (i + 1) (upd H4 D (.lst (ac ++ [v]))) :=
  ⟨acc, h4, sz_lt (by omega), acc ++ [v], by rw [List.length_append]; exact Nat.add_le_add_right h1 1, h2, Ex.mut h3 h2, upd_same, hP _ _ _ _ (Tx.lst h4) h5⟩
section
variable {elt l : Expr} {xn : Str} {px : Pos} {scope : Scope} {own : List (Str × Nat)} {r : Addr} {xs : List V}
theorem srcL (hl : EV X l σ H (.ref r)) (hx : SqL X.K H r xs) : EN X l σ H fun v H2 => ∃ r, v = .ref r ∧ SqL X.K H2 r xs := hl.weak fun v H2 e q => ⟨r, q, ex_l e hx⟩
theorem en_lcL (j : Nat) (hc : X.calm = true) (hN : X.N.Nodup) (ok : BlkOk X.N X.env.scope scope own) (hl : EN X l σ H fun v H2 => ∃ r, v = .ref r ∧ SqL X.K H2 r xs) (hz : xs.length ≤ 100000)
    (hg : ∀ (s : Shared) (H : Hp) (C : Addr) (cl : List (Str × Addr)) (fp : List Addr), PG (X.blk s H scope (compEnvC scope cl C X.env) fp) (.Name xn px) (gName j))
    (hw : ∀ v, wipe ((wipe σ (own.map (·.2))).set j (some v)) (own.map (·.2)) = wipe σ (own.map (·.2)))
    (P : Nat → List V → Hp → Prop) (hP : ∀ n acc H1 H2, Tx H1 H2 → P n acc H1 → P n acc H2) (h0 : P 0 [] H)
    (hs : ∀ n x acc Hb (s : Shared) (H' : Hp) (C : Addr) (cl : List (Str × Addr)) (fp : List Addr), xs[n]? = some x → Ex H Hb → P n acc Hb → EN (X.blk s H' scope (compEnvC scope cl C X.env) fp) elt ((wipe σ (own.map (·.2))).set j (some x)) Hb fun v H2 => P (n + 1) (acc ++ [v]) H2)
    (hfo : ∀ x, foldedSetIterable l X.env x = pure x := by intro _; rfl) :
    EN X (.ListComp elt [⟨.Name xn px, l, [], 0⟩] scope pos) σ H fun v H2 => ∃ D acc, v = .ref D ∧ H D = none ∧ H2 D = some (.lst acc) ∧ acc.length ≤ xs.length ∧ P xs.length acc H2 :=
  EN.of (pe_lc hc hN (pi_list pe_sem) ok hg (fun _ _ _ _ _ => pts_nil) (fun s H' C cl fp => pe_blk s H' C cl fp) hfo) fun H1 e1 => sem_mono (hl H1 e1) fun v H2 ⟨e2, r, er, hx⟩ => ⟨r, er, ⟨xs, hx⟩, fun D hD =>
    lc_list (xs := xs) (LcW H2 D P) ⟨[], Nat.le_refl _, hD, Ex.new hD, upd_same, hP _ _ _ _ (Tx.trans (e1.trans e2).tx (Ex.new hD).tx) h0⟩ (fun i H' _ p => let ⟨_, _, _, e, _, _⟩ := p; ex_l e hx)
      (fun i x H' hi ⟨acc, q1, q2, q3, q4, q5⟩ => ⟨hw x, by
        refine iteT (B := LcW H2 D P (i + 1) H') ?_
        exact fun s H'' C cl fp => sem_mono (hs i x acc H' s H'' C cl fp hi ((e1.trans e2).trans q3) q5 H' (Ex.refl H')) fun v H4 ⟨e4, q6⟩ =>
          LcW.push hP q1 q2 (q3.trans e4) (e4 D _ q4) (by have := (List.getElem?_eq_some_iff.mp hi).1; omega) q6⟩)
      (fun H' ⟨acc, q1, q2, q3, q4, q5⟩ => ⟨e2.trans q3, D, acc, rfl, fresh_back (e1.trans e2) q2, q4, q1, q5⟩)⟩
/-- .. with a test -/
theorem en_lcLt (j : Nat) {tst : Expr} (hc : X.calm = true) (hN : X.N.Nodup) (ok : BlkOk X.N X.env.scope scope own) (hl : EN X l σ H fun v H2 => ∃ r, v = .ref r ∧ SqL X.K H2 r xs) (hz : xs.length ≤ 100000)
    (hg : ∀ (s : Shared) (H : Hp) (C : Addr) (cl : List (Str × Addr)) (fp : List Addr), PG (X.blk s H scope (compEnvC scope cl C X.env) fp) (.Name xn px) (gName j))
    (hw : ∀ v, wipe ((wipe σ (own.map (·.2))).set j (some v)) (own.map (·.2)) = wipe σ (own.map (·.2)))
    (P : Nat → List V → Hp → Prop) (hP : ∀ n acc H1 H2, Tx H1 H2 → P n acc H1 → P n acc H2) (h0 : P 0 [] H)
    (hs : ∀ n x acc Hb (s : Shared) (H' : Hp) (C : Addr) (cl : List (Str × Addr)) (fp : List Addr), xs[n]? = some x → Ex H Hb → P n acc Hb →
      TD (X.blk s H' scope (compEnvC scope cl C X.env) fp) tst ((wipe σ (own.map (·.2))).set j (some x)) Hb fun b H3 => if b = true then
        ∀ (s : Shared) (H' : Hp) (C : Addr) (cl : List (Str × Addr)) (fp : List Addr), EN (X.blk s H' scope (compEnvC scope cl C X.env) fp) elt ((wipe σ (own.map (·.2))).set j (some x)) H3 fun v H2 => P (n + 1) (acc ++ [v]) H2 else P (n + 1) acc H3)
    (hfo : ∀ x, foldedSetIterable l X.env x = pure x := by intro _; rfl) :
    EN X (.ListComp elt [⟨.Name xn px, l, [tst], 0⟩] scope pos) σ H fun v H2 => ∃ D acc, v = .ref D ∧ H D = none ∧ H2 D = some (.lst acc) ∧ acc.length ≤ xs.length ∧ P xs.length acc H2 :=
  EN.of (pe_lc hc hN (pi_list pe_sem) ok hg (fun s H' C cl fp => pts_one (pt_blk s H' C cl fp)) (fun s H' C cl fp => pe_blk s H' C cl fp) hfo) fun H1 e1 => sem_mono (hl H1 e1) fun v H2 ⟨e2, r, er, hx⟩ => ⟨r, er, ⟨xs, hx⟩, fun D hD =>
    lc_list (xs := xs) (LcW H2 D P) ⟨[], Nat.le_refl _, hD, Ex.new hD, upd_same, hP _ _ _ _ (Tx.trans (e1.trans e2).tx (Ex.new hD).tx) h0⟩ (fun i H' _ p => let ⟨_, _, _, e, _, _⟩ := p; ex_l e hx)
      (fun i x H' hi ⟨acc, q1, q2, q3, q4, q5⟩ => ⟨hw x, fun s H'' C cl fp => semT_mono (hs i x acc H' s H'' C cl fp hi ((e1.trans e2).trans q3) q5 H' (Ex.refl H')) fun b H3 ⟨e3, q6⟩ => by
        cases b with
        | true =>
          rw [if_pos rfl] at q6 ⊢
          exact fun s H'' C cl fp => sem_mono (q6 s H'' C cl fp H3 (Ex.refl H3)) fun v H4 ⟨e4, q7⟩ =>
            LcW.push hP q1 q2 ((q3.trans e3).trans e4) ((e3.trans e4) D _ q4) (by have := (List.getElem?_eq_some_iff.mp hi).1; omega) q7
        | false =>
          rw [if_neg Bool.false_ne_true] at q6 ⊢
          exact ⟨acc, Nat.le_succ_of_le q1, q2, q3.trans e3, e3 D _ q4, q6⟩⟩)
      (fun H' ⟨acc, q1, q2, q3, q4, q5⟩ => ⟨e2.trans q3, D, acc, rfl, fresh_back (e1.trans e2) q2, q4, q1, q5⟩)⟩
end
end
end Y
set_option Elab.async false
set_option linter.all false
set_option maxRecDepth 100000
set_option maxHeartbeats 4000000
namespace Y
open PySem PySem.Spec PyProof.Rows L2 Evl
section
variable {X : Cx} {σ : L2.St} {H H' : Hp} {v w x y z : V} {e a b c f o : Expr} {i j k : Nat} {K : PySem.W.Frag} {n m : Int} {pos pos' apos cpos : Pos} {D : Ends} {rest : List Stmt} {R : V → Hp → Prop} {l p : Addr} {xs ys : List V}
theorem ev_dgetS {kvs : List (Key × V)} {t : Str} (hu : X.A.units + 1 < cLine) (ha : EV X a σ H (.ref p)) (hb : EV X b σ H (.str t)) (h : H p = some (.dK kvs)) (g : valV kvs (Sum.inr t) = some v) (hs : NoSl b := by exact fun _ _ => rfl) : EV X (.Subscript a b pos) σ H v := ev_dget (k := Sum.inr t) hu ha hb h g hs
theorem ev_dgetI {kvs : List (Key × V)} {t : Int} (hu : X.A.units + 1 < cLine) (ha : EV X a σ H (.ref p)) (hb : EV X b σ H (.int t)) (h : H p = some (.dK kvs)) (g : valV kvs (Sum.inl t) = some v) (hs : NoSl b := by exact fun _ _ => rfl) : EV X (.Subscript a b pos) σ H v := ev_dget (k := Sum.inl t) hu ha hb h g hs
theorem rx_dputS {kvs : List (Key × V)} {t : Str} (hu : X.A.units + 1 < cLine) (hv : EV X e σ H v) (ho : EV X o σ H (.ref p)) (hb : EV X b σ H (.str t)) (h : H p = some (.dK kvs)) (hl : kvs.length < 100000) (q : RX X rest D σ (upd H p (.dK (putK kvs (Sum.inr t) v))))
    (hs : swapsWith e (some (.Subscript o b pos')) pos.line X.env = pure false := by rfl) : RX X (.Assign [.Subscript o b pos'] e pos :: rest) D σ H := rx_dput (k := Sum.inr t) hu hv ho hb h hl q hs
theorem rx_dputI {kvs : List (Key × V)} {t : Int} (hu : X.A.units + 1 < cLine) (hv : EV X e σ H v) (ho : EV X o σ H (.ref p)) (hb : EV X b σ H (.int t)) (h : H p = some (.dK kvs)) (hl : kvs.length < 100000) (q : RX X rest D σ (upd H p (.dK (putK kvs (Sum.inl t) v))))
    (hs : swapsWith e (some (.Subscript o b pos')) pos.line X.env = pure false := by rfl) : RX X (.Assign [.Subscript o b pos'] e pos :: rest) D σ H := rx_dput (k := Sum.inl t) hu hv ho hb h hl q hs
/-! ### methods of lists -/
theorem em_pop (ho : EV X o σ H (.ref l)) (h : H l = some (.lst (ys ++ [y]))) (k : R y (upd H l (.lst ys)))
    (hbase : attributeBase o "pop" X.env (eval o X.env) = eval o X.env := by rfl) (hline : (apos.endLine == cpos.line) = true := by rfl) : EM X (.Call (.Attribute o "pop" apos) [] [] cpos) σ H R :=
  EM.of (pe_bm0 PySem.F.plainAttrs_list PySem.F.slot_list_pop PySem.F.type_list_pop mt_pop pe_sem hbase hline) fun H1 e1 => (EV.ev ho) H1 e1 _ fun H2 e2 => by
    have h2 : H2 l = some (.lst (ys ++ [y])) := (e1.trans e2) _ _ h
    refine ⟨Or.inl ⟨rfl, _, sq_of h2⟩, l, ys ++ [y], y, rfl, rfl, h2, by simp, upd H l (.lst ys), ?_, k⟩
    rw [List.dropLast_concat]
    exact ex_upd (e1.trans e2)
theorem em_append (ho : EV X o σ H (.ref l)) (he : EM X e σ H fun v Hb => ∃ xs, Hb l = some (.lst xs) ∧ xs.length < 100000 ∧ R .non (upd Hb l (.lst (xs ++ [v])))) (h : H l = some (.lst xs))
    (hbase : attributeBase o "append" X.env (eval o X.env) = eval o X.env := by rfl)
    (hfew : ((backTo cpos (starEach [e] X.env)).all (fun x => !x.1) && (backToKw cpos (keywordEach [] X.env)).all (fun x => x.1.isSome) && decide (([e] : List Expr).length + ([] : List Keyword).length + (if ([] : List Keyword).isEmpty then 0 else 1) < 30)) = true := by rfl)
    (hline : (apos.endLine == cpos.line) = true := by rfl) (hs : starEach [e] X.env = (false, eval e X.env) :: starEach [] X.env := by rfl) (hplain : (backTo cpos (starEach [] X.env)).any (·.1) = false := by rfl) :
    EM X (.Call (.Attribute o "append" apos) [e] [] cpos) σ H R :=
  EM.of (pe_bm PySem.F.plainAttrs_list PySem.F.slot_list_append PySem.F.type_list_append mt_append pe_sem (pa_cons pe_sem pa_nil hs) hbase hfew hline hs hplain) fun H1 e1 => (EV.ev ho) H1 e1 _ fun H2 e2 =>
    ⟨Or.inl ⟨rfl, xs, sq_of ((e1.trans e2) _ _ h)⟩, sem_mono (he H2 (e1.trans e2)) fun v H3 ⟨Hb, e3, ys, q1, q2, q3⟩ => ⟨l, ys, v, rfl, rfl, e3 _ _ q1, sz_lt q2, _, ex_upd e3, q3⟩⟩
theorem em_appendV (ho : EV X o σ H (.ref l)) (he : EV X e σ H v) (h : H l = some (.lst xs)) (hz : xs.length < 100000) (k : R .non (upd H l (.lst (xs ++ [v]))))
    (hbase : attributeBase o "append" X.env (eval o X.env) = eval o X.env := by rfl)
    (hfew : ((backTo cpos (starEach [e] X.env)).all (fun x => !x.1) && (backToKw cpos (keywordEach [] X.env)).all (fun x => x.1.isSome) && decide (([e] : List Expr).length + ([] : List Keyword).length + (if ([] : List Keyword).isEmpty then 0 else 1) < 30)) = true := by rfl)
    (hline : (apos.endLine == cpos.line) = true := by rfl) (hs : starEach [e] X.env = (false, eval e X.env) :: starEach [] X.env := by rfl) (hplain : (backTo cpos (starEach [] X.env)).any (·.1) = false := by rfl) :
    EM X (.Call (.Attribute o "append" apos) [e] [] cpos) σ H R := em_append ho (EM.ev he ⟨xs, h, hz, k⟩) h hbase hfew hline hs hplain
/-- extend by what makes a list that nobody else has -/
theorem em_extend {φ : V → Hp → Prop} (ho : EV X o σ H (.ref l)) (he : EN X e σ H φ) (h : H l = some (.lst xs)) (k : ∀ v H2, Ex H H2 → φ v H2 → ∃ p ys, v = .ref p ∧ H2 p = some (.lst ys) ∧ xs.length + ys.length ≤ 100000 ∧ R .non (upd H2 l (.lst (xs ++ ys))))
    (hbase : attributeBase o "extend" X.env (eval o X.env) = eval o X.env := by rfl)
    (hfew : ((backTo cpos (starEach [e] X.env)).all (fun x => !x.1) && (backToKw cpos (keywordEach [] X.env)).all (fun x => x.1.isSome) && decide (([e] : List Expr).length + ([] : List Keyword).length + (if ([] : List Keyword).isEmpty then 0 else 1) < 30)) = true := by rfl)
    (hline : (apos.endLine == cpos.line) = true := by rfl) (hs : starEach [e] X.env = (false, eval e X.env) :: starEach [] X.env := by rfl) (hplain : (backTo cpos (starEach [] X.env)).any (·.1) = false := by rfl) :
    EM X (.Call (.Attribute o "extend" apos) [e] [] cpos) σ H R :=
  EM.of (pe_bm PySem.F.plainAttrs_list PySem.F.slot_list_extend PySem.F.type_list_extend mt_extend pe_sem (pa_cons pe_sem pa_nil hs) hbase hfew hline hs hplain) fun H1 e1 => (EV.ev ho) H1 e1 _ fun H2 e2 =>
    ⟨Or.inl ⟨rfl, xs, sq_of ((e1.trans e2) _ _ h)⟩, sem_mono (he H2 (e1.trans e2)) fun v H3 ⟨e3, q⟩ => by
      have e13 := (e1.trans e2).trans e3
      obtain ⟨p, ys, rfl, q1, q2, q3⟩ := k v H3 e13 q
      exact ⟨l, p, xs, ys, rfl, rfl, e13 _ _ h, q1, sz_of q2, _, Ex.refl _, q3⟩⟩
/-! ### a list of ints against [] -/
theorem dp_ints {K : PySem.W.Frag} {H : Hp} : ∀ ns : List Int, DpAll K H (ns.map V.int) (ns.map PyData.int)
  | [] => .nil
  | n :: ns => .cons (.int n) (dp_ints ns)
theorem lay_ints : ∀ ns : List Int, PyData.canLayAll0 (ns.map PyData.int) = true
  | [] => rfl
  | n :: ns => by
    simp only [List.map_cons, PyData.canLayAll0, PyData.canLay0, Bool.true_and]
    exact lay_ints ns
theorem depth_ints : ∀ ns : List Int, PyData.depthAll (ns.map PyData.int) ≤ 1
  | [] => by simp [PyData.depthAll]
  | n :: ns => by
    have := depth_ints ns
    simp only [List.map_cons, PyData.depthAll, PyData.depth]
    omega
theorem shaped_ints (ns : List Int) : SeqAt.shaped (.list (ns.map PyData.int)) = true := by
  have := depth_ints ns
  unfold SeqAt.shaped
  rw [Bool.and_eq_true]
  refine ⟨by rw [PyData.canLay0]; exact lay_ints ns, decide_eq_true ?_⟩
  rw [PyData.depth]
  omega
theorem eqv_nil (ns : List Int) : PyData.eqv (.list (ns.map PyData.int)) (.list []) = ns.isEmpty := by
  cases ns <;> simp [PyData.eqv, PyData.eqvAll]
variable {ns : List Int}
theorem ev_neNil (hu : X.A.units + 64 < cLine) (ha : EV X a σ H (.ref p)) (h : SqL X.K H p (ns.map V.int)) : EV X (.Compare a [.NotEq] [.List [] pos'] pos) σ H (.bl (!ns.isEmpty)) :=
  EN.of (pe_cmpR (op_neD hu) pe_sem (pe_lst pa_nil) (nomark _)) fun H1 e1 => (EV.ev ha) H1 e1 _ fun H2 e2 => ⟨Nat.zero_le _, fun r hr => ⟨_, _, .lst (ex_l ((e1.trans e2).trans (Ex.new hr)) h) (dp_ints ns), .lst (.inl (.inl upd_same)) .nil, shaped_ints ns, shaped_ints [], e2.trans (Ex.new hr), by rw [eqv_nil]⟩⟩
theorem ev_eqNil (hu : X.A.units + 64 < cLine) (ha : EV X a σ H (.ref p)) (h : SqL X.K H p (ns.map V.int)) : EV X (.Compare a [.Eq] [.List [] pos'] pos) σ H (.bl ns.isEmpty) :=
  EN.of (pe_cmpR (op_eqD hu) pe_sem (pe_lst pa_nil) (nomark _)) fun H1 e1 => (EV.ev ha) H1 e1 _ fun H2 e2 => ⟨Nat.zero_le _, fun r hr => ⟨_, _, .lst (ex_l ((e1.trans e2).trans (Ex.new hr)) h) (dp_ints ns), .lst (.inl (.inl upd_same)) .nil, shaped_ints ns, shaped_ints [], e2.trans (Ex.new hr), by rw [eqv_nil]⟩⟩
/-! ### tests -/
theorem et_tst {te : TE} {bb : Bool} (h : Evl.Ev te σ H (.bl bb)) : Evl.EvT (tTest te) σ H bb := Evl.et_test h
theorem tn_lt (ha : EV X a σ H (.int n)) (hb : EV X b σ H (.int m)) : TN X (.Compare a [.Lt] [b] pos) σ H (decide (n < m)) := TN.of (pt_cmpR op_lt pe_sem pe_sem (nomark _)) (et_tst (ev_op (EV.ev ha) (EV.ev hb) rv_I0))
theorem tn_gt (ha : EV X a σ H (.int n)) (hb : EV X b σ H (.int m)) : TN X (.Compare a [.Gt] [b] pos) σ H (decide (m < n)) := TN.of (pt_cmpR op_gt pe_sem pe_sem (nomark _)) (et_tst (ev_op (EV.ev ha) (EV.ev hb) rv_I0))
theorem tn_ge (ha : EV X a σ H (.int n)) (hb : EV X b σ H (.int m)) : TN X (.Compare a [.GtE] [b] pos) σ H (decide (m ≤ n)) := TN.of (pt_cmpR op_ge pe_sem pe_sem (nomark _)) (et_tst (ev_op (EV.ev ha) (EV.ev hb) rv_I0))
theorem tn_le (ha : EV X a σ H (.int n)) (hb : EV X b σ H (.int m)) : TN X (.Compare a [.LtE] [b] pos) σ H (decide (n ≤ m)) := TN.of (pt_cmpR op_le pe_sem pe_sem (nomark _)) (et_tst (ev_op (EV.ev ha) (EV.ev hb) rv_I0))
theorem tn_eq (ha : EV X a σ H v) (hb : EV X b σ H w) (hs : scal v w = true) : TN X (.Compare a [.Eq] [b] pos) σ H (decide (v = w)) := TN.of (pt_cmpR op_eq pe_sem pe_sem (nomark _)) (et_tst (ev_op (EV.ev ha) (EV.ev hb) (rv_eq hs)))
theorem tn_ne (ha : EV X a σ H v) (hb : EV X b σ H w) (hs : scal v w = true) : TN X (.Compare a [.NotEq] [b] pos) σ H (!decide (v = w)) := TN.of (pt_cmpR op_ne pe_sem pe_sem (nomark _)) (et_tst (ev_op (EV.ev ha) (EV.ev hb) (rv_ne hs)))
theorem tn_neNil (hu : X.A.units + 64 < cLine) (ha : EV X a σ H (.ref p)) (h : SqL X.K H p (ns.map V.int)) : TN X (.Compare a [.NotEq] [.List [] pos'] pos) σ H (!ns.isEmpty) := ⟨fun H1 e1 =>
  semT_of (pt_cmpR (op_neD hu) pe_sem (pe_lst pa_nil) (nomark _)) ((EV.ev ha) H1 e1 _ fun H2 e2 => ⟨Nat.zero_le _, fun r hr => ⟨_, _, .lst (ex_l ((e1.trans e2).trans (Ex.new hr)) h) (dp_ints ns), .lst (.inl (.inl upd_same)) .nil, shaped_ints ns, shaped_ints [], _, rfl, e2.trans (Ex.new hr), by rw [eqv_nil]⟩⟩)⟩
theorem tn_eqNil (hu : X.A.units + 64 < cLine) (ha : EV X a σ H (.ref p)) (h : SqL X.K H p (ns.map V.int)) : TN X (.Compare a [.Eq] [.List [] pos'] pos) σ H ns.isEmpty := ⟨fun H1 e1 =>
  semT_of (pt_cmpR (op_eqD hu) pe_sem (pe_lst pa_nil) (nomark _)) ((EV.ev ha) H1 e1 _ fun H2 e2 => ⟨Nat.zero_le _, fun r hr => ⟨_, _, .lst (ex_l ((e1.trans e2).trans (Ex.new hr)) h) (dp_ints ns), .lst (.inl (.inl upd_same)) .nil, shaped_ints ns, shaped_ints [], _, rfl, e2.trans (Ex.new hr), by rw [eqv_nil]⟩⟩)⟩
/-- and, or -/
def semW (X : Cx) (e : Expr) : TT := fun σ H Q => ∀ (whole : Sem Value) (pins : List (Addr × Obj)) (s : Shared), Inv X pins σ H s → wpAny (model X.prog X.w) X.A (isTrue e X.env whole) (TP X pins σ Q) X.xe s
theorem pw_sem : PW X e (semW X e) := ⟨fun whole pins s _ _ _ I h => h whole pins s I⟩
theorem semW_of {te : TT} (h : PW X e te) {Q : Bool → Hp → Prop} (q : te σ H Q) : semW X e σ H Q := fun whole pins s I => h.run whole pins s σ H Q I q
theorem semW_mono {Q Q' : Bool → Hp → Prop} (h : semW X e σ H Q) (k : ∀ v H', Q v H' → Q' v H') : semW X e σ H Q' := fun whole pins s I => thn (h whole pins s I) fun b _ ⟨H', I', q⟩ => ⟨H', I', k b H' q⟩
structure TW (X : Cx) (e : Expr) (σ : L2.St) (H : Hp) (b : Bool)  : Prop where
  run : ∀ H1, Ex H H1 → semW X e σ H1 fun b' H2 => Ex H1 H2 ∧ b' = b
instance {X : Cx} {e : Expr} {σ : L2.St} {H : Hp} {b : Bool} : CoeFun (TW X e σ H b) fun _ => ∀ H1, Ex H H1 → semW X e σ H1 fun b' H2 => Ex H1 H2 ∧ b' = b := ⟨TW.run⟩
variable {bb cc : Bool} {es : List Expr}
theorem TW.of {te : TT} {b : Bool} (h : PW X e te) (q : Evl.EvT te σ H b) : TW X e σ H b := ⟨fun H1 e1 => semW_of h (q H1 e1 _ fun H2 e2 => ⟨e2, rfl⟩)⟩
theorem TW.ev {b : Bool} (h : TW X e σ H b) : Evl.EvT (semW X e) σ H b := fun H1 e1 Q q => semW_mono (h H1 e1) fun u H2 ⟨e2, hu⟩ => by subst hu; exact q H2 e2
theorem TW.tn (h : TW X e σ H bb) : TN X e σ H bb := TN.of (PW.pt pw_sem) (TW.ev h)
theorem tw_and1 (h : TN X a σ H bb) : TW X (.BoolOp .And [a] pos) σ H bb := TW.of (pw_and1 pt_sem) (TN.ev h)
theorem tw_or1 (h : TN X a σ H bb) : TW X (.BoolOp .Or [a] pos) σ H bb := TW.of (pw_or1 pt_sem) (TN.ev h)
theorem tw_and (h : TN X a σ H bb) (h2 : bb = true → TW X (.BoolOp .And (b :: es) pos) σ H cc) : TW X (.BoolOp .And (a :: b :: es) pos) σ H (bb && cc) := TW.of (pw_and pt_sem pw_sem) (et_and (TN.ev h) fun q => TW.ev (h2 q))
theorem tw_or (h : TN X a σ H bb) (h2 : bb = false → TW X (.BoolOp .Or (b :: es) pos) σ H cc) : TW X (.BoolOp .Or (a :: b :: es) pos) σ H (bb || cc) := TW.of (pw_or pt_sem pw_sem) (et_or (TN.ev h) fun q => TW.ev (h2 q))
theorem tn_and (h : TN X a σ H bb) (h2 : bb = true → TN X b σ H cc) : TN X (.BoolOp .And [a, b] pos) σ H (bb && cc) := (tw_and h fun q => tw_and1 (h2 q)).tn
theorem tn_or (h : TN X a σ H bb) (h2 : bb = false → TN X b σ H cc) : TN X (.BoolOp .Or [a, b] pos) σ H (bb || cc) := (tw_or h fun q => tw_or1 (h2 q)).tn
/-- as values -/
theorem ev_and1 (h : EV X a σ H v) : EV X (.BoolOp .And [a] pos) σ H v := EV.of (pe_one pe_sem) (EV.ev h)
theorem ev_or1 (h : EV X a σ H v) : EV X (.BoolOp .Or [a] pos) σ H v := EV.of (pe_one pe_sem) (EV.ev h)
theorem ev_and (h : EV X a σ H (.bl bb)) (h2 : bb = true → EV X (.BoolOp .And (b :: es) pos) σ H (.bl cc)) : EV X (.BoolOp .And (a :: b :: es) pos) σ H (.bl (bb && cc)) := EV.of (pe_and pe_sem pe_sem) (ev_andV (EV.ev h) fun q => EV.ev (h2 q))
theorem ev_or (h : EV X a σ H (.bl bb)) (h2 : bb = false → EV X (.BoolOp .Or (b :: es) pos) σ H (.bl cc)) : EV X (.BoolOp .Or (a :: b :: es) pos) σ H (.bl (bb || cc)) := EV.of (pe_or pe_sem pe_sem) (ev_orV (EV.ev h) fun q => EV.ev (h2 q))
end
end Y
set_option Elab.async false
set_option linter.all false
set_option maxRecDepth 100000
set_option maxHeartbeats 4000000
namespace Y
open PySem PySem.Spec PyProof.Rows L2 Evl
section
variable {X : Cx} {σ : L2.St} {H H' : Hp} {v w x y z : V} {e a b c f o : Expr} {i j k : Nat} {K : PySem.W.Frag} {n m : Int} {pos pos' apos cpos p2 : Pos} {D : Ends} {rest : List Stmt} {R : V → Hp → Prop} {l p : Addr} {xs ys : List V} {φ : V → Hp → Prop} {nm : Str}
/-- a list, a tuple that nobody else has -/
def NL (H : Hp) (xs : List V) : V → Hp → Prop := fun v H2 => ∃ p, v = .ref p ∧ H p = none ∧ H2 p = some (.lst xs)
def NT (H : Hp) (xs : List V) : V → Hp → Prop := fun v H2 => ∃ p, v = .ref p ∧ H p = none ∧ H2 p = some (.tup xs)
theorem EN.ofL {te : TE} (h : PE X e te) (q : EvL te σ H xs) : EN X e σ H (NL H xs) := EN.of h fun H1 e1 => q H1 e1 _ fun p H2 hp e2 h2 => ⟨e2, p, rfl, fresh_back e1 hp, h2⟩
theorem srcN (h : EN X e σ H (NL H xs)) : EN X e σ H fun v H2 => ∃ r, v = .ref r ∧ SqL X.K H2 r xs := h.weak fun v H2 _ ⟨r, q, _, h2⟩ => ⟨r, q, sq_of h2⟩
/-- a part of a slice -/
def OV (X : Cx) (e : Option Expr) (σ : L2.St) (H : Hp) (o : Option Int) : Prop := ∃ t, PO X e t ∧ EvO t σ H o
theorem ov_n : OV X none σ H none := ⟨_, po_none, eo_none⟩
theorem ov_s (h : EV X e σ H (.int n)) : OV X (some e) σ H (some n) := ⟨_, po_some pe_sem, eo_some (EV.ev h)⟩
variable {lo hi : Option Expr} {lv hv : Option Int}
theorem en_slL (h : EV X e σ H (.ref p)) (hx : SqL X.K H p xs) (h1 : OV X lo σ H lv) (h2 : OV X hi σ H hv) : EN X (.Subscript e (.Slice lo hi none p2) pos) σ H (NL H (cutV xs lv hv)) := let ⟨_, q1, r1⟩ := h1; let ⟨_, q2, r2⟩ := h2; EN.ofL (pe_slice sl_list pe_sem q1 q2) (el_sl (EV.ev h) r1 r2 hx)
/-- a slice of a list that nobody else has -/
theorem en_slN (h : EN X e σ H (NL H xs)) (h1 : OV X lo σ H lv) (h2 : OV X hi σ H hv) : EN X (.Subscript e (.Slice lo hi none p2) pos) σ H (NL H (cutV xs lv hv)) := let ⟨_, q1, r1⟩ := h1; let ⟨_, q2, r2⟩ := h2; EN.of (pe_slice sl_list pe_sem q1 q2) fun H1 e1 => sem_mono (h H1 e1) fun v H2 ⟨e2, r, er, _, hr⟩ =>
  r1 H2 (e1.trans e2) _ fun H3 e3 => r2 H3 ((e1.trans e2).trans e3) _ fun H4 e4 => ⟨r, xs, er, sq_of ((e3.trans e4) _ _ hr), fun q hq => ⟨((e2.trans e3).trans e4).trans (Ex.new hq), q, rfl, fresh_back (((e1.trans e2).trans e3).trans e4) hq, upd_same⟩⟩
theorem en_rev {k : Nat} {p1 p2 p3 : Pos} (h : EN X e σ H (NL H xs)) : EN X (.Subscript e (.Slice none none (some (.UnaryOp .USub (.Constant (.int 1) k p1) p2)) p3) pos) σ H (NL H xs.reverse) := EN.of (pe_revL pe_sem) fun H1 e1 => sem_mono (h H1 e1) fun v H2 ⟨e2, r, er, _, hr⟩ =>
  ⟨r, xs, er, sq_of hr, fun q hq => ⟨e2.trans (Ex.new hq), q, rfl, fresh_back (e1.trans e2) hq, upd_same⟩⟩
/-- a slice of a tuple: itself, or a new one -/
theorem cutV_all {xs : List V} {lo hi : Option Int} (h1 : HT.sIx xs.length 0 lo = 0) (h2 : HT.sIx xs.length xs.length hi = xs.length) : cutV xs lo hi = xs := by
  unfold cutV
  rw [h1, h2, List.drop_zero, Nat.sub_zero, List.take_length]
theorem en_slT (h : EV X e σ H (.ref p)) (hx : SqT X.K H p xs) (h1 : OV X lo σ H lv) (h2 : OV X hi σ H hv) : EN X (.Subscript e (.Slice lo hi none p2) pos) σ H fun v H2 => ∃ r, v = .ref r ∧ SqT X.K H2 r (cutV xs lv hv) := let ⟨_, q1, r1⟩ := h1; let ⟨_, q2, r2⟩ := h2
  EN.of (pe_slice sl_tupA pe_sem q1 q2) fun H1 e1 => (EV.ev h) H1 e1 _ fun H2 e2 => r1 H2 (e1.trans e2) _ fun H3 e3 => r2 H3 ((e1.trans e2).trans e3) _ fun H4 e4 =>
    ⟨p, xs, rfl, ex_t (((e1.trans e2).trans e3).trans e4) hx, fun z => ⟨(e2.trans e3).trans e4, p, rfl, by rw [cutV_all z.1 z.2]; exact ex_t (((e1.trans e2).trans e3).trans e4) hx⟩, fun _ q hq => ⟨((e2.trans e3).trans e4).trans (Ex.new hq), q, rfl, .inl (.inl upd_same)⟩⟩
theorem ev_slS {t : Str} (h : EV X e σ H (.str t)) (hz : t.length ≤ sizeLine) (h1 : OV X lo σ H lv) (h2 : OV X hi σ H hv) : EV X (.Subscript e (.Slice lo hi none p2) pos) σ H (.str (cutS t lv hv)) := let ⟨_, q1, r1⟩ := h1; let ⟨_, q2, r2⟩ := h2
  EN.of (pe_slice sl_str pe_sem q1 q2) fun H1 e1 => (EV.ev h) H1 e1 _ fun H2 e2 => r1 H2 (e1.trans e2) _ fun H3 e3 => r2 H3 ((e1.trans e2).trans e3) _ fun H4 e4 => ⟨t, rfl, hz, (e2.trans e3).trans e4, rfl⟩
theorem ev_addS {s t : Str} (ha : EV X a σ H (.str s)) (hb : EV X b σ H (.str t)) (hz : s.length + t.length ≤ sizeLine) : EV X (.BinOp a .Add b pos) σ H (.str (s ++ t)) :=
  EN.of (pe_op op_add_str pe_sem pe_sem) fun H1 e1 => (EV.ev ha) H1 e1 _ fun H2 e2 => (EV.ev hb) H2 (e1.trans e2) _ fun H3 e3 => ⟨s, t, rfl, rfl, hz, e2.trans e3, rfl⟩
/-! ### in -/
theorem tn_in (ha : EV X a σ H x) (hb : EV X b σ H (.ref p)) (h : SqL X.K H p xs ∨ SqT X.K H p xs) (fx : flatV x = true) (fs : xs.all flatV = true) (hm : behindInMarks .In b = false := by rfl) : TN X (.Compare a [.In] [b] pos) σ H (inV x xs) := ⟨fun H1 e1 =>
  semT_of (pt_cmpR op_in_seq pe_sem pe_sem hm) ((EV.ev ha) H1 e1 _ fun H2 e2 => (EV.ev hb) H2 (e1.trans e2) _ fun H3 e3 => ⟨p, xs, rfl, h.imp (ex_l ((e1.trans e2).trans e3)) (ex_t ((e1.trans e2).trans e3)), fx, fs, _, rfl, e2.trans e3, rfl⟩)⟩
theorem tn_notIn (ha : EV X a σ H x) (hb : EV X b σ H (.ref p)) (h : SqL X.K H p xs ∨ SqT X.K H p xs) (fx : flatV x = true) (fs : xs.all flatV = true) (hm : behindInMarks .NotIn b = false := by rfl) : TN X (.Compare a [.NotIn] [b] pos) σ H (!inV x xs) := ⟨fun H1 e1 =>
  semT_of (pt_cmpR op_notIn_seq pe_sem pe_sem hm) ((EV.ev ha) H1 e1 _ fun H2 e2 => (EV.ev hb) H2 (e1.trans e2) _ fun H3 e3 => ⟨p, xs, rfl, h.imp (ex_l ((e1.trans e2).trans e3)) (ex_t ((e1.trans e2).trans e3)), fx, fs, _, rfl, e2.trans e3, rfl⟩)⟩
theorem ev_in (ha : EV X a σ H x) (hb : EV X b σ H (.ref p)) (h : SqL X.K H p xs ∨ SqT X.K H p xs) (fx : flatV x = true) (fs : xs.all flatV = true) (hm : behindInMarks .In b = false := by rfl) : EV X (.Compare a [.In] [b] pos) σ H (.bl (inV x xs)) :=
  EN.of (pe_cmpR op_in_seq pe_sem pe_sem hm) fun H1 e1 => (EV.ev ha) H1 e1 _ fun H2 e2 => (EV.ev hb) H2 (e1.trans e2) _ fun H3 e3 => ⟨p, xs, rfl, h.imp (ex_l ((e1.trans e2).trans e3)) (ex_t ((e1.trans e2).trans e3)), fx, fs, e2.trans e3, rfl⟩
/-! ### loops over what makes a list -/
theorem rx_forN (i : Nat) {l : Expr} {body : List Stmt} (hp : PassesOwn (model X.prog X.w) X.A X.env X.xe) (hc : X.calm = true) (hl : EN X l σ H φ)
    (k : ∀ v H2, Ex H H2 → φ v H2 → ∃ (r : Addr) (xs : List V) (P : Nat → L2.St → Hp → Prop), v = .ref r ∧ SqL X.K H2 r xs ∧ P 0 σ H2 ∧ (∀ n σ' Hb, n ≤ xs.length → P n σ' Hb → SqL X.K Hb r xs) ∧
      (∀ n x σ' Hb, xs[n]? = some x → P n σ' Hb → RX X body { D with nx := UpS (P (n + 1)), ct := UpS (P (n + 1)), bk := semS X rest D } (σ'.set i (some x)) Hb) ∧ ∀ σ' Hb, P xs.length σ' Hb → RX X rest D σ' Hb)
    (hN : X.N.Nodup) (hi : X.N[i]? = some nm := by rfl) (hlo : Loc X.env.scope nm := by first | exact Or.inl rfl | exact Or.inr rfl)
    (hf : X.fn nm = true ∨ X.env.scope.names.lookup nm = some .local := by first | exact .inl rfl | exact .inr rfl) (hfo : ∀ x, foldedSetIterable l X.env x = pure x := by intro _; rfl) : RX X (.For (.Name nm pos') l body [] pos :: rest) D σ H :=
  rx_of (ps_for hp hc (pi_list pe_sem) (pg_name hN hi hlo hf) pss_sem hfo) fun H1 e1 => sem_mono (hl H1 e1) fun v H2 ⟨e2, q⟩ => by
    obtain ⟨r, xs, P, rfl, hx, h0, hk, hs, hd⟩ := k v H2 (e1.trans e2) q
    exact ⟨r, rfl, ⟨xs, hx⟩, for_list (D := { D with nx := semS X rest D }) (fun n => UpS (P n)) ⟨H2, Ex.refl _, h0⟩ (fun n σ' H' hn ⟨Hb, e, p⟩ => ex_l e (hk n σ' Hb hn p)) (fun n x σ' H' hx ⟨Hb, e, p⟩ => hs n x σ' Hb hx p H' e) fun σ' H' ⟨Hb, e, p⟩ => hd σ' Hb p H' e⟩
/-- a comprehension over range(n), its turns make nothing known -/
theorem en_lcR (j : Nat) {elt g : Expr} {xn : Str} {px q1 q2 : Pos} {scope : Scope} {own : List (Str × Nat)} (hc : X.calm = true) (hN : X.N.Nodup) (ok : BlkOk X.N X.env.scope scope own) (hgl : Gl X "range") (hm : X.mg "range" = none)
    (ψ : Int → Prop) (hl : EN X g σ H fun v _ => ∃ n : Int, v = .int n ∧ 0 ≤ n ∧ n ≤ 100000 ∧ ψ n)
    (hg : ∀ (s : Shared) (H : Hp) (C : Addr) (cl : List (Str × Addr)) (fp : List Addr), PG (X.blk s H scope (compEnvC scope cl C X.env) fp) (.Name xn px) (gName j))
    (hw : ∀ v, wipe ((wipe σ (own.map (·.2))).set j (some v)) (own.map (·.2)) = wipe σ (own.map (·.2)))
    (P : Nat → List V → Hp → Prop) (hP : ∀ n acc H1 H2, Tx H1 H2 → P n acc H1 → P n acc H2) (h0 : P 0 [] H)
    (hs : ∀ (n : Nat) acc Hb (s : Shared) (H' : Hp) (C : Addr) (cl : List (Str × Addr)) (fp : List Addr), n < 100000 → Ex H Hb → P n acc Hb → EN (X.blk s H' scope (compEnvC scope cl C X.env) fp) elt ((wipe σ (own.map (·.2))).set j (some (.int (n : Int)))) Hb fun v H2 => P (n + 1) (acc ++ [v]) H2)
    (hst : starEach [g] X.env = (false, eval g X.env) :: starEach [] X.env := by rfl) :
    EN X (.ListComp elt [⟨.Name xn px, .Call (.Name "range" q1) [g] [] q2, [], 0⟩] scope pos) σ H fun v H2 => ∃ (D : Addr) (acc : List V) (n : Nat), v = .ref D ∧ H D = none ∧ H2 D = some (.lst acc) ∧ acc.length ≤ n ∧ n ≤ 100000 ∧ ψ (n : Int) ∧ P n acc H2 :=
  EN.of (pe_lc hc hN (pi_range1 hgl hm (pa_cons pe_sem pa_nil hst) hst) ok hg (fun _ _ _ _ _ => pts_nil) (fun s H' C cl fp => pe_blk s H' C cl fp)) fun H1 e1 => sem_mono (hl H1 e1) fun v H2 ⟨e2, n, en, n0, n1, n2⟩ => ⟨n, by rw [en], by omega, by omega, fun D hD =>
    lc_range (lo := 0) (n := n.toNat) (LcW H2 D P) ⟨[], Nat.le_refl _, hD, Ex.new hD, upd_same, hP _ _ _ _ (Tx.trans (e1.trans e2).tx (Ex.new hD).tx) h0⟩
      (fun i H' hi ⟨acc, q1, q2, q3, q4, q5⟩ => ⟨hw _, by
        refine iteT (B := LcW H2 D P (i + 1) H') ?_
        rw [Int.zero_add]
        exact fun s H'' C cl fp => sem_mono (hs i acc H' s H'' C cl fp (by omega) ((e1.trans e2).trans q3) q5 H' (Ex.refl H')) fun v H4 ⟨e4, q6⟩ => LcW.push hP q1 q2 (q3.trans e4) (e4 D _ q4) (by omega) q6⟩)
      (fun H' ⟨acc, q1, q2, q3, q4, q5⟩ => ⟨e2.trans q3, D, acc, n.toNat, rfl, fresh_back (e1.trans e2) q2, q4, q1, by omega, by rw [Int.toNat_of_nonneg n0]; exact n2, q5⟩)⟩
end
end Y
set_option Elab.async false
set_option linter.all false
set_option maxRecDepth 100000
set_option maxHeartbeats 4000000
namespace Y
open PySem PySem.Spec PyProof.Rows L2 Evl
section
variable {X : Cx} {σ : L2.St} {H H' : Hp} {v w x y z : V} {e a b c f o : Expr} {i j k : Nat} {K : PySem.W.Frag} {n m : Int} {pos pos' apos cpos p2 : Pos} {D : Ends} {rest : List Stmt} {R : V → Hp → Prop} {l p : Addr} {xs ys : List V} {φ φ1 φ2 φ3 : V → Hp → Prop} {nm : Str}
theorem em_disp3 {s1 s2 s3 : Str} {j1 j2 j3} {q1 q2 q3 : Pos} {v1 v2 v3 : Expr} (h1 : EN X v1 σ H φ1) (h2 : EN X v2 σ H φ2) (h3 : EN X v3 σ H φ3)
    (hk : ∀ x1 x2 x3 : V, mergeK [] [(Sum.inr s1, x1), (Sum.inr s2, x2), (Sum.inr s3, x3)] = [(Sum.inr s1, x1), (Sum.inr s2, x2), (Sum.inr s3, x3)])
    (k : ∀ p x1 x2 x3 Ha Hb Hc, H p = none → Ex (upd H p (.dK [])) Ha → φ1 x1 Ha → Ex Ha Hb → φ2 x2 Hb → Ex Hb Hc → φ3 x3 Hc → R (.ref p) (upd Hc p (.dK [(Sum.inr s1, x1), (Sum.inr s2, x2), (Sum.inr s3, x3)]))) :
    EM X (.Dict [some (.Constant (.str s1) j1 q1), some (.Constant (.str s2) j2 q2), some (.Constant (.str s3) j3 q3)] [v1, v2, v3] pos) σ H R :=
  EM.of (pe_disp (pps_cons pe_str pe_sem (pps_cons pe_str pe_sem (pps_cons pe_str pe_sem pps_nil))) (by rfl) (by rfl) (fun z => by cases z) (by show 3 ≤ 15; decide)) fun H1 e1 p hp => by
    have e0 : Ex H (upd H1 p (.dK [])) := e1.trans (Ex.new hp)
    refine sem_mono (h1 _ e0) fun x1 Ha ⟨ea, f1⟩ => sem_mono (h2 _ (e0.trans ea)) fun x2 Hb ⟨eb, f2⟩ => sem_mono (h3 _ ((e0.trans ea).trans eb)) fun x3 Hc ⟨ec, f3⟩ => ?_
    refine ⟨((ea.trans eb).trans ec) _ _ upd_same, [(Sum.inr s1, x1), (Sum.inr s2, x2), (Sum.inr s3, x3)], rfl, by show 3 ≤ 15; decide, ?_⟩
    rw [hk]
    exact ⟨_, Ex.refl _, k p x1 x2 x3 Ha Hb Hc (fresh_back e1 hp) ((ex_upd e1).trans ea) f1 eb f2 ec f3⟩
/-- ''.join(a list of texts that nobody else has) -/
theorem en_join {s : Str} (ho : EV X o σ H (.str s)) (he : EN X e σ H fun v H2 => ∃ (p : Addr) (ys : List Str), v = .ref p ∧ H2 p = some (.lst (ys.map V.str)) ∧ (ys.map (·.length)).sum + ys.length * s.length ≤ 16777216 ∧ φ (.str (Txt.join s ys)) H2)
    (hφ : ∀ v H1 H2, Ex H1 H2 → φ v H1 → φ v H2)
    (hs : starEach [e] X.env = [(false, eval e X.env)] := by rfl) (hbase : attributeBase o "join" X.env (eval o X.env) = eval o X.env := by rfl) (hline : (apos.endLine == pos.line) = true := by rfl) : EN X (.Call (.Attribute o "join" apos) [e] [] pos) σ H φ :=
  EN.of (pe_join pe_sem pe_sem hs hbase hline) fun H1 e1 => (EV.ev ho) H1 e1 _ fun H2 e2 => ⟨⟨s, rfl⟩, sem_mono (he H2 (e1.trans e2)) fun v H3 ⟨e3, p, ys, ev, hp, hz, q⟩ => ⟨s, p, ys, rfl, by rw [ev], .inl (sq_of hp), hz, e2.trans e3, q⟩⟩
end
end Y
set_option Elab.async false
set_option linter.all false
set_option maxRecDepth 100000
set_option maxHeartbeats 4000000
namespace Y
open PySem PySem.Spec PyProof.Rows L2 Evl
/-- a def of the text as it stands behind the top, by its name -/
structure Def (K : PySem.W.Frag) (mg : Str → Option Value) (nm : Str) (st : Stmt) : Prop where
  ex : ∃ f fd, Fun K nm nm st f fd ∧ mg nm = some (.ref f)
/-- a def that keeps its promise, by its name -/
structure Own (P : Program) (w : World) (K : PySem.W.Frag) (mg : Str → Option Value) (base : Heap) (nm : Str) (ps : List Str) (lv : Nat) (sp : Sp) : Prop where
  ex : ∃ g fd, FnOk P w K mg base CX0 lv g fd ps sp ∧ PySem.W.keepIn K (.ref g) = true ∧ Binds K fd ps [] ∧ mg nm = some (.ref g)
section
variable {P : Program} {w : World} {K : PySem.W.Frag} {mg : Str → Option Value} {base : Heap} {nm : Str} {st : Stmt} {N ps : List Str} {k : Nat} {sp sp' : Sp}
/-- THE RULE for a def by what its body runs to -/
theorem Def.own (D : Def K mg nm st) (S : FnScope N ps (defScope st)) (len : ∀ vs H Q E, sp vs H Q E → vs.length = ps.length)
    (hb : ∀ (kV doc pm : Value) (an : Option Addr) (cdv ct : Value) (us : List Value), us.length = ps.length → bindArgs (PySem.W.fnOf nm nm (defArgs st) (defBody st) (defScope st) .none kV doc pm an cdv ct) ⟨us, []⟩ = pure (ps.zip us))
    (hbody : ∀ (X : Cx) (H : Hp) (vs : List V) (Q : VK) (E : XK), (∃ (f : Addr) (cdv : Value) (A : Around) (outer : List Env) (s : Shared), X = (cxOf CX0 P w K mg base N nm (defScope st) f cdv A outer s H E).nox) → Room k X.A → sp vs H Q E → RX X (defBody st) { nx := fun _ H' => Q .non H', rt := Q } (start N vs) H) : Own P w K mg base nm ps (k + 1) sp := by
  obtain ⟨f, fd, F, m⟩ := D.ex
  refine ⟨f, fd, F.ok S len fun cdv A outer s H vs Q E hr h => ⟨_, pss_sem, ?_⟩, F.kp, F.binds hb, m⟩
  exact (hbody _ H vs Q E ⟨f, cdv, A, outer, s, rfl⟩ hr h) H (Ex.refl H)
theorem Own.imp (O : Own P w K mg base nm ps k sp) (h : ∀ vs H Q E, sp' vs H Q E → sp vs H Q E) : Own P w K mg base nm ps k sp' := let ⟨g, fd, F, a⟩ := O.ex; ⟨g, fd, F.imp h, a⟩
end
section
variable {X : Cx} {σ : L2.St} {H H' : Hp} {v w x y z : V} {e a b c f o : Expr} {i j k : Nat} {n m : Int} {pos : Pos} {R : V → Hp → Prop} {φ : V → Hp → Prop} {nm : Str} {ps : List Str} {lv : Nat} {sp : Sp} {es : List Expr} {p q : Pos} {us : List V}
/-- a call of an own def -/
theorem em_own (O : Own X.prog X.w X.K X.mg X.base nm ps lv sp) (hr : Room lv X.A) (hg : Gl X nm) (h : AM X (e :: es) σ H fun vs Hb => ∀ H2, Ex Hb H2 → sp vs H2 (fun v H3 => ∃ Hc, Ex Hc H3 ∧ R v Hc) (fun _ _ _ => False))
    (hdb : (nm == ("__debug__" : Str)) = false := by decide) (he : starEach (e :: es) X.env = (false, eval e X.env) :: starEach es X.env := by rfl) (hpl : (backTo q (starEach es X.env)).any (·.1) = false := by rfl) :
    EM X (.Call (.Name nm p) (e :: es) [] q) σ H R := by
  obtain ⟨g, fd, F, hk, hb, hm⟩ := O.ex
  exact EM.of (pe_call F hr hg hm hk hb .nil pass0 pa_sem hdb he hpl) fun H1 e1 => semA_mono (h H1 e1) fun vs H2 ⟨Hb, e2, k⟩ => by rw [List.append_nil]; exact k H2 e2
/-- .. of values that make nothing, leaving what is known -/
theorem en_own (O : Own X.prog X.w X.K X.mg X.base nm ps lv sp) (hr : Room lv X.A) (hg : Gl X nm) (ha : AV X (e :: es) σ H us) (h : ∀ H1, Ex H H1 → ∀ Q : VK, (∀ v H2, Ex H1 H2 → φ v H2 → Q v H2) → sp us H1 Q (fun _ _ _ => False))
    (hdb : (nm == ("__debug__" : Str)) = false := by decide) (he : starEach (e :: es) X.env = (false, eval e X.env) :: starEach es X.env := by rfl) (hpl : (backTo q (starEach es X.env)).any (·.1) = false := by rfl) :
    EN X (.Call (.Name nm p) (e :: es) [] q) σ H φ := by
  obtain ⟨g, fd, F, hk, hb, hm⟩ := O.ex
  exact EN.of (pe_call F hr hg hm hk hb .nil pass0 pa_sem hdb he hpl) fun H1 e1 => semA_mono (ha H1 e1) fun vs H2 ⟨e2, k⟩ => by
    subst k
    rw [List.append_nil]
    exact h H2 (e1.trans e2) _ fun v H3 e3 q => ⟨e2.trans e3, q⟩
theorem em_own0 (O : Own X.prog X.w X.K X.mg X.base nm [] lv sp) (hr : Room lv X.A) (hg : Gl X nm) (h : ∀ H2, Ex H H2 → sp [] H2 (fun v H3 => ∃ Hc, Ex Hc H3 ∧ R v Hc) (fun _ _ _ => False))
    (hdb : (nm == ("__debug__" : Str)) = false := by decide) : EM X (.Call (.Name nm p) [] [] q) σ H R := by
  obtain ⟨g, fd, F, hk, hb, hm⟩ := O.ex
  exact EM.of (pe_call0 F hr hg hm hk hb .nil pass0 hdb) fun H1 e1 => h H1 e1
theorem en_own0 (O : Own X.prog X.w X.K X.mg X.base nm [] lv sp) (hr : Room lv X.A) (hg : Gl X nm) (h : ∀ H1, Ex H H1 → ∀ Q : VK, (∀ v H2, Ex H1 H2 → φ v H2 → Q v H2) → sp [] H1 Q (fun _ _ _ => False))
    (hdb : (nm == ("__debug__" : Str)) = false := by decide) : EN X (.Call (.Name nm p) [] [] q) σ H φ := by
  obtain ⟨g, fd, F, hk, hb, hm⟩ := O.ex
  exact EN.of (pe_call0 F hr hg hm hk hb .nil pass0 hdb) fun H1 e1 => h H1 e1 _ fun v H3 e3 q => ⟨e3, q⟩
/-! ### operands that are not said but described -/
variable {ψ : V → Hp → Prop} {xs : List V} {l : Addr}
theorem en_ixSN {t : Str} (ha : EV X a σ H (.str t)) (hz : t.length ≤ 100000) (hb : EN X b σ H φ) (k : ∀ v H2, Ex H H2 → φ v H2 → ∃ n c, v = .int n ∧ atI t.cps.toList n = some c ∧ ψ (.str ⟨#[c]⟩) H2) (hs : PlainIx b := by exact fun _ _ => rfl) : EN X (.Subscript a b pos) σ H ψ :=
  EN.of (pe_ix ix_str pe_sem pe_sem hs) fun H1 e1 => EV.ev ha H1 e1 _ fun H2 e2 => sem_mono (hb H2 (e1.trans e2)) fun v H3 ⟨e3, q⟩ => by
    obtain ⟨n, c, ev, g, r⟩ := k v H3 ((e1.trans e2).trans e3) q
    exact ⟨t, n, c, rfl, ev, sz_of hz, g, e2.trans e3, r⟩
theorem en_ixLN (ha : EV X a σ H (.ref l)) (hx : SqL X.K H l xs) (hb : EN X b σ H φ) (k : ∀ v H2, Ex H H2 → φ v H2 → ∃ n c, v = .int n ∧ atI xs n = some c ∧ ψ c H2) (hs : PlainIx b := by exact fun _ _ => rfl) : EN X (.Subscript a b pos) σ H ψ :=
  EN.of (pe_ix ix_list pe_sem pe_sem hs) fun H1 e1 => EV.ev ha H1 e1 _ fun H2 e2 => sem_mono (hb H2 (e1.trans e2)) fun v H3 ⟨e3, q⟩ => by
    obtain ⟨n, c, ev, g, r⟩ := k v H3 ((e1.trans e2).trans e3) q
    exact ⟨l, xs, n, c, rfl, ev, ex_l ((e1.trans e2).trans e3) hx, g, e2.trans e3, r⟩
theorem en_addN (ha : EV X a σ H (.int n)) (hb : EN X b σ H φ) (k : ∀ v H2, Ex H H2 → φ v H2 → ∃ m, v = .int m ∧ ψ (.int (n + m)) H2) : EN X (.BinOp a .Add b pos) σ H ψ :=
  EN.of (pe_op op_add pe_sem pe_sem) fun H1 e1 => EV.ev ha H1 e1 _ fun H2 e2 => sem_mono (hb H2 (e1.trans e2)) fun v H3 ⟨e3, q⟩ => by
    obtain ⟨m, ev, r⟩ := k v H3 ((e1.trans e2).trans e3) q
    exact ⟨n, m, rfl, ev, e2.trans e3, r⟩
theorem td_ltN {ψ : Bool → Hp → Prop} (ha : EN X a σ H φ) (hb : EV X b σ H (.int m)) (k : ∀ v H2, Ex H H2 → φ v H2 → ∃ n, v = .int n ∧ ∀ H3, Ex H2 H3 → ψ (decide (n < m)) H3) : TD X (.Compare a [.Lt] [b] pos) σ H ψ :=
  ⟨fun H1 e1 => semT_of (pt_cmpR op_lt pe_sem pe_sem (nomark _)) (sem_mono (ha H1 e1) fun v H2 ⟨e2, q⟩ => by
    obtain ⟨n, ev, r⟩ := k v H2 (e1.trans e2) q
    exact EV.ev hb H2 (e1.trans e2) _ fun H3 e3 => ⟨n, m, ev, rfl, _, rfl, e2.trans e3, r H3 e3⟩)⟩
theorem atI_of {α : Type} {ys : List α} {n : Int} (h0 : 0 ≤ n) {c : α} (h : ys[n.toNat]? = some c) : atI ys n = some c := by
  have := atI_nat (xs := ys) (j := n.toNat) h
  rwa [Int.toNat_of_nonneg h0] at this
end
end Y
set_option Elab.async false
set_option linter.all false
set_option maxRecDepth 100000
set_option maxHeartbeats 4000000
namespace Y
open PySem PySem.Spec PyProof.Rows L2 Evl
/-- two lists, item by item -/
def All2 {α β : Type} (R : α → β → Prop) : List α → List β → Prop
  | [], [] => True
  | a :: as, b :: bs => R a b ∧ All2 R as bs
  | _, _ => False
section
variable {α β : Type} {R S : α → β → Prop}
theorem All2.len : ∀ {as : List α} {bs : List β}, All2 R as bs → as.length = bs.length
  | [], [], _ => rfl
  | _ :: _, _ :: _, h => congrArg (· + 1) (All2.len h.2)
theorem All2.imp (k : ∀ a b, R a b → S a b) : ∀ {as : List α} {bs : List β}, All2 R as bs → All2 S as bs
  | [], [], _ => True.intro
  | _ :: _, _ :: _, h => ⟨k _ _ h.1, All2.imp k h.2⟩
theorem All2.app : ∀ {as cs : List α} {bs ds : List β}, All2 R as bs → All2 R cs ds → All2 R (as ++ cs) (bs ++ ds)
  | [], _, [], _, _, h => h
  | _ :: _, _, _ :: _, _, h, g => ⟨h.1, All2.app h.2 g⟩
theorem All2.one {a : α} {b : β} (h : R a b) : All2 R [a] [b] := ⟨h, True.intro⟩
theorem All2.at : ∀ {as : List α} {bs : List β}, All2 R as bs → ∀ {i : Nat} {a : α}, as[i]? = some a → ∃ b, bs[i]? = some b ∧ R a b
  | [], [], _, i, a, h => by simp at h
  | x :: _, y :: _, h, 0, a, e => by
    simp at e; subst e; exact ⟨y, rfl, h.1⟩
  | _ :: r, _ :: t, h, i + 1, a, e => All2.at h.2 (i := i) (by simpa using e)
theorem All2.at' : ∀ {as : List α} {bs : List β}, All2 R as bs → ∀ {i : Nat} {b : β}, bs[i]? = some b → ∃ a, as[i]? = some a ∧ R a b
  | [], [], _, i, a, h => by simp at h
  | x :: _, y :: _, h, 0, a, e => by
    simp at e; subst e; exact ⟨x, rfl, h.1⟩
  | _ :: r, _ :: t, h, i + 1, a, e => All2.at' h.2 (i := i) (by simpa using e)
theorem All2.take : ∀ {as : List α} {bs : List β} (n : Nat), All2 R as bs → All2 R (as.take n) (bs.take n)
  | _, _, 0, _ => True.intro
  | [], [], n + 1, _ => True.intro
  | _ :: _, _ :: _, n + 1, h => ⟨h.1, All2.take n h.2⟩
theorem All2.drop : ∀ {as : List α} {bs : List β} (n : Nat), All2 R as bs → All2 R (as.drop n) (bs.drop n)
  | _, _, 0, h => h
  | [], [], n + 1, _ => True.intro
  | _ :: _, _ :: _, n + 1, h => All2.drop n h.2
end
section
variable {X : Cx} {σ : L2.St} {H H' : Hp} {v w x y z : V} {e a b c f o : Expr} {i j k : Nat} {K : PySem.W.Frag} {n m : Int} {pos pos' apos cpos p2 px py pt : Pos} {D : Ends} {rest : List Stmt} {R : V → Hp → Prop} {l p : Addr} {xs ys : List V} {φ ψ : V → Hp → Prop} {nm nx ny : Str}
/-- x, y = a, b: both plain locals -/
theorem rx_par {kt k2 : Nat} {pt2 : Pos} (i j : Nat) (h : AM X [a, b] σ H fun vs Hb => ∃ v w, vs = [v, w] ∧ RX X rest D ((σ.set i (some v)).set j (some w)) Hb) (hc : X.calm = true) (hN : X.N.Nodup) (hij : i ≠ j) (hi : X.N[i]? = some nx := by rfl) (hj : X.N[j]? = some ny := by rfl)
    (hx : X.env.scope.names.lookup nx = some .local := by rfl) (hy : X.env.scope.names.lookup ny = some .local := by rfl)
    (hw : swappedStores [.Tuple [.Name nx px, .Name ny py] kt pt] (.Tuple [a, b] k2 pt2) X.env = pure (some [nx, ny]) := by rfl) (hs : swapsWithSole [.Tuple [.Name nx px, .Name ny py] kt pt] (.Tuple [a, b] k2 pt2) pos.line X.env = pure false := by rfl) :
    RX X (.Assign [.Tuple [.Name nx px, .Name ny py] kt pt] (.Tuple [a, b] k2 pt2) pos :: rest) D σ H :=
  rx_of (ps_par hc hN hi hj hij hx hy pa_sem hw hs) fun H1 e1 => semA_mono (h H1 e1) fun vs H2 ⟨Hb, e2, v, w, ev, k⟩ => ⟨v, w, ev, k H2 e2⟩
/-- x, y = e, by a tuple that is made -/
theorem rx_tup2 {kt : Nat} (i j : Nat) (h : EM X e σ H fun v Hb => ∃ (p : Addr) (x y : V), v = .ref p ∧ SqT X.K Hb p [x, y] ∧ RX X rest D ((σ.set i (some x)).set j (some y)) Hb) (hc : X.calm = true) (hN : X.N.Nodup) (hi : X.N[i]? = some nx := by rfl) (hj : X.N[j]? = some ny := by rfl)
    (hx : Loc X.env.scope nx := by first | exact Or.inl rfl | exact Or.inr rfl) (hy : Loc X.env.scope ny := by first | exact Or.inl rfl | exact Or.inr rfl)
    (hs : swapsWithSole [.Tuple [.Name nx px, .Name ny py] kt pt] e pos.line X.env = pure false := by rfl) (hw : swappedStores [.Tuple [.Name nx px, .Name ny py] kt pt] e X.env = pure none := by rfl)
    (h1 : (assignEach [.Tuple [.Name nx px, .Name ny py] kt pt] X.env).map (·.2) = [assign (.Tuple [.Name nx px, .Name ny py] kt pt) X.env] := by rfl)
    (hf : X.fn nx = true ∨ X.env.scope.names.lookup nx = some .local := by first | exact .inl rfl | exact .inr rfl) (hf2 : X.fn ny = true ∨ X.env.scope.names.lookup ny = some .local := by first | exact .inl rfl | exact .inr rfl) :
    RX X (.Assign [.Tuple [.Name nx px, .Name ny py] kt pt] e pos :: rest) D σ H :=
  rx_of (ps_asg pe_sem (pg_tup hc (pgs_cons (pg_name hN hi hx hf) (pgs_cons (pg_name hN hj hy hf2) pgs_nil))) hs hw h1) fun H1 e1 => sem_mono (h H1 e1) fun v H2 ⟨Hb, e2, p, x, y, ev, hp, k⟩ =>
    ⟨p, [x, y], ev, ex_t e2 hp, rfl, x, [y], rfl, y, [], rfl, rfl, k H2 e2⟩
/-- for i, x in enumerate(l) -/
theorem rx_forE {kt : Nat} (i j : Nat) {l : Expr} {body : List Stmt} {r : Addr} {xs : List V} {q1 q2 : Pos} (hp : PassesOwn (model X.prog X.w) X.A X.env X.xe) (hc : X.calm = true) (hg : Gl X "enumerate") (hm : X.mg "enumerate" = none) (hl : EV X l σ H (.ref r)) (hx : SqL X.K H r xs) (P : Nat → L2.St → Hp → Prop) (h0 : P 0 σ H)
    (hk : ∀ n σ' Hb, n ≤ xs.length → P n σ' Hb → SqL X.K Hb r xs) (hs : ∀ n x σ' Hb, xs[n]? = some x → P n σ' Hb → RX X body { D with nx := UpS (P (n + 1)), ct := UpS (P (n + 1)), bk := semS X rest D } ((σ'.set i (some (.int (n : Int)))).set j (some x)) Hb)
    (hd : ∀ σ' Hb, P xs.length σ' Hb → RX X rest D σ' Hb) (hN : X.N.Nodup) (hi : X.N[i]? = some nx := by rfl) (hj : X.N[j]? = some ny := by rfl) (hlo : Loc X.env.scope nx := by first | exact Or.inl rfl | exact Or.inr rfl) (hlo2 : Loc X.env.scope ny := by first | exact Or.inl rfl | exact Or.inr rfl)
    (hf : X.fn nx = true ∨ X.env.scope.names.lookup nx = some .local := by first | exact .inl rfl | exact .inr rfl) (hf2 : X.fn ny = true ∨ X.env.scope.names.lookup ny = some .local := by first | exact .inl rfl | exact .inr rfl)
    (hst : starEach [l] X.env = (false, eval l X.env) :: starEach [] X.env := by rfl) :
    RX X (.For (.Tuple [.Name nx px, .Name ny py] kt pt) (.Call (.Name "enumerate" q1) [l] [] q2) body [] pos :: rest) D σ H :=
  rx_of (ps_for hp hc (pi_enum hg hm (pa_cons pe_sem pa_nil hst) hst) (pg_tup hc (pgs_cons (pg_name hN hi hlo hf) (pgs_cons (pg_name hN hj hlo2 hf2) pgs_nil))) pss_sem) fun H1 e1 => EV.ev hl H1 e1 _ fun H2 e2 => ⟨r, xs, rfl, ex_l (e1.trans e2) hx,
    for_it (D := { D with nx := semS X rest D }) (walk_enum (K := X.K) (a := r) (xs := xs)) (fun n => UpS (P n)) ⟨H, e1.trans e2, h0⟩ (fun n σ' H' hn ⟨Hb, e, p⟩ => ex_l e (hk n σ' Hb hn p))
      (fun n v σ' H' H'' hn ⟨Hb, e, p⟩ ⟨T, x, y, ev, hT, eh, fx, fy⟩ => by
        subst ev eh
        cases fx
        exact ⟨T, _, rfl, .inl (.inl upd_same), rfl, _, _, rfl, _, _, rfl, rfl, hs n y σ' Hb fy p _ (e.trans (Ex.new hT))⟩) fun σ' H' ⟨Hb, e, p⟩ => hd σ' Hb p H' e⟩
theorem en_sortedS {ss : List Str} {q1 q2 : Pos} (hg : Gl X "sorted") (hm : X.mg "sorted" = none) (ha : EV X a σ H (.ref p)) (h : SqL X.K H p (ss.map V.str)) (hz : ss.length < 64) (hst : starEach [a] X.env = (false, eval a X.env) :: starEach [] X.env := by rfl) :
    EN X (.Call (.Name "sorted" q1) [a] [] q2) σ H fun v H2 => ∃ q ys, v = .ref q ∧ H q = none ∧ H2 q = some (.lst (ys.map V.str)) ∧ ys.Perm ss ∧ sortedS ys = true :=
  EN.of (pe_callB cr_sortedS hg hm (by decide +kernel) (pa_cons pe_sem pa_nil hst) (he := hst)) fun H1 e1 => EV.ev ha H1 e1 _ fun H2 e2 => ⟨p, ss, rfl, ex_l (e1.trans e2) h, hz, fun ys q hp hs hq => ⟨e2.trans (Ex.new hq), q, ys, rfl, fresh_back (e1.trans e2) hq, upd_same, hp, hs⟩⟩
/-- tuple(list) -/
theorem en_tuple {q1 q2 : Pos} (hg : Gl X "tuple") (hm : X.mg "tuple" = none) (ha : EV X a σ H (.ref p)) (h : SqL X.K H p xs) (hst : starEach [a] X.env = (false, eval a X.env) :: starEach [] X.env := by rfl) : EN X (.Call (.Name "tuple" q1) [a] [] q2) σ H fun v H2 => ∃ q, v = .ref q ∧ H q = none ∧ H2 q = some (.tup xs) :=
  EN.of (pe_callTy call_tuple_of hg hm (by decide +kernel) (pa_cons pe_sem pa_nil hst) (he := hst)) fun H1 e1 => EV.ev ha H1 e1 _ fun H2 e2 => ⟨p, xs, rfl, .inl ⟨ex_l (e1.trans e2) h, fun q hq => ⟨e2.trans (Ex.new hq), q, rfl, fresh_back (e1.trans e2) hq, upd_same⟩⟩⟩
theorem rx_forRN (i : Nat) {g : Expr} {body : List Stmt} {p q : Pos} (hp : PassesOwn (model X.prog X.w) X.A X.env X.xe) (hc : X.calm = true) (hg : Gl X "range") (hm : X.mg "range" = none) (hl : EN X g σ H φ)
    (k : ∀ v H2, Ex H H2 → φ v H2 → ∃ (n : Int) (P : Nat → L2.St → Hp → Prop), v = .int n ∧ 0 ≤ n ∧ n ≤ 100000 ∧ P 0 σ H2 ∧
      (∀ (t : Nat) σ' Hb, (t : Int) < n → P t σ' Hb → RX X body { D with nx := UpS (P (t + 1)), ct := UpS (P (t + 1)), bk := semS X rest D } (σ'.set i (some (.int (t : Int)))) Hb) ∧ ∀ σ' Hb, P n.toNat σ' Hb → RX X rest D σ' Hb)
    (hN : X.N.Nodup) (hi : X.N[i]? = some nm := by rfl) (hlo : Loc X.env.scope nm := by first | exact Or.inl rfl | exact Or.inr rfl)
    (hf : X.fn nm = true ∨ X.env.scope.names.lookup nm = some .local := by first | exact .inl rfl | exact .inr rfl) (hst : starEach [g] X.env = (false, eval g X.env) :: starEach [] X.env := by rfl) : RX X (.For (.Name nm pos') (.Call (.Name "range" p) [g] [] q) body [] pos :: rest) D σ H :=
  rx_of (ps_for hp hc (pi_range1 hg hm (pa_cons pe_sem pa_nil hst) hst) (pg_name hN hi hlo hf) pss_sem) fun H1 e1 => sem_mono (hl H1 e1) fun v H2 ⟨e2, q⟩ => by
    obtain ⟨n, P, ev, n0, n1, h0, hs, hd⟩ := k v H2 (e1.trans e2) q
    refine ⟨n, by rw [ev], by omega, by omega, ?_⟩
    exact for_range (D := { D with nx := semS X rest D }) (lo := 0) (n := n.toNat) (fun t => UpS (P t)) ⟨H2, Ex.refl _, h0⟩ (fun t σ' H' ht ⟨Hb, e, p⟩ => by
      show semS X body _ (σ'.set i (some (.int (0 + (t : Int))))) H'
      rw [Int.zero_add]
      exact hs t σ' Hb (by omega) p H' e) fun σ' H' ⟨Hb, e, p⟩ => hd σ' Hb p H' e
end
end Y
set_option Elab.async false
set_option linter.all false
set_option maxRecDepth 100000
set_option maxHeartbeats 4000000
/-! a, b, *rest = a tuple of at least two; tuples of texts by <; what isinstance says; repr. -/
namespace Y
open PySem PySem.Spec PyProof.Rows L2 Evl
theorem vals_two {x y : V} {xs : List V} : ∀ {its : List Value}, Vals (x :: y :: xs) its → ∃ u1 u2 us, its = u1 :: u2 :: us ∧ RelV x u1 ∧ RelV y u2 ∧ Vals xs us
  | _, .cons r (.cons r' t) => ⟨_, _, _, rfl, r, r', t⟩
theorem star_items {prog : Program} {wd : World} {A : Around} {E : Value → Shared → Prop} {st : Shared} {tp : Addr} {its : Array Value} {Q : List Value → Shared → Prop} (ht : IsTup st.heap tp its) (h0 : A.handled = none) (h2 : 2 ≤ its.size) (hz : its.size ≤ 16384)
    (k : ∀ (g : Heap) (tk : Nat), (∀ b o, st.heap.get? b = some o → g.get? b = some o) → Q (its.toList.take 2 ++ [.ref g.objs.size]) { st with heap := g.push (seqObj "list" (its.toList.drop 2).toArray 0), toks := tk }) :
    wpAny (model prog wd) A (unpackItems (.ref tp) 3 (some 2)) Q E st := by
  have ne : tp ≠ st.heap.objs.size := by
    obtain ⟨o, e, _⟩ := ht
    exact Nat.ne_of_lt (Heap.lt_size e)
  unfold unpackItems
  refine wpAny_bind ?_
  unfold notIterableAtAll
  refine wpAny_bind (wpAny_specialOf ht.typeIs slot_tuple_iter.lookup (wpAny_pure ?_))
  rw [if_neg Bool.false_ne_true]
  refine wpAny_bind (wpAny_holding (iter_tuple ht ?_))
  refine wpAny_bind (wpAny_holding (draw_tuple ne 2 0 _ _ ⟨_, Heap.get?_push_size _ rfl, rfl, rfl⟩ (ht.push _) (by omega) fun g1 it1 sb1 => ?_))
  have ht1 : IsTup g1 tp its := (ht.push _).extBut sb1.extBut ne
  obtain ⟨oi, ei, _⟩ := id it1
  obtain ⟨ot, et, _⟩ := id ht1
  rw [List.drop_zero]
  have len2 : (its.toList.take 2).length = 2 := by rw [List.length_take, Array.length_toList]; omega
  rw [if_neg (show ¬ ((its.toList.take 2).length < 2) by rw [len2]; decide)]
  refine wpAny_bind (wpAny_holding (PySem.W.kun_collect (s := { st with heap := g1 }) (T := "tuple_iterator") (.inr (.inr (.inr rfl))) (Walks.tuple (A := A.in1) h0 st.heap.objs.size tp ne its) (fun j u z => z.1.typeIs) (k := 2) h2 ⟨it1, ht1⟩ (Heap.lt_size ei) (Heap.lt_size et) (fun g2 tk kp => ?_) (by rw [sizeLine_eq]; omega)))
  have lenR : (its.toList.drop 2).length = its.size - 2 := by rw [List.length_drop, Array.length_toList]
  show wpAny _ _ (if (its.toList.drop 2).length < 3 - 1 - 2 then _ else _) _ _ _
  rw [if_neg (by omega)]
  show wpAny _ _ (newList ((its.toList.drop 2).take ((its.toList.drop 2).length - (3 - 1 - 2))) >>= fun d => pure (its.toList.take 2 ++ [d] ++ (its.toList.drop 2).drop ((its.toList.drop 2).length - (3 - 1 - 2)))) _ _ _
  rw [show (3 : Nat) - 1 - 2 = 0 from rfl, Nat.sub_zero, List.take_length, List.drop_length]
  simp only [List.append_nil]
  have kp2 : ∀ b o, st.heap.get? b = some o → g2.get? b = some o := fun b o e => kp b o (Nat.ne_of_lt (Heap.lt_size e)) (sb1.extBut b o (Nat.ne_of_lt (Heap.lt_size e)) (Heap.get?_push_of_some _ e))
  refine wpAny_bind (wpAny_newList (wpAny_pure ?_) (by rw [lenR, sizeLine_eq]; omega))
  exact k g2 tk kp2
section
variable {X : Cx} {σ : L2.St} {H H' : Hp} {v w x y z : V} {e a b c f o : Expr} {i j k : Nat} {K : PySem.W.Frag} {n m : Int} {pos pos' apos cpos p2 px py pz pt sp : Pos} {D : Ends} {rest : List Stmt} {R : V → Hp → Prop} {l p : Addr} {xs ys : List V} {φ ψ : V → Hp → Prop} {nm nx ny nz : Str}
/-- the target x, y, *z -/
def gStar (K : PySem.W.Frag) (i j k : Nat) : TG := fun v σ H Q => ∃ (a : Addr) (x y : V) (r : List V), v = .ref a ∧ SqT K H a (x :: y :: r) ∧ r.length ≤ 1000 ∧ ∀ q, H q = none → Q (((σ.set i (some x)).set j (some y)).set k (some (.ref q))) (upd H q (.lst r))
theorem pg_star {kt : Nat} (hc : X.calm = true) (hN : X.N.Nodup) (hi : X.N[i]? = some nx) (hj : X.N[j]? = some ny) (hk : X.N[k]? = some nz) (lx : Loc X.env.scope nx) (ly : Loc X.env.scope ny) (lz : Loc X.env.scope nz)
    (fx : X.fn nx = true ∨ X.env.scope.names.lookup nx = some .local) (fy : X.fn ny = true ∨ X.env.scope.names.lookup ny = some .local) (fz : X.fn nz = true ∨ X.env.scope.names.lookup nz = some .local) :
    PG X (.Tuple [.Name nx px, .Name ny py, .Starred (.Name nz pz) sp] kt pt) (gStar X.K i j k) := by
  refine ⟨fun pins s σ H v u Q I r h => ?_⟩
  obtain ⟨a, x, y, xs, rfl, ht, hl, q⟩ := h
  obtain rfl : u = Value.ref a := r
  obtain ⟨its, rv, hT, _⟩ := I.tuple ht
  have hsz : its.length = xs.length + 2 := by rw [← rv.length]; rfl
  rw [assign_Tuple]
  refine wpAny_bind (wpAny_standAt ?_)
  unfold unpack
  rw [show (assignEach [Expr.Name nx px, .Name ny py, .Starred (.Name nz pz) sp] X.env).length = 3 from rfl, show (assignEach [Expr.Name nx px, .Name ny py, .Starred (.Name nz pz) sp] X.env).findIdx? (·.1) = some 2 from rfl]
  refine wpAny_bind (wpAny_holding (star_items hT (I.ok.hd hc) (by rw [List.size_toArray]; omega) (by rw [List.size_toArray]; omega) fun g tk kp => ?_))
  have I1 : Inv X pins σ H { s with heap := g, toks := tk } := I.kept (t' := tk) kp
  have hn := I1.hok.fresh (Nat.le_refl g.objs.size)
  obtain ⟨u1, u2, us, rfl, r1, r2, rv⟩ := vals_two rv
  have I2 : Inv X pins σ (upd H g.objs.size (.lst xs)) { s with heap := g.push (seqObj "list" us.toArray 0), toks := tk } :=
    I1.laid (t' := tk) (fun b o e => Heap.get?_push_of_some _ e) (Nat.le_refl _) ⟨sz_of (Nat.le_trans hl (by decide)), us, 0, rv, Heap.get?_push_size _ rfl⟩
  have e2 : ((u1 :: u2 :: us).toArray.toList.take 2 ++ [Value.ref g.objs.size]) = [u1, u2, .ref g.objs.size] := rfl
  rw [e2]
  show wpAny _ _ (assignInOrder [assign (.Name nx px) X.env, assign (.Name ny py) X.env, assign (.Name nz pz) X.env] [u1, u2, .ref g.objs.size]) _ _ _
  refine assignInOrder_cons (thn ((pg_name hN hi lx fx).run pins _ σ _ x u1 _ I2 r1 (?_ : gName i x σ _ fun σ1 H1 => H1 = upd H g.objs.size (.lst xs) ∧ σ1 = σ.set i (some x))) fun _ s1 ⟨σ1, H1, I3, e3, e4⟩ => ?_)
  · exact ⟨rfl, rfl⟩
  subst e3 e4
  refine assignInOrder_cons (thn ((pg_name hN hj ly fy).run pins _ _ _ y u2 _ I3 r2 (?_ : gName j y _ _ fun σ1 H1 => H1 = upd H g.objs.size (.lst xs) ∧ σ1 = (σ.set i (some x)).set j (some y))) fun _ s2 ⟨σ1, H1, I4, e3, e4⟩ => ?_)
  · exact ⟨rfl, rfl⟩
  subst e3 e4
  refine assignInOrder_cons (thn ((pg_name hN hk lz fz).run pins _ _ _ (.ref g.objs.size) (.ref g.objs.size) _ I4 rfl (q _ hn)) fun _ s3 ⟨σ1, H1, I5, q5⟩ => ?_)
  exact assignInOrder_nil ⟨σ1, H1, I5, q5⟩
/-- x, y, *z = e -/
theorem rx_star {kt : Nat} (i j k : Nat) (h : EV X e σ H (.ref p)) (ht : SqT X.K H p (x :: y :: xs)) (hl : xs.length ≤ 1000) (q : ∀ r, H r = none → RX X rest D (((σ.set i (some x)).set j (some y)).set k (some (.ref r))) (upd H r (.lst xs))) (hc : X.calm = true) (hN : X.N.Nodup)
    (hi : X.N[i]? = some nx := by rfl) (hj : X.N[j]? = some ny := by rfl) (hk : X.N[k]? = some nz := by rfl) (lx : Loc X.env.scope nx := by first | exact Or.inl rfl | exact Or.inr rfl) (ly : Loc X.env.scope ny := by first | exact Or.inl rfl | exact Or.inr rfl) (lz : Loc X.env.scope nz := by first | exact Or.inl rfl | exact Or.inr rfl)
    (fx : X.fn nx = true ∨ X.env.scope.names.lookup nx = some .local := by first | exact .inl rfl | exact .inr rfl) (fy : X.fn ny = true ∨ X.env.scope.names.lookup ny = some .local := by first | exact .inl rfl | exact .inr rfl) (fz : X.fn nz = true ∨ X.env.scope.names.lookup nz = some .local := by first | exact .inl rfl | exact .inr rfl)
    (hs : swapsWithSole [.Tuple [.Name nx px, .Name ny py, .Starred (.Name nz pz) sp] kt pt] e pos.line X.env = pure false := by rfl) (hw : swappedStores [.Tuple [.Name nx px, .Name ny py, .Starred (.Name nz pz) sp] kt pt] e X.env = pure none := by rfl)
    (h1 : (assignEach [.Tuple [.Name nx px, .Name ny py, .Starred (.Name nz pz) sp] kt pt] X.env).map (·.2) = [assign (.Tuple [.Name nx px, .Name ny py, .Starred (.Name nz pz) sp] kt pt) X.env] := by rfl) :
    RX X (.Assign [.Tuple [.Name nx px, .Name ny py, .Starred (.Name nz pz) sp] kt pt] e pos :: rest) D σ H :=
  rx_of (ps_asg pe_sem (pg_star hc hN hi hj hk lx ly lz fx fy fz) hs hw h1) fun H1 e1 => EV.ev h H1 e1 _ fun H2 e2 => ⟨p, x, y, xs, rfl, ex_t (e1.trans e2) ht, hl, fun r hr => q r (fresh_back (e1.trans e2) hr) _ (ex_upd (e1.trans e2))⟩
end
end Y
set_option Elab.async false
set_option linter.all false
set_option maxRecDepth 100000
set_option maxHeartbeats 4000000
namespace Y
open PySem PySem.Spec PyProof.Rows L2 Evl
/-- pairs of texts as Python sorts them -/
def ltPair (p q : Str × Str) : Bool := if p.1 = q.1 then decide (p.2.cps.toList < q.2.cps.toList) else decide (p.1.cps.toList < q.1.cps.toList)
section
variable {X : Cx} {σ : L2.St} {H H' : Hp} {v w x y z : V} {e a b c f o : Expr} {i j k : Nat} {K : PySem.W.Frag} {n m : Int} {pos pos' apos cpos p2 q1 q2 : Pos} {D : Ends} {rest : List Stmt} {R : V → Hp → Prop} {l p r : Addr} {xs ys : List V} {φ ψ : V → Hp → Prop} {nm : Str}
theorem op_ltPair (hu : X.A.units < cLine) : OpR X (compareOp .Lt) fun x y H Q => ∃ (a b : Addr) (p q : Str × Str), x = .ref a ∧ y = .ref b ∧ SqT X.K H a [.str p.1, .str p.2] ∧ SqT X.K H b [.str q.1, .str q.2] ∧ Q (.bl (ltPair p q)) H := by
  intro pins s σ H x y v u Q I rx ry h
  obtain ⟨a, b, p, q, rfl, rfl, ha, hb, hq⟩ := h
  obtain rfl : v = Value.ref a := rx
  obtain rfl : u = Value.ref b := ry
  obtain ⟨i1, r1, p1, _⟩ := I.tuple ha
  obtain ⟨i2, r2, p2, _⟩ := I.tuple hb
  obtain ⟨u1, u2, t1, rfl, ⟨k1, rfl⟩, ⟨k2, rfl⟩, rn1⟩ := vals_two r1
  obtain ⟨w1, w2, t2, rfl, ⟨k3, rfl⟩, ⟨k4, rfl⟩, rn2⟩ := vals_two r2
  cases rn1
  cases rn2
  have T := Ob.RcOp.tuples_lt (A := X.A) (s := s) (e := fun j => if j = 0 then p.1 == q.1 else p.2 == q.2) (r := fun j => if j = 0 then decide (p.1.cps.toList < q.1.cps.toList) else decide (p.2.cps.toList < q.2.cps.toList)) p1 p2 hu
    (fun j h1 h2 => by
      match j, h1, h2 with
      | 0, _, _ => exact SeqAt.EqAt.str_str _ _ _ _
      | 1, _, _ => exact SeqAt.EqAt.str_str _ _ _ _
      | _ + 2, h1, _ => exact absurd h1 (by simp))
    (fun j h1 h2 _ => by
      match j, h1, h2 with
      | 0, _, _ => exact fun _ _ _ _ z => PyProof.Rows.lt_str z
      | 1, _, _ => exact fun _ _ _ _ z => PyProof.Rows.lt_str z
      | _ + 2, h1, _ => exact absurd h1 (by simp))
  refine T X.prog X.w X.xe (EP X pins σ Q) ?_
  have e : Ob.lexAt (fun j => if j = 0 then p.1 == q.1 else p.2 == q.2) (fun j => if j = 0 then decide (p.1.cps.toList < q.1.cps.toList) else decide (p.2.cps.toList < q.2.cps.toList)) (decide (2 < 2)) 0 2 = ltPair p q := by
    have hd : ∀ a b : Str, (a == b) = decide (a = b) := fun a b => by
      by_cases h : a = b
      · subst h; simp
      · simp [h]
    rw [Ob.lexAt_succ, Ob.lexAt_succ, Ob.lexAt_zero]
    simp only [if_true, Nat.zero_add, Nat.one_ne_zero, if_false, hd]
    unfold ltPair
    by_cases h1 : p.1 = q.1
    · simp only [h1, decide_true, if_true]
      by_cases h2 : p.2 = q.2
      · simp [h2, List.lt_irrefl]
      · simp [h2]
    · simp [h1]
  exact ⟨.bl (ltPair p q), H, I, congrArg Value.bool e, hq⟩
/-! ### isinstance -/
theorem ev_isi {t : Value} {T : String} {bb : Bool} (hg : Gl X "isinstance") (hm : X.mg "isinstance" = none) (ha : EV X a σ H x) (hb : EV X b σ H (.ty T)) (ht : ∀ H1, Ex H H1 → TyX X.K H1 x t) (hk : PySem.W.kitOne X.K t (.type T) = some bb)
    (he : starEach [a, b] X.env = (false, eval a X.env) :: starEach [b] X.env := by rfl) (he2 : starEach [b] X.env = (false, eval b X.env) :: starEach [] X.env := by rfl) (hpl : (backTo q2 (starEach [b] X.env)).any (·.1) = false := by rfl) :
    EV X (.Call (.Name "isinstance" q1) [a, b] [] q2) σ H (.bl bb) :=
  EV.of (pe_callB call_isi hg hm (by decide +kernel) (pa_cons pe_sem (pa_cons pe_sem pa_nil he2) he) (he := he) (hpl := hpl)) (ev_cb (ea_cons (EV.ev ha) (ea_cons (EV.ev hb) ea_nil)) fun H1 e1 Q q => ⟨x, .ty T, t, .type T, bb, rfl, .ty T, ht H1 e1, hk, q H1 (Ex.refl H1)⟩)
theorem ev_tyName {T : String} {nm : Str} (hg : Gl X nm) (hm : X.mg nm = none) (hv : bootBuiltins nm = some (.type T)) (hn : nm ≠ "__name__" := by decide) (hd : (nm == ("__debug__" : Str)) = false := by decide) : EV X (.Name nm pos) σ H (.ty T) := EV.of (pe_bltn hg hm hv (show RelV (.ty T) (.type T) from rfl) hn hd) ev_c
theorem ev_glob {u : Value} {nm : Str} (hg : Gl X nm) (hm : X.mg nm = some u) (r : RelV v u) (hd : (nm == ("__debug__" : Str)) = false := by decide) : EV X (.Name nm pos) σ H v := EV.of (pe_glob hg hm r hd) ev_c
/-! ### is, repr -/
theorem tn_isN (ha : EV X a σ H x) {j} {q : Pos} : TN X (.Compare a [.Is] [.Constant .none j q] pos) σ H (decide (x = .non)) :=
  ⟨fun H1 e1 => semT_of (pt_cmpR op_isN pe_sem pe_non (nomark _)) (EV.ev ha H1 e1 _ fun H2 e2 => ⟨rfl, _, rfl, e2, rfl⟩)⟩
theorem tn_isNotB {p q : Bool} (ha : EV X a σ H (.bl p)) (hb : EV X b σ H (.bl q)) : TN X (.Compare a [.IsNot] [b] pos) σ H (!decide (p = q)) :=
  ⟨fun H1 e1 => semT_of (pt_cmpR op_notBl pe_sem pe_sem (nomark _)) (EV.ev ha H1 e1 _ fun H2 e2 => EV.ev hb H2 (e1.trans e2) _ fun H3 e3 => ⟨p, q, rfl, rfl, _, rfl, e2.trans e3, rfl⟩)⟩
theorem call_reprB : CallR X (.builtin "repr") fun xs H Q => ∃ b : Bool, xs = [.bl b] ∧ Q (.str (if b then "True" else "False")) H := by
  intro pins s σ H xs us Q I r h
  obtain ⟨b, rfl, q⟩ := h
  obtain ⟨u, rfl, ru⟩ := vals1 r
  obtain rfl : u = Value.bool b := ru
  exact PySem.P.repr_of_bool ⟨.str _, H, I.tok _, ⟨_, rfl⟩, q⟩
theorem call_reprS : CallR X (.builtin "repr") fun xs H Q => ∃ t : Str, xs = [.str t] ∧ (reprText t).length ≤ sizeLine ∧ Q (.str (reprText t)) H := by
  intro pins s σ H xs us Q I r h
  obtain ⟨t, rfl, hz, q⟩ := h
  obtain ⟨u, rfl, ru⟩ := vals1 r
  obtain ⟨k, rfl⟩ := (show ∃ k, u = Value.str t k from ru)
  exact PySem.P.repr_of_str ⟨.str _, H, I.tok _, ⟨_, rfl⟩, q⟩ hz
theorem ev_reprB {bb : Bool} (hg : Gl X "repr") (hm : X.mg "repr" = none) (ha : EV X a σ H (.bl bb)) (hst : starEach [a] X.env = (false, eval a X.env) :: starEach [] X.env := by rfl) : EV X (.Call (.Name "repr" q1) [a] [] q2) σ H (.str (if bb then "True" else "False")) :=
  EV.of (pe_callB call_reprB hg hm (by decide +kernel) (pa_cons pe_sem pa_nil hst) (he := hst)) (ev_cb (ea_cons (EV.ev ha) ea_nil) fun H1 e1 Q q => ⟨bb, rfl, q H1 (Ex.refl H1)⟩)
theorem ev_reprS {t : Str} (hg : Gl X "repr") (hm : X.mg "repr" = none) (ha : EV X a σ H (.str t)) (hz : (reprText t).length ≤ sizeLine) (hst : starEach [a] X.env = (false, eval a X.env) :: starEach [] X.env := by rfl) : EV X (.Call (.Name "repr" q1) [a] [] q2) σ H (.str (reprText t)) :=
  EV.of (pe_callB call_reprS hg hm (by decide +kernel) (pa_cons pe_sem pa_nil hst) (he := hst)) (ev_cb (ea_cons (EV.ev ha) ea_nil) fun H1 e1 Q q => ⟨t, rfl, hz, q H1 (Ex.refl H1)⟩)
/-! ### dicts -/
variable {kvs : List (Key × V)} {ky : Key}
theorem tn_din (hu : X.A.units + 1 < cLine) (ha : EV X a σ H (kV ky)) (hb : EV X b σ H (.ref p)) (h : H p = some (.dK kvs)) (hm : behindInMarks .In b = false := by rfl) : TN X (.Compare a [.In] [b] pos) σ H (valV kvs ky).isSome :=
  ⟨fun H1 e1 => semT_of (pt_cmp (pc_din hu pe_sem pe_sem) hm) (EV.ev ha H1 e1 _ fun H2 e2 => EV.ev hb H2 (e1.trans e2) _ fun H3 e3 => ⟨p, _, rfl, DGet.k (((e1.trans e2).trans e3) _ _ h), _, rfl, e2.trans e3, rfl⟩)⟩
theorem tn_dnotin (hu : X.A.units + 1 < cLine) (ha : EV X a σ H (kV ky)) (hb : EV X b σ H (.ref p)) (h : H p = some (.dK kvs)) (hm : behindInMarks .NotIn b = false := by rfl) : TN X (.Compare a [.NotIn] [b] pos) σ H (!(valV kvs ky).isSome) :=
  ⟨fun H1 e1 => semT_of (pt_cmp (pc_dnotin hu pe_sem pe_sem) hm) (EV.ev ha H1 e1 _ fun H2 e2 => EV.ev hb H2 (e1.trans e2) _ fun H3 e3 => ⟨p, _, rfl, DGet.k (((e1.trans e2).trans e3) _ _ h), _, rfl, e2.trans e3, rfl⟩)⟩
theorem ev_din (hu : X.A.units + 1 < cLine) (ha : EV X a σ H (kV ky)) (hb : EV X b σ H (.ref p)) (h : H p = some (.dK kvs)) (hm : behindInMarks .In b = false := by rfl) : EV X (.Compare a [.In] [b] pos) σ H (.bl (valV kvs ky).isSome) :=
  EN.of (pe_cmp (pc_din hu pe_sem pe_sem) hm) fun H1 e1 => EV.ev ha H1 e1 _ fun H2 e2 => EV.ev hb H2 (e1.trans e2) _ fun H3 e3 => ⟨p, _, rfl, DGet.k (((e1.trans e2).trans e3) _ _ h), e2.trans e3, rfl⟩
theorem ev_dnotin (hu : X.A.units + 1 < cLine) (ha : EV X a σ H (kV ky)) (hb : EV X b σ H (.ref p)) (h : H p = some (.dK kvs)) (hm : behindInMarks .NotIn b = false := by rfl) : EV X (.Compare a [.NotIn] [b] pos) σ H (.bl (!(valV kvs ky).isSome)) :=
  EN.of (pe_cmp (pc_dnotin hu pe_sem pe_sem) hm) fun H1 e1 => EV.ev ha H1 e1 _ fun H2 e2 => EV.ev hb H2 (e1.trans e2) _ fun H3 e3 => ⟨p, _, rfl, DGet.k (((e1.trans e2).trans e3) _ _ h), e2.trans e3, rfl⟩
/-- d.get(k), d.get(k, e) -/
theorem ev_get1 (hu : X.A.units + 1 < cLine) (ho : EV X o σ H (.ref p)) (ha : EV X a σ H (kV ky)) (h : H p = some (.dK kvs)) (m : M1 X o "get" apos a cpos := by exact ⟨rfl, rfl, rfl, rfl⟩) : EV X (.Call (.Attribute o "get" apos) [a] [] cpos) σ H ((valV kvs ky).getD .non) :=
  EN.of (pe_dget1 hu pe_sem pe_sem m) fun H1 e1 => EV.ev ho H1 e1 _ fun H2 e2 => ⟨p, rfl, .inl ⟨kvs, .inl ((e1.trans e2) _ _ h)⟩, EV.ev ha H2 (e1.trans e2) _ fun H3 e3 => ⟨_, DGet.k (((e1.trans e2).trans e3) _ _ h), e2.trans e3, rfl⟩⟩
theorem en_get2 (hu : X.A.units + 1 < cLine) (ho : EV X o σ H (.ref p)) (ha : EV X a σ H (kV ky)) (h : H p = some (.dK kvs)) (hb : EN X b σ H φ) (k : ∀ z H2, Ex H H2 → φ z H2 → ψ ((valV kvs ky).getD z) H2) (m : M2 X o "get" apos a b cpos := by exact ⟨rfl, rfl, rfl, rfl⟩) : EN X (.Call (.Attribute o "get" apos) [a, b] [] cpos) σ H ψ :=
  EN.of (pe_dget2 hu pe_sem pe_sem pe_sem m) fun H1 e1 => EV.ev ho H1 e1 _ fun H2 e2 => ⟨p, rfl, .inl ⟨kvs, .inl ((e1.trans e2) _ _ h)⟩, EV.ev ha H2 (e1.trans e2) _ fun H3 e3 => sem_mono (hb H3 ((e1.trans e2).trans e3)) fun z H4 ⟨e4, q⟩ =>
    ⟨_, DGet.k ((((e1.trans e2).trans e3).trans e4) _ _ h), (e2.trans e3).trans e4, k z H4 (((e1.trans e2).trans e3).trans e4) q⟩⟩
theorem em_setd (ho : EV X o σ H (.ref p)) (ha : EV X a σ H (kV ky)) (h : H p = some (.dK kvs)) (hz : kvs.length < 100000) (hb : EM X b σ H fun z Hb => Hb p = some (.dK kvs) ∧ (∀ v, valV kvs ky = some v → R v Hb) ∧ (valV kvs ky = none → R z (upd Hb p (.dK (putK kvs ky z))))) (m : M2 X o "setdefault" apos a b cpos := by exact ⟨rfl, rfl, rfl, rfl⟩) :
    EM X (.Call (.Attribute o "setdefault" apos) [a, b] [] cpos) σ H R :=
  EM.of (pe_dsetd pe_sem pe_sem pe_sem m) fun H1 e1 => EV.ev ho H1 e1 _ fun H2 e2 => ⟨p, rfl, .inl ⟨kvs, .inl ((e1.trans e2) _ _ h)⟩, EV.ev ha H2 (e1.trans e2) _ fun H3 e3 => sem_mono (hb H3 ((e1.trans e2).trans e3)) fun z H4 ⟨Hb, e4, h4, k1, k2⟩ =>
    ⟨kvs, ky, e4 _ _ h4, rfl, sz_lt hz, fun v hv => ⟨Hb, e4, k1 v hv⟩, fun hn => ⟨_, ex_upd e4, k2 hn⟩⟩⟩
/-! ### objects -/
variable {C dx : Addr} {fs : List (Str × V)}
theorem rx_fld {value : Expr} (hv : EM X value σ H fun v Hb => ∃ (p C dx : Addr) (fs : List (Str × V)), EV X o σ Hb (.ref p) ∧ Hb p = some (.ins C dx fs) ∧ Cls X.K C ∧ NoAttr X.K C nm ∧ fs.length < 1000 ∧ RX X rest D σ (upd Hb p (.ins C dx (putF nm v fs)))) (hs : swapsWith value (some (.Attribute o nm pos')) pos.line X.env = pure false := by rfl) :
    RX X (.Assign [.Attribute o nm pos'] value pos :: rest) D σ H :=
  rx_of (ps_fld pe_sem pe_sem hs) fun H1 e1 => sem_mono (hv H1 e1) fun v H2 ⟨Hb, e2, p, C, dx, fs, ho, h, hc, hn, hl, k⟩ => EV.ev ho H2 e2 _ fun H3 e3 => ⟨p, C, dx, fs, rfl, (e2.trans e3) _ _ h, hc, hn, hl, k _ (ex_upd (e2.trans e3))⟩
theorem rx_fldV {value : Expr} (hv : EV X value σ H v) (ho : EV X o σ H (.ref p)) (h : H p = some (.ins C dx fs)) (hc : Cls X.K C) (hn : NoAttr X.K C nm) (hl : fs.length < 1000) (k : RX X rest D σ (upd H p (.ins C dx (putF nm v fs)))) (hs : swapsWith value (some (.Attribute o nm pos')) pos.line X.env = pure false := by rfl) :
    RX X (.Assign [.Attribute o nm pos'] value pos :: rest) D σ H := rx_fld (EM.ev hv ⟨p, C, dx, fs, ho, h, hc, hn, hl, k⟩) hs
/-- o.f += e, ints -/
theorem rx_fldAdd {value : Expr} (hv : EV X value σ H (.int m)) (ho : EV X o σ H (.ref p)) (h : H p = some (.ins C dx fs)) (hc : Cls X.K C) (hn : NoAttr X.K C nm) (g : fs.lookup nm = some (.int n)) (hl : fs.length < 1000) (k : RX X rest D σ (upd H p (.ins C dx (putF nm (.int (n + m)) fs)))) :
    RX X (.AugAssign (.Attribute o nm pos') .Add value pos :: rest) D σ H :=
  rx_of (ps_fldaug pe_sem pe_sem in_add) fun H1 e1 => EV.ev ho H1 e1 _ fun H2 e2 => ⟨p, C, dx, fs, _, rfl, (e1.trans e2) _ _ h, hc, hn, g, EV.ev hv H2 (e1.trans e2) _ fun H3 e3 => ⟨n, m, rfl, rfl, dx, fs, ((e1.trans e2).trans e3) _ _ h, hl, k _ (ex_upd ((e1.trans e2).trans e3))⟩⟩
/-- x in (a, b), x not in (a, b): the tuple made on the way -/
theorem tn_inU (ha : EV X a σ H x) (hb : EN X b σ H (NT H xs)) (fx : flatV x = true) (fs : xs.all flatV = true) (hm : behindInMarks .In b = false := by rfl) : TN X (.Compare a [.In] [b] pos) σ H (inV x xs) :=
  ⟨fun H1 e1 => semT_of (pt_cmpR op_in_seq pe_sem pe_sem hm) (EV.ev ha H1 e1 _ fun H2 e2 => sem_mono (hb H2 (e1.trans e2)) fun v H3 ⟨e3, q, ev, _, hq⟩ => ⟨q, xs, ev, .inr (st_of hq), fx, fs, _, rfl, e2.trans e3, rfl⟩)⟩
theorem tn_notInU (ha : EV X a σ H x) (hb : EN X b σ H (NT H xs)) (fx : flatV x = true) (fs : xs.all flatV = true) (hm : behindInMarks .NotIn b = false := by rfl) : TN X (.Compare a [.NotIn] [b] pos) σ H (!inV x xs) :=
  ⟨fun H1 e1 => semT_of (pt_cmpR op_notIn_seq pe_sem pe_sem hm) (EV.ev ha H1 e1 _ fun H2 e2 => sem_mono (hb H2 (e1.trans e2)) fun v H3 ⟨e3, q, ev, _, hq⟩ => ⟨q, xs, ev, .inr (st_of hq), fx, fs, _, rfl, e2.trans e3, rfl⟩)⟩
end
end Y
set_option Elab.async false
set_option linter.all false
set_option maxRecDepth 100000
set_option maxHeartbeats 4000000
namespace Y
open PySem PySem.Spec PyProof.Rows L2 Evl RZ
section
variable {X : Cx} {σ : L2.St} {H H' : Hp} {v w x y z : V} {e a b c f o : Expr} {i j k : Nat} {K : PySem.W.Frag} {n m : Int} {pos pos' apos cpos p2 q1 q2 px py pt : Pos} {D : Ends} {rest : List Stmt} {R : V → Hp → Prop} {l p r : Addr} {xs ys : List V} {φ ψ : V → Hp → Prop} {nm : Str}
/-- [.. for sign in text] -/
theorem en_lcS (j : Nat) {elt l : Expr} {xn : Str} {scope : Scope} {own : List (Str × Nat)} {t : Str} (hc : X.calm = true) (hN : X.N.Nodup) (ok : BlkOk X.N X.env.scope scope own) (hl : EV X l σ H (.str t)) (hz : t.cps.size ≤ 100000)
    (hg : ∀ (s : Shared) (H : Hp) (C : Addr) (cl : List (Str × Addr)) (fp : List Addr), PG (X.blk s H scope (compEnvC scope cl C X.env) fp) (.Name xn px) (gName j))
    (hw : ∀ v, wipe ((wipe σ (own.map (·.2))).set j (some v)) (own.map (·.2)) = wipe σ (own.map (·.2)))
    (P : Nat → List V → Hp → Prop) (hP : ∀ n acc H1 H2, Tx H1 H2 → P n acc H1 → P n acc H2) (h0 : P 0 [] H)
    (hs : ∀ n c acc Hb (s : Shared) (H' : Hp) (C : Addr) (cl : List (Str × Addr)) (fp : List Addr), t.cps[n]? = some c → Ex H Hb → P n acc Hb → EN (X.blk s H' scope (compEnvC scope cl C X.env) fp) elt ((wipe σ (own.map (·.2))).set j (some (.str ⟨#[c]⟩))) Hb fun v H2 => P (n + 1) (acc ++ [v]) H2)
    (hfo : ∀ x, foldedSetIterable l X.env x = pure x := by intro _; rfl) :
    EN X (.ListComp elt [⟨.Name xn px, l, [], 0⟩] scope pos) σ H fun v H2 => ∃ D acc, v = .ref D ∧ H D = none ∧ H2 D = some (.lst acc) ∧ acc.length ≤ t.cps.size ∧ P t.cps.size acc H2 :=
  EN.of (pe_lc hc hN (pi_str pe_sem) ok hg (fun _ _ _ _ _ => pts_nil) (fun s H' C cl fp => pe_blk s H' C cl fp) hfo) fun H1 e1 => EV.ev hl H1 e1 _ fun H2 e2 => ⟨t, rfl, fun D hD =>
    lc_it (walk_str (z := t)) (LcW H2 D P) ⟨[], Nat.le_refl _, hD, Ex.new hD, upd_same, hP _ _ _ _ (Tx.trans (e1.trans e2).tx (Ex.new hD).tx) h0⟩ (fun _ _ _ _ => True.intro)
      (fun i x H' H'' hi ⟨acc, q1, q2, q3, q4, q5⟩ ⟨eh, c, hc, ex⟩ => by
        subst eh ex
        exact ⟨hw _, iteT (B := LcW H2 D P (i + 1) H'') fun s H'' C cl fp => sem_mono (hs i c acc _ s H'' C cl fp hc ((e1.trans e2).trans q3) q5 _ (Ex.refl _)) fun v H4 ⟨e4, q6⟩ => LcW.push hP q1 q2 (q3.trans e4) (e4 D _ q4) (by omega) q6⟩)
      (fun H' ⟨acc, q1, q2, q3, q4, q5⟩ => ⟨e2.trans q3, D, acc, rfl, fresh_back (e1.trans e2) q2, q4, q1, q5⟩)⟩
theorem walk_zT {K : PySem.W.Frag} {a b : Addr} {xs ys : List V} {n : Nat} (hn : n = min xs.length ys.length) : Walk (ItzT K a b) n (fun H => SqT K H a xs ∧ SqT K H b ys) (YPair (fun i => xs[i]?) (fun i => ys[i]?)) := by
  subst hn
  refine ⟨fun i _ hi q => ?_, fun _ q => ⟨xs, ys, q.1, q.2, by omega⟩, fun i H v H' _ q y => ?_⟩
  · have h1 : i < xs.length := by omega
    have h2 : i < ys.length := by omega
    exact ⟨xs, ys, xs[i], ys[i], q.1, q.2, List.getElem?_eq_getElem h1, List.getElem?_eq_getElem h2⟩
  · obtain ⟨T, x, z, h1, h2, h3, h4, h5⟩ := y
    exact ⟨T, x, z, h1, h2, h3, h4 xs q.1, h5 ys q.2⟩
/-- [.. for x, y in zip(tuple, tuple)] -/
theorem en_lcZ (j1 j2 : Nat) {elt la lb : Expr} {xn yn : Str} {kt : Nat} {scope : Scope} {own : List (Str × Nat)} (hc : X.calm = true) (hN : X.N.Nodup) (ok : BlkOk X.N X.env.scope scope own) (hgz : Gl X "zip") (hmz : X.mg "zip" = none)
    (hl : EV X la σ H (.ref p)) (hx : SqT X.K H p xs) (hl2 : EN X lb σ H fun v H2 => ∃ r, v = .ref r ∧ SqT X.K H2 r ys) (hz : xs.length ≤ 100000)
    (hg : ∀ (s : Shared) (H : Hp) (C : Addr) (cl : List (Str × Addr)) (fp : List Addr), PG (X.blk s H scope (compEnvC scope cl C X.env) fp) (.Tuple [.Name xn px, .Name yn py] kt pt) (gTup X.K 2 (gCons (gName j1) (gCons (gName j2) gNil))))
    (hw : ∀ v v', wipe (((wipe σ (own.map (·.2))).set j1 (some v)).set j2 (some v')) (own.map (·.2)) = wipe σ (own.map (·.2)))
    (P : Nat → List V → Hp → Prop) (hP : ∀ n acc H1 H2, Tx H1 H2 → P n acc H1 → P n acc H2) (h0 : P 0 [] H)
    (hs : ∀ n x y acc Hb (s : Shared) (H' : Hp) (C : Addr) (cl : List (Str × Addr)) (fp : List Addr), xs[n]? = some x → ys[n]? = some y → Ex H Hb → P n acc Hb → EN (X.blk s H' scope (compEnvC scope cl C X.env) fp) elt (((wipe σ (own.map (·.2))).set j1 (some x)).set j2 (some y)) Hb fun v H2 => P (n + 1) (acc ++ [v]) H2)
    (hst : starEach [la, lb] X.env = (false, eval la X.env) :: starEach [lb] X.env := by rfl) (hst2 : starEach [lb] X.env = (false, eval lb X.env) :: starEach [] X.env := by rfl) (hpl : (backTo q2 (starEach [lb] X.env)).any (·.1) = false := by rfl) :
    EN X (.ListComp elt [⟨.Tuple [.Name xn px, .Name yn py] kt pt, .Call (.Name "zip" q1) [la, lb] [] q2, [], 0⟩] scope pos) σ H fun v H2 => ∃ D acc, v = .ref D ∧ H D = none ∧ H2 D = some (.lst acc) ∧ acc.length ≤ min xs.length ys.length ∧ P (min xs.length ys.length) acc H2 :=
  EN.of (pe_lc hc hN (pi_zipA hgz hmz (pa_cons pe_sem (pa_cons pe_sem pa_nil hst2) hst) hst hpl) ok hg (fun _ _ _ _ _ => pts_nil) (fun s H' C cl fp => pe_blk s H' C cl fp)) fun H1 e1 => EV.ev hl H1 e1 _ fun H2 e2 => sem_mono (hl2 H2 (e1.trans e2)) fun v H3 ⟨e3, r, ev, hy⟩ =>
    ⟨p, r, xs, ys, by rw [ev], .inr ⟨ex_t ((e1.trans e2).trans e3) hx, hy, fun D hD =>
      lc_it (walk_zT rfl) (LcW H3 D P) ⟨[], Nat.le_refl _, hD, Ex.new hD, upd_same, hP _ _ _ _ (Tx.trans ((e1.trans e2).trans e3).tx (Ex.new hD).tx) h0⟩ (fun i H' _ p => let ⟨_, _, _, e, _, _⟩ := p; ⟨ex_t (((e1.trans e2).trans e3).trans e) hx, ex_t e hy⟩)
        (fun i v H' H'' hi ⟨acc, q1, q2, q3, q4, q5⟩ ⟨T, x, y, ev, hT, eh, fx, fy⟩ => by
          subst ev eh
          have nD : D ≠ T := ne_of_none q4 hT
          refine ⟨T, [x, y], rfl, .inl (.inl upd_same), rfl, x, [y], rfl, y, [], rfl, rfl, hw _ _, ?_⟩
          refine iteT (B := LcW H3 D P (i + 1) (upd H' T (.tup [x, y]))) fun s H'' C cl fp => sem_mono (hs i x y acc _ s H'' C cl fp fx fy (((e1.trans e2).trans e3).trans (q3.trans (Ex.new hT))) (hP _ _ _ _ (Ex.new hT).tx q5) _ (Ex.refl _)) fun v H4 ⟨e4, q6⟩ =>
            LcW.push hP q1 q2 ((q3.trans (Ex.new hT)).trans e4) (e4 D _ (by rw [upd_ne nD]; exact q4)) (by omega) q6)
        (fun H' ⟨acc, q1, q2, q3, q4, q5⟩ => ⟨(e2.trans e3).trans q3, D, acc, rfl, fresh_back ((e1.trans e2).trans e3) q2, q4, q1, q5⟩)⟩⟩
/-- all(a list of truth values that nobody else has) -/
theorem en_all (hc : X.calm = true) (hg : Gl X "all") (hm : X.mg "all" = none) (ha : EN X a σ H fun v H2 => ∃ (D : Addr) (l : List Bool), v = .ref D ∧ H2 D = some (.lst (l.map V.bl)) ∧ φ (.bl (l.all id)) H2) (hst : starEach [a] X.env = (false, eval a X.env) :: starEach [] X.env := by rfl) :
    EN X (.Call (.Name "all" q1) [a] [] q2) σ H φ :=
  EN.of (pe_callB (cr_all hc) hg hm (by decide +kernel) (pa_cons pe_sem pa_nil hst) (he := hst)) fun H1 e1 => sem_mono (ha H1 e1) fun v H2 ⟨e2, D, l, ev, hD, q⟩ => ⟨D, l, by rw [ev], sq_of hD, e2, q⟩
/-- one sign in a text -/
theorem ev_inSign {c : Nat} {t : Str} (ha : EV X a σ H (.str ⟨#[c]⟩)) (hb : EV X b σ H (.str t)) (hm : behindInMarks .In b = false := by rfl) : EV X (.Compare a [.In] [b] pos) σ H (.bl (decide (c ∈ t.cps.toList))) :=
  EN.of (pe_cmpR op_in_sign pe_sem pe_sem hm) fun H1 e1 => EV.ev ha H1 e1 _ fun H2 e2 => EV.ev hb H2 (e1.trans e2) _ fun H3 e3 => ⟨c, t, rfl, rfl, e2.trans e3, rfl⟩
/-- a <= b <= c of ints, as a test -/
theorem tn_chain {u : Int} (ha : EV X a σ H (.int n)) (hb : EV X b σ H (.int m)) (hc : EV X c σ H (.int u)) (hm : lastMarks [.LtE, .LtE] [b, c] = false := by rfl) : TN X (.Compare a [.LtE, .LtE] [b, c] pos) σ H (decide (n ≤ m) && decide (m ≤ u)) :=
  ⟨fun H1 e1 => semT_of (pt_chain op_le op_le pe_sem pe_sem pe_sem hm) (EV.ev ha H1 e1 _ fun H2 e2 => EV.ev hb H2 (e1.trans e2) _ fun H3 e3 => ⟨n, m, rfl, rfl, _, rfl, by
    by_cases h : n ≤ m
    · rw [decide_eq_true h]
      exact iteT (EV.ev hc H3 ((e1.trans e2).trans e3) _ fun H4 e4 => ⟨m, u, rfl, rfl, _, rfl, (e2.trans e3).trans e4, rfl⟩)
    · rw [decide_eq_false h]
      exact iteF ⟨_, rfl, e2.trans e3, rfl⟩⟩)⟩
/-- [.. for x in tuple] -/
theorem en_lcT (j : Nat) {elt l : Expr} {xn : Str} {scope : Scope} {own : List (Str × Nat)} (hc : X.calm = true) (hN : X.N.Nodup) (ok : BlkOk X.N X.env.scope scope own) (hl : EV X l σ H (.ref p)) (hx : SqT X.K H p xs) (hz : xs.length ≤ 100000)
    (hg : ∀ (s : Shared) (H : Hp) (C : Addr) (cl : List (Str × Addr)) (fp : List Addr), PG (X.blk s H scope (compEnvC scope cl C X.env) fp) (.Name xn px) (gName j))
    (hw : ∀ v, wipe ((wipe σ (own.map (·.2))).set j (some v)) (own.map (·.2)) = wipe σ (own.map (·.2)))
    (P : Nat → List V → Hp → Prop) (hP : ∀ n acc H1 H2, Tx H1 H2 → P n acc H1 → P n acc H2) (h0 : P 0 [] H)
    (hs : ∀ n x acc Hb (s : Shared) (H' : Hp) (C : Addr) (cl : List (Str × Addr)) (fp : List Addr), xs[n]? = some x → Ex H Hb → P n acc Hb → EN (X.blk s H' scope (compEnvC scope cl C X.env) fp) elt ((wipe σ (own.map (·.2))).set j (some x)) Hb fun v H2 => P (n + 1) (acc ++ [v]) H2)
    (hfo : ∀ x, foldedSetIterable l X.env x = pure x := by intro _; rfl) :
    EN X (.ListComp elt [⟨.Name xn px, l, [], 0⟩] scope pos) σ H fun v H2 => ∃ D acc, v = .ref D ∧ H D = none ∧ H2 D = some (.lst acc) ∧ acc.length ≤ xs.length ∧ P xs.length acc H2 :=
  EN.of (pe_lc hc hN (pi_tup pe_sem) ok hg (fun _ _ _ _ _ => pts_nil) (fun s H' C cl fp => pe_blk s H' C cl fp) hfo) fun H1 e1 => EV.ev hl H1 e1 _ fun H2 e2 => ⟨p, rfl, ⟨xs, ex_t (e1.trans e2) hx⟩, fun D hD =>
    lc_it (walk_tup (K := X.K) (a := p) (xs := xs)) (LcW H2 D P) ⟨[], Nat.le_refl _, hD, Ex.new hD, upd_same, hP _ _ _ _ (Tx.trans (e1.trans e2).tx (Ex.new hD).tx) h0⟩ (fun i H' _ p => let ⟨_, _, _, e, _, _⟩ := p; ex_t ((e1.trans e2).trans e) hx)
      (fun i x H' H'' hi ⟨acc, q1, q2, q3, q4, q5⟩ ⟨eh, hx⟩ => by
        subst eh
        exact ⟨hw _, iteT (B := LcW H2 D P (i + 1) H'') fun s H3 C cl fp => sem_mono (hs i x acc _ s H3 C cl fp hx ((e1.trans e2).trans q3) q5 _ (Ex.refl _)) fun v H4 ⟨e4, q6⟩ => LcW.push hP q1 q2 (q3.trans e4) (e4 D _ q4) (by omega) q6⟩)
      (fun H' ⟨acc, q1, q2, q3, q4, q5⟩ => ⟨e2.trans q3, D, acc, rfl, fresh_back (e1.trans e2) q2, q4, q1, q5⟩)⟩
/-- s <= t of texts, as a value -/
theorem ev_leS {s t : Str} (ha : EV X a σ H (.str s)) (hb : EV X b σ H (.str t)) : EV X (.Compare a [.LtE] [b] pos) σ H (.bl (!decide (t.cps.toList < s.cps.toList))) :=
  EN.of (pe_cmpR op_le_str pe_sem pe_sem (nomark _)) fun H1 e1 => EV.ev ha H1 e1 _ fun H2 e2 => EV.ev hb H2 (e1.trans e2) _ fun H3 e3 => ⟨s, t, rfl, rfl, e2.trans e3, rfl⟩
end
end Y
set_option Elab.async false
set_option linter.all false
set_option maxRecDepth 100000
set_option maxHeartbeats 4000000
/-! enumerate over a tuple -/
namespace Y
open PySem PySem.Spec PyProof.Rows L2 Evl
theorem meets_enumerate_newT (l : Addr) (items : Array Value) :
    Meets (Builtin.«enumerate.__new__» ⟨[.type "enumerate", .ref l], []⟩) (fun _ R s => s.heap.IsTuple l items ∧
      R (.ok (.ret (.ref (s.heap.push { cls := .type "tuple_iterator", data := .fields #[.ref l, .int 0 0] }).objs.size)))
        { s with heap := (s.heap.push { cls := .type "tuple_iterator", data := .fields #[.ref l, .int 0 0] }).push { cls := .type "enumerate", data := .fields #[.none, .bool false, .ref s.heap.objs.size, rawInt 0, .none, .none] } }) :=
  .of_wp fun prog w A R s h => by
    obtain ⟨hp, g, d, tk, os⟩ := s; obtain ⟨hL, h⟩ := h
    have hsub := sub_enumerate
    replace hL : Heap.IsTuple (Shared.heap ⟨hp, g, d, tk, os⟩) l items := hL
    wp_walk
    refine wpAny_stack_any fun st => wpAny_pure ?_
    split
    · rename_i c _ _ _ _ _
      cases (c == Value.type "enumerate")
      · wp_walk using wpAny_pyIter_tuple hL
        exact ⟨_, rfl, h⟩
      · wp_walk using wpAny_pyIter_tuple hL
        exact ⟨_, rfl, h⟩
    · wp_walk using wpAny_pyIter_tuple hL
      exact ⟨_, rfl, h⟩
section
variable {prog : Program} {w : World} {A : Around} {E : Value → Shared → Prop} {s : Shared}
theorem call_enumerate_tuple {l : Addr} {items : Array Value} {Q : Value → Shared → Prop} (hL : s.heap.IsTuple l items)
    (h : ∀ h', IsEnum h' (s.heap.objs.size + 1) s.heap.objs.size 0 .none → h'.IsTupleIter s.heap.objs.size l 0 → h'.objs.size = s.heap.objs.size + 2 →
      (∀ b o, s.heap.get? b = some o → h'.get? b = some o) → Q (.ref (s.heap.objs.size + 1)) { s with heap := h' }) :
    wpAny (model prog w) A (call (.type "enumerate") [.ref l]) Q E s := by
  refine callType_new F.called_enumerate (by decide) (F.typeCall_enumerate_1 _) (F.newCall_enumerate_1 _) (fun obj => F.args_object_init_2 obj _) F.entry_enumerate_new
    (meets_enumerate_newT l items) ⟨hL, ?_⟩
  have hz : (s.heap.push { cls := .type "tuple_iterator", data := .fields #[.ref l, .int 0 0] }).objs.size = s.heap.objs.size + 1 := Heap.size_push ..
  show _ ∧ _
  rw [hz]
  have he : IsEnum ((s.heap.push { cls := .type "tuple_iterator", data := .fields #[.ref l, .int 0 0] }).push
      { cls := .type "enumerate", data := .fields #[.none, .bool false, .ref s.heap.objs.size, rawInt 0, .none, .none] }) (s.heap.objs.size + 1) s.heap.objs.size 0 .none := by
    have := Heap.get?_push_size (s.heap.push { cls := .type "tuple_iterator", data := .fields #[.ref l, .int 0 0] })
      (o := { cls := .type "enumerate", data := .fields #[.none, .bool false, .ref s.heap.objs.size, rawInt 0, .none, .none] }) rfl
    rw [hz] at this; exact this
  refine ⟨⟨_, he, rfl⟩, h _ he ⟨_, Heap.get?_push_of_some _ (Heap.get?_push_size _ rfl), rfl, rfl⟩ (by rw [Heap.size_push, hz]) fun b o x => Heap.get?_push_of_some _ (Heap.get?_push_of_some _ x)⟩
end
def IteT (K : PySem.W.Frag) (a : Addr) : It :=
  ⟨fun i H => ∃ (xs : List V) (x : V), SqT K H a xs ∧ xs[i]? = some x, fun i H v H' => ∃ T x, v = .ref T ∧ H T = none ∧ H' = upd H T (.tup [.int (i : Nat), x]) ∧ ∀ xs, SqT K H a xs → xs[i]? = some x, fun i H => ∃ xs : List V, SqT K H a xs ∧ xs.length ≤ i⟩
theorem turn_enumT {P : Program} {w : World} {K : PySem.W.Frag} {elts : List Expr} {kk : Nat} {tpos : Pos} (a e it : Addr) :
    Turn P w K (.Tuple elts kk tpos) (IteT K a) [e, it] e (fun i h => (∃ old, IsEnum h e it ((i : Nat) : Int) old) ∧ h.IsTupleIter it a i ∧ e ≠ it ∧ a ≠ it ∧ e ≠ a) where
  mem := by simp
  obj := fun i h st b hb => by
    obtain ⟨⟨old, he⟩, ⟨o, ho, hc, hd⟩, _⟩ := st
    have e' : b = e ∨ b = it := by simpa using hb
    rcases e' with z | z
    · rw [z]; exact ⟨_, he, fun v q => nomatch q⟩
    · rw [z]; exact ⟨o, ho, fun v q => by rw [hd] at q; cases q⟩
  keep := fun i h h' st k => let ⟨⟨old, he⟩, hi, hne⟩ := st; ⟨⟨old, k e (by simp) _ he⟩, hi.at fun o q => k it (by simp) o q, hne⟩
  item := by
    intro X hP hw hK hc i pins s σ H E I hf st hg
    subst hP hw hK
    obtain ⟨⟨old, he⟩, hit, hne, hai, hea⟩ := st
    obtain ⟨xs, x, hq, hx⟩ := hg
    obtain ⟨its, rv, p, hz⟩ := I.tuple hq
    obtain ⟨u, hu, ru⟩ := rv.get hx
    have hel : e < s.heap.objs.size := Heap.lt_size he
    have hil : it < s.heap.objs.size := by obtain ⟨_, q, _⟩ := hit; exact Heap.lt_size q
    have hlt : i < its.toArray.size := by
      have := (List.getElem?_eq_some_iff.mp hu).1
      simpa using this
    refine wpAny_pyNext_enum_itemC (Draws.tuple (prog := X.prog) (w := X.w) (A := X.A.in1) (I.ok.hd hc) it a hai its.toArray) he ⟨hit, p⟩ hlt hne (by simp [hne, hea]) fun y h' tk hP ho hs' hT hsz hk => ?_
    have hy : y = u := by
      have h1 : its.toArray[i]? = some y := hP
      rw [show its.toArray[i]? = some u by simpa using hu] at h1
      exact (Option.some.inj h1).symm
    subst hy
    obtain ⟨hit', _⟩ := hs'
    refine ⟨_, rfl, wpAny_letOwnedTupleGo_enum (s := { s with heap := h', toks := tk + 1 }) ho fun h'' he' sb => ?_⟩
    have hT2 : h''.get? s.heap.objs.size = some { cls := .type "tuple", data := .seq #[.int i tk, y] } := (sb.2 _ (Nat.ne_of_gt hel)).trans hT
    have new : ObjOk X.prog X.w (upd H s.heap.objs.size (.tup [.int (i : Nat), x])) h'' s.heap.objs.size (.tup [.int (i : Nat), x]) :=
      ⟨by show 2 ≤ sizeLine; decide, [.int i tk, y], .cons ⟨_, rfl⟩ (.cons ru .nil), ⟨_, hT2, rfl, _, rfl⟩⟩
    have I1 : Inv X pins σ (upd H s.heap.objs.size (.tup [.int (i : Nat), x])) { s with heap := h'', toks := tk + 1 } :=
      I.turnedNew (ch := [e, it]) (fun b ob hb q => (sb.2 b (fun z => hb (by simp [z]))).trans (hk b ob (fun z => hb (by simp [z])) (fun z => hb (by simp [z])) q)) hf (Nat.le_refl _) new
    refine ⟨.ref s.heap.objs.size, _, I1, rfl, ⟨_, x, rfl, I.hok.fresh (Nat.le_refl _), rfl, fun ys hy => by rw [I.tuple_inj hy hq]; exact hx⟩, ⟨⟨y, ?_⟩, hit'.at fun o q => (sb.2 it (Ne.symm hne)).trans q, hne, hai, hea⟩, fun b hb => ?_⟩
    · have e1 : ((i + 1 : Nat) : Int) = (i : Int) + 1 := by omega
      rw [e1]; exact he'
    · have hb' : b < s.heap.objs.size := by
        have e' : b = e ∨ b = it := by simpa using hb
        rcases e' with z | z
        · rw [z]; exact hel
        · rw [z]; exact hil
      rw [upd_ne (Nat.ne_of_lt hb')]
      exact (hf b hb).1
  done := by
    intro X hP hw hK hc i pins s σ H E I hf st hg
    subst hP hw hK
    obtain ⟨⟨old, he⟩, hit, hne, hai, hea⟩ := st
    obtain ⟨xs, hq, hx⟩ := hg
    obtain ⟨its, rv, p, hz⟩ := I.tuple hq
    obtain ⟨f0, f1, f2, f3, f4, f5⟩ := hf it (by simp)
    have hl := rv.length
    have D : Draws X.prog X.w X.A.in1 it [it, a] i (fun _ _ => True) (fun j h => j = i ∧ h.IsTupleIter it a j ∧ h.IsTuple a its.toArray) :=
      { live := fun _ _ st => let ⟨o, ho, _⟩ := st.2.1; ⟨o, ho⟩
        frame := fun _ _ _ st hk => ⟨st.1, st.2.1.at fun o e => hk it (by simp) o e, st.2.2.at fun o e => hk a (by simp) o e⟩
        item := fun j s Q E hi st hQ => absurd st.1 (Nat.ne_of_lt hi)
        done := fun s Q E st hE => wpAny_nextOf_tuple_end (I.ok.hd hc) st.2.1 st.2.2 (by simp; omega) hE }
    exact wpAny_pyNext_enum_endD D he ⟨rfl, hit, p⟩ fun h' eb => ⟨rfl, I.turned (t' := s.toks) (fun b o hb q => eb b o hb q) f0 f1 f3 f4 f5⟩
  self := fun A i s Q E st h => let ⟨⟨_, he⟩, _⟩ := st; wpAny_pyIter_enum he h
def iEnumT (K : PySem.W.Frag) (ta : TA) : TI := fun σ H R => ta σ H fun vs H1 => ∃ a xs, vs = [.ref a] ∧ SqT K H1 a xs ∧ R (IteT K a) H1
theorem pi_enumT {X : Cx} {e : Expr} {ta : TA} {p pos tpos : Pos} {elts : List Expr} {kk : Nat} (hg : Gl X "enumerate") (hm : X.mg "enumerate" = none) (ha : PA X [e] ta) (hs : starEach [e] X.env = [(false, eval e X.env)] := by rfl) :
    PI X (.Tuple elts kk tpos) (.Call (.Name "enumerate" p) [e] [] pos) (iEnumT X.K ta) := by
  refine ⟨fun pins s σ H R I h => ?_⟩
  refine Call_ (ld_blt I hg hm boot_enumerate (PyProof.Rows.callWith_type1 (thn (ha.run pos pins s σ H _ I h) fun us s1 ⟨vs, H1, I1, r1, q1⟩ => ?_) hs rfl))
  obtain ⟨a, xs, ex, hq, q⟩ := q1
  subst ex
  cases r1 with
  | cons r rr =>
    cases rr
    cases r
    obtain ⟨its, rv, p', hz⟩ := I1.tuple hq
    obtain ⟨oa, hoa, _⟩ := id p'
    have hal : a < s1.heap.objs.size := Heap.lt_size hoa
    refine call_enumerate_tuple (show s1.heap.IsTuple a its.toArray from p') fun h' he hit hsz hk => wpAny_pyIter_enum he ?_
    have I2 : Inv X pins σ H1 { s1 with heap := h' } := I1.kept (t' := s1.toks) hk
    refine ⟨s1.heap.objs.size + 1, [s1.heap.objs.size + 1, s1.heap.objs.size], _, _, H1, rfl, I2, turn_enumT a (s1.heap.objs.size + 1) s1.heap.objs.size, ⟨⟨.none, he⟩, hit, Nat.succ_ne_self _, Nat.ne_of_lt hal, Nat.ne_of_gt (Nat.lt_succ_of_lt hal)⟩, fun b hb => ?_, q⟩
    have e' : b = s1.heap.objs.size + 1 ∨ b = s1.heap.objs.size := by simpa using hb
    have hle : s1.heap.objs.size ≤ b := by
      rcases e' with z | z
      · rw [z]; exact Nat.le_add_right _ _
      · rw [z]; exact Nat.le_refl _
    exact I1.fpOk hle (I1.hok.fresh hle)
theorem walk_enumT {K : PySem.W.Frag} {a : Addr} {xs : List V} : Walk (IteT K a) xs.length (fun H => SqT K H a xs) (YPair (fun i => some (.int (i : Nat))) (fun i => xs[i]?)) := by
  refine ⟨fun i _ hi q => ⟨xs, xs[i], q, List.getElem?_eq_getElem hi⟩, fun _ q => ⟨xs, q, Nat.le_refl _⟩, fun i H v H' _ q y => ?_⟩
  obtain ⟨T, x, h1, h2, h3, h4⟩ := y
  exact ⟨T, _, x, h1, h2, h3, rfl, h4 xs q⟩
end Y
set_option Elab.async false
set_option linter.all false
set_option maxRecDepth 100000
set_option maxHeartbeats 4000000
/-! own classes; calls by keyword; enumerate over a tuple; list(d), list + list; comprehensions over pairs. -/
namespace Y
open PySem PySem.Spec PyProof.Rows L2 Evl
section
variable {P : Program} {w : World} {K : PySem.W.Frag} {mg : Str → Option Value} {base : Heap} {x q m nm : Str} {st : Stmt} {N ps : List Str} {k lv : Nat} {sp sp' : Sp} {C : Addr}
theorem fun_own {f : Addr} {fd : FuncData} (F : Fun K x q st f fd) (S : FnScope N ps (defScope st)) (len : ∀ vs H Q E, sp vs H Q E → vs.length = ps.length)
    (hb : ∀ (kV doc pm : Value) (an : Option Addr) (cdv ct : Value) (us : List Value), us.length = ps.length → bindArgs (PySem.W.fnOf x q (defArgs st) (defBody st) (defScope st) .none kV doc pm an cdv ct) ⟨us, []⟩ = pure (ps.zip us))
    (hbody : ∀ (X : Cx) (H : Hp) (vs : List V) (Q : VK) (E : XK), (∃ (f : Addr) (cdv : Value) (A : Around) (outer : List Env) (s : Shared), X = (cxOf CX0 P w K mg base N q (defScope st) f cdv A outer s H E).nox) → Room k X.A → sp vs H Q E → RX X (defBody st) { nx := fun _ H' => Q .non H', rt := Q } (start N vs) H) :
    FnOk P w K mg base CX0 (k + 1) f fd ps sp ∧ Binds K fd ps [] := by
  refine ⟨F.ok S len fun cdv A outer s H vs Q E hr h => ⟨_, pss_sem, ?_⟩, F.binds hb⟩
  exact (hbody _ H vs Q E ⟨f, cdv, A, outer, s, rfl⟩ hr h) H (Ex.refl H)
/-- a method's text, where its class has it -/
structure DefM (K : PySem.W.Frag) (C : Addr) (m q : Str) (st : Stmt) : Prop where
  ex : ∃ f fd, Fun K m q st f fd ∧ Meth K C m f
/-- a class with its __init__ -/
structure DefI (K : PySem.W.Frag) (mg : Str → Option Value) (nm q : Str) (C : Addr) (st : Stmt) : Prop where
  ex : ∃ f fd, Fun K "__init__" q st f fd ∧ Mk K C f ∧ mg nm = some (.ref C)
structure OwnM (P : Program) (w : World) (K : PySem.W.Frag) (mg : Str → Option Value) (base : Heap) (C : Addr) (m : Str) (ps : List Str) (lv : Nat) (sp : Sp) : Prop where
  ex : ∃ f fd, FnOk P w K mg base CX0 lv f fd ps sp ∧ Meth K C m f ∧ Binds K fd ps []
structure OwnI (P : Program) (w : World) (K : PySem.W.Frag) (mg : Str → Option Value) (base : Heap) (nm : Str) (C : Addr) (ps : List Str) (lv : Nat) (sp : Sp) : Prop where
  ex : ∃ f fd, FnOk P w K mg base CX0 lv f fd ps sp ∧ Mk K C f ∧ Binds K fd ps [] ∧ mg nm = some (.ref C)
theorem DefM.own (D : DefM K C m q st) (S : FnScope N ps (defScope st)) (len : ∀ vs H Q E, sp vs H Q E → vs.length = ps.length)
    (hb : ∀ (kV doc pm : Value) (an : Option Addr) (cdv ct : Value) (us : List Value), us.length = ps.length → bindArgs (PySem.W.fnOf m q (defArgs st) (defBody st) (defScope st) .none kV doc pm an cdv ct) ⟨us, []⟩ = pure (ps.zip us))
    (hbody : ∀ (X : Cx) (H : Hp) (vs : List V) (Q : VK) (E : XK), (∃ (f : Addr) (cdv : Value) (A : Around) (outer : List Env) (s : Shared), X = (cxOf CX0 P w K mg base N q (defScope st) f cdv A outer s H E).nox) → Room k X.A → sp vs H Q E → RX X (defBody st) { nx := fun _ H' => Q .non H', rt := Q } (start N vs) H) : OwnM P w K mg base C m ps (k + 1) sp := by
  obtain ⟨f, fd, F, hm⟩ := D.ex
  obtain ⟨h1, h2⟩ := fun_own F S len hb hbody
  exact ⟨f, fd, h1, hm, h2⟩
theorem DefI.own (D : DefI K mg nm q C st) (S : FnScope N ps (defScope st)) (len : ∀ vs H Q E, sp vs H Q E → vs.length = ps.length)
    (hb : ∀ (kV doc pm : Value) (an : Option Addr) (cdv ct : Value) (us : List Value), us.length = ps.length → bindArgs (PySem.W.fnOf "__init__" q (defArgs st) (defBody st) (defScope st) .none kV doc pm an cdv ct) ⟨us, []⟩ = pure (ps.zip us))
    (hbody : ∀ (X : Cx) (H : Hp) (vs : List V) (Q : VK) (E : XK), (∃ (f : Addr) (cdv : Value) (A : Around) (outer : List Env) (s : Shared), X = (cxOf CX0 P w K mg base N q (defScope st) f cdv A outer s H E).nox) → Room k X.A → sp vs H Q E → RX X (defBody st) { nx := fun _ H' => Q .non H', rt := Q } (start N vs) H) : OwnI P w K mg base nm C ps (k + 1) sp := by
  obtain ⟨f, fd, F, hm, hg⟩ := D.ex
  obtain ⟨h1, h2⟩ := fun_own F S len hb hbody
  exact ⟨f, fd, h1, hm, h2, hg⟩
/-! ### calls whose arguments all stand by their names, the last one first -/
theorem Vals.app : ∀ {vs : List V} {us : List Value} {vs' : List V} {us' : List Value}, Vals vs us → Vals vs' us' → Vals (vs ++ vs') (us ++ us')
  | _, _, _, _, .nil, h => h
  | _, _, _, _, .cons r t, h => .cons r (Vals.app t h)
theorem Vals.rev : ∀ {vs : List V} {us : List Value}, Vals vs us → Vals vs.reverse us.reverse
  | _, _, .nil => .nil
  | _, _, .cons r t => by
    rw [List.reverse_cons, List.reverse_cons]
    exact Vals.app (Vals.rev t) (.cons r .nil)
structure OwnR (P : Program) (w : World) (K : PySem.W.Frag) (mg : Str → Option Value) (base : Heap) (nm : Str) (ps : List Str) (lv : Nat) (sp : Sp) : Prop where
  ex : ∃ g fd, FnOk P w K mg base CX0 lv g fd ps sp ∧ PySem.W.keepIn K (.ref g) = true ∧ (∀ (s : Shared) (ws : List Value), ws.length = ps.length → BindsTo s fd ⟨[], ps.reverse.zip ws⟩ (ps.zip ws.reverse)) ∧ mg nm = some (.ref g)
theorem Def.ownR (D : Def K mg nm st) (S : FnScope N ps (defScope st)) (len : ∀ vs H Q E, sp vs H Q E → vs.length = ps.length)
    (hb : ∀ (kV doc pm : Value) (an : Option Addr) (cdv ct : Value) (us : List Value), us.length = ps.length → bindArgs (PySem.W.fnOf nm nm (defArgs st) (defBody st) (defScope st) .none kV doc pm an cdv ct) ⟨us, []⟩ = pure (ps.zip us))
    (hbR : ∀ (kV doc pm : Value) (an : Option Addr) (cdv ct : Value) (us : List Value), us.length = ps.length → bindArgs (PySem.W.fnOf nm nm (defArgs st) (defBody st) (defScope st) .none kV doc pm an cdv ct) ⟨[], ps.reverse.zip us⟩ = pure (ps.zip us.reverse))
    (hbody : ∀ (X : Cx) (H : Hp) (vs : List V) (Q : VK) (E : XK), (∃ (f : Addr) (cdv : Value) (A : Around) (outer : List Env) (s : Shared), X = (cxOf CX0 P w K mg base N nm (defScope st) f cdv A outer s H E).nox) → Room k X.A → sp vs H Q E → RX X (defBody st) { nx := fun _ H' => Q .non H', rt := Q } (start N vs) H) :
    Own P w K mg base nm ps (k + 1) sp ∧ OwnR P w K mg base nm ps (k + 1) sp := by
  obtain ⟨f, fd, F, m⟩ := D.ex
  obtain ⟨h1, h2⟩ := fun_own F S len hb hbody
  refine ⟨⟨f, fd, h1, F.kp, h2, m⟩, ⟨f, fd, h1, F.kp, ?_, m⟩⟩
  obtain ⟨oc, od, kV, doc, pm, an, cdv, ct, osl, rfl, lk, hcd⟩ := F.ex
  exact fun s ws hl => .of_eq (hbR kV doc pm an cdv ct ws hl)
end
section
variable {X : Cx} {σ : L2.St} {H H' : Hp} {v w x y z : V} {e a b c f o : Expr} {i j k : Nat} {K : PySem.W.Frag} {n : Int} {pos pos' apos cpos p1 p2 p3 q1 q2 px py pt : Pos} {D : Ends} {rest : List Stmt} {R : V → Hp → Prop} {l p r C dx : Addr} {xs ys : List V} {φ ψ : V → Hp → Prop} {nm m : Str} {ps : List Str} {lv : Nat} {sp : Sp} {es : List Expr} {us : List V} {fs : List (Str × V)}
theorem em_make (O : OwnI X.prog X.w X.K X.mg X.base nm C ps lv sp) (hr : Room (lv + 1) X.A) (hg : Gl X nm) (h : AM X (e :: es) σ H fun vs Hb => ∀ x dx, Hb x = none → Hb dx = none → dx ≠ x → ∀ H2, Ex (upd (upd Hb dx (.own x)) x (.ins C dx [])) H2 → sp (.ref x :: vs) H2 (fun v H3 => v = .non ∧ ∃ Hc, Ex Hc H3 ∧ R (.ref x) Hc) (fun _ _ _ => False))
    (hdb : (nm == ("__debug__" : Str)) = false := by decide) (he : starEach (e :: es) X.env = (false, eval e X.env) :: starEach es X.env := by rfl) (hpl : (backTo q2 (starEach es X.env)).any (·.1) = false := by rfl) :
    EM X (.Call (.Name nm q1) (e :: es) [] q2) σ H R := by
  obtain ⟨g, fd, F, M, hb, hm⟩ := O.ex
  exact EM.of (pe_make M F hr hg hm hb .nil pass0 pa_sem hdb he hpl) fun H1 e1 => semA_mono (h H1 e1) fun vs H2 ⟨Hb, e2, k⟩ x dx hx hd hn => by
    rw [List.append_nil]
    exact k x dx (fresh_back e2 hx) (fresh_back e2 hd) hn _ (ex_upd (ex_upd e2))
theorem em_meth {pl : Sem Bool} (O : OwnM X.prog X.w X.K X.mg X.base C m ps lv sp) (c : Cls X.K C) (hr : Room lv X.A) (ho : EV X o σ H (.ref p)) (hp : H p = some (.ins C dx fs)) (hm : fs.lookup m = none) (h : AM X (e :: es) σ H fun vs Hb => ∀ H2, Ex Hb H2 → sp (.ref p :: vs) H2 (fun v H3 => ∃ Hc, Ex Hc H3 ∧ R v Hc) (fun _ _ _ => False))
    (hst : starEach (e :: es) X.env = (false, eval e X.env) :: starEach es X.env := by rfl) (hpl : (backTo pos (starEach es X.env)).any (·.1) = false := by rfl)
    (ht : eval (.Call (.Attribute o m apos) (e :: es) [] pos) X.env = (do
      let ov ← eval o X.env
      standAt apos.atName
      let (f, first) ← holding [ov] (getMethod ov m pl)
      callWith pos f first (backTo pos (starEach (e :: es) X.env)) (backToKw pos (keywordEach [] X.env))) := by rfl) : EM X (.Call (.Attribute o m apos) (e :: es) [] pos) σ H R := by
  obtain ⟨g, fd, F, M, hb⟩ := O.ex
  exact EM.of (pe_meth pe_sem c M F hr hb .nil pass0 pa_sem hst hpl ht) fun H1 e1 => EV.ev ho H1 e1 _ fun H2 e2 => ⟨p, dx, fs, rfl, (e1.trans e2) _ _ hp, hm, semA_mono (h H2 (e1.trans e2)) fun vs H3 ⟨Hb, e3, k⟩ => by
    rw [List.append_nil]
    exact k H3 e3⟩
/-- .. that leaves what is known -/
theorem en_meth {pl : Sem Bool} (O : OwnM X.prog X.w X.K X.mg X.base C m ps lv sp) (c : Cls X.K C) (hr : Room lv X.A) (ho : EV X o σ H (.ref p)) (hp : H p = some (.ins C dx fs)) (hm : fs.lookup m = none) (ha : AV X (e :: es) σ H us)
    (h : ∀ H1, Ex H H1 → ∀ Q : VK, (∀ v H2, Ex H1 H2 → φ v H2 → Q v H2) → sp (.ref p :: us) H1 Q (fun _ _ _ => False))
    (hst : starEach (e :: es) X.env = (false, eval e X.env) :: starEach es X.env := by rfl) (hpl : (backTo pos (starEach es X.env)).any (·.1) = false := by rfl)
    (ht : eval (.Call (.Attribute o m apos) (e :: es) [] pos) X.env = (do
      let ov ← eval o X.env
      standAt apos.atName
      let (f, first) ← holding [ov] (getMethod ov m pl)
      callWith pos f first (backTo pos (starEach (e :: es) X.env)) (backToKw pos (keywordEach [] X.env))) := by rfl) : EN X (.Call (.Attribute o m apos) (e :: es) [] pos) σ H φ := by
  obtain ⟨g, fd, F, M, hb⟩ := O.ex
  exact EN.of (pe_meth pe_sem c M F hr hb .nil pass0 pa_sem hst hpl ht) fun H1 e1 => EV.ev ho H1 e1 _ fun H2 e2 => ⟨p, dx, fs, rfl, (e1.trans e2) _ _ hp, hm, semA_mono (ha H2 (e1.trans e2)) fun vs H3 ⟨e3, k⟩ => by
    subst k
    rw [List.append_nil]
    exact h H3 ((e1.trans e2).trans e3) _ fun v H4 e4 q => ⟨(e2.trans e3).trans e4, q⟩⟩
/-! ### keywords -/
variable {kws : List Keyword} {kn : Option Str} {kp : Pos} {zs : List V}
def semK (X : Cx) (kws : List Keyword) : TA := fun σ H Q => ∀ (pos : Pos) (pins : List (Addr × Obj)) (s : Shared), Inv X pins σ H s → wpAny (model X.prog X.w) X.A (evalAll ((backToKw pos (keywordEach kws X.env)).map (·.2))) (AP X pins σ Q) X.xe s
theorem pk_sem : PK X kws (semK X kws) := ⟨fun pos pins s _ _ _ I h => h pos pins s I⟩
theorem semK_of {t : TA} (h : PK X kws t) {Q : List V → Hp → Prop} (q : t σ H Q) : semK X kws σ H Q := fun pos pins s I => h.run pos pins s σ H Q I q
theorem semK_mono {Q Q' : List V → Hp → Prop} (h : semK X kws σ H Q) (k : ∀ v H', Q v H' → Q' v H') : semK X kws σ H Q' := fun pos pins s I => thn (h pos pins s I) fun _ _ ⟨v, H', I', r, q⟩ => ⟨v, H', I', r, k v H' q⟩
structure KV (X : Cx) (kws : List Keyword) (σ : L2.St) (H : Hp) (vs : List V)  : Prop where
  run : ∀ H1, Ex H H1 → semK X kws σ H1 fun us H2 => Ex H1 H2 ∧ us = vs
theorem KV.nil : KV X [] σ H [] := ⟨fun H1 e1 => semK_of pk_nil ⟨Ex.refl H1, rfl⟩⟩
theorem KV.cons (h : EV X e σ H v) (r : KV X kws σ H zs) : KV X (⟨kn, e, kp⟩ :: kws) σ H (v :: zs) := ⟨fun H1 e1 => semK_of (pk_cons pe_sem pk_sem) (EV.ev h H1 e1 _ fun H2 e2 => semK_mono (r.run H2 (e1.trans e2)) fun us H3 ⟨e3, q⟩ => ⟨e2.trans e3, by rw [q]⟩)⟩
theorem en_ownR (O : OwnR X.prog X.w X.K X.mg X.base nm ps lv sp) (hr : Room lv X.A) (hg : Gl X nm) (ha : KV X kws σ H zs) (h : ∀ H1, Ex H H1 → ∀ Q : VK, (∀ v H2, Ex H1 H2 → φ v H2 → Q v H2) → sp zs.reverse H1 Q (fun _ _ _ => False))
    (hall : (backToKw q2 (keywordEach kws X.env)).all (·.1.isSome) = true := by rfl) (hks : (backToKw q2 (keywordEach kws X.env)).filterMap (·.1) = ps.reverse := by rfl) (hdb : (nm == ("__debug__" : Str)) = false := by decide)
    (hpl : ((backTo q2 (starEach [] X.env)).any (·.1) || (backToKw q2 (keywordEach kws X.env)).any (·.1.isNone)) = false := by rfl) :
    EN X (.Call (.Name nm q1) [] kws q2) σ H φ := by
  obtain ⟨g, fd, F, hk, hb, hm⟩ := O.ex
  refine ⟨fun H1 e1 pins s I => ?_⟩
  refine wpAny_Call_Name_kw (ld_glob I hg hm ?_ hdb)
  refine PySem.W.callWith_KW0 (h₀ := X.base) I.ok.mod.kin hk hall ?_ hpl
  refine thn (ha.run H1 e1 q2 pins s I) fun ws s2 ⟨zs', H2, I2, rz, e2, ez⟩ => ⟨I2.kIn, ?_⟩
  subst ez
  rw [hks]
  have hsp := h H2 (e1.trans e2) (fun v H3 => Ex H1 H3 ∧ φ v H3) (fun v H3 e3 q => ⟨e2.trans e3, q⟩)
  have hl : ws.length = ps.length := by
    have := F.len _ _ _ _ hsp
    rw [List.length_reverse, rz.length] at this; exact this
  refine wpAny_call (codeAny_mono (F.run X.A X.stack s2 H2 ⟨[], ps.reverse.zip ws⟩ ws.reverse zs'.reverse _ _ hr I2.env0 (hb s2 ws hl) (Vals.rev rz) hsp) fun r s' hq => ?_)
  cases r with
  | error e => exact False.elim (by obtain ⟨_, _, _, _, _, _, _, _, h⟩ := hq)
  | ok fl =>
    cases fl with
    | ret u => exact I2.after hq
    | next => exact False.elim hq
    | brk => exact False.elim hq
    | cont => exact False.elim hq
end
end Y
set_option Elab.async false
set_option linter.all false
set_option maxRecDepth 100000
set_option maxHeartbeats 4000000
namespace Y
open PySem PySem.Spec PyProof.Rows L2 Evl
section
variable {X : Cx} {σ : L2.St} {H H' : Hp} {v w x y z : V} {e a b c f o : Expr} {i j k : Nat} {K : PySem.W.Frag} {n : Int} {pos pos' apos cpos p1 p2 p3 q1 q2 px py pt : Pos} {D : Ends} {rest : List Stmt} {R : V → Hp → Prop} {l p r C dx : Addr} {xs ys : List V} {φ ψ : V → Hp → Prop} {nm m : Str}
/-- a list of which α is true -/
def LP (α : List V → Hp → Prop) : V → Hp → Prop := fun v H => ∃ p xs, v = .ref p ∧ H p = some (.lst xs) ∧ α xs H
theorem EN.lp {α : List V → Hp → Prop} (h : EN X e σ H (NL H xs)) (k : ∀ H2, Ex H H2 → α xs H2) : EN X e σ H (LP α) := h.weak fun v H2 e2 ⟨p, ev, _, hp⟩ => ⟨p, xs, ev, hp, k H2 e2⟩
/-- list + list -/
theorem en_cat {α β γ : List V → Hp → Prop} (ha : EN X a σ H (LP α)) (hb : EN X b σ H (LP β)) (k : ∀ xs ys H2 H3, Ex H H2 → α xs H2 → Ex H2 H3 → β ys H3 → xs.length + ys.length ≤ 100000 ∧ ∀ H4, Ex H3 H4 → γ (xs ++ ys) H4) : EN X (.BinOp a .Add b pos) σ H (LP γ) :=
  EN.of (pe_op op_cat pe_sem pe_sem) fun H1 e1 => sem_mono (ha H1 e1) fun v H2 ⟨e2, p, xs, ev, hp, qa⟩ => sem_mono (hb H2 (e1.trans e2)) fun v' H3 ⟨e3, p', ys, ev', hp', qb⟩ => by
    obtain ⟨hl, kk⟩ := k xs ys H2 H3 (e1.trans e2) qa e3 qb
    exact ⟨p, p', xs, ys, ev, ev', e3 _ _ hp, hp', sz_of hl, fun q hq => ⟨(e2.trans e3).trans (Ex.new hq), q, xs ++ ys, rfl, upd_same, kk _ (Ex.new hq)⟩⟩
/-- list(d) -/
theorem en_listD {kvs : List (Key × V)} (hc : X.calm = true) (hg : Gl X "list") (hm : X.mg "list" = none) (ha : EV X a σ H (.ref p)) (h : H p = some (.dK kvs)) (hst : starEach [a] X.env = (false, eval a X.env) :: starEach [] X.env := by rfl) : EN X (.Call (.Name "list" q1) [a] [] q2) σ H (NL H (kvs.map fun kv => kV kv.1)) :=
  EN.of (pe_callTy (call_list_dK hc) hg hm (by decide +kernel) (pa_cons pe_sem pa_nil hst) (he := hst)) fun H1 e1 => EV.ev ha H1 e1 _ fun H2 e2 => ⟨p, kvs, rfl, (e1.trans e2) _ _ h, fun q hq => ⟨e2.trans (Ex.new hq), q, rfl, fresh_back (e1.trans e2) hq, upd_same⟩⟩
theorem en_listDN {α : List V → Hp → Prop} (hc : X.calm = true) (hg : Gl X "list") (hm : X.mg "list" = none) (ha : EN X a σ H fun v H2 => ∃ (p : Addr) (kvs : List (Key × V)), v = .ref p ∧ H2 p = some (.dK kvs) ∧ ∀ H3, Ex H2 H3 → α (kvs.map fun kv => kV kv.1) H3) (hst : starEach [a] X.env = (false, eval a X.env) :: starEach [] X.env := by rfl) : EN X (.Call (.Name "list" q1) [a] [] q2) σ H (LP α) :=
  EN.of (pe_callTy (call_list_dK hc) hg hm (by decide +kernel) (pa_cons pe_sem pa_nil hst) (he := hst)) fun H1 e1 => sem_mono (ha H1 e1) fun v H2 ⟨e2, p, kvs, ev, h, k⟩ => ⟨p, kvs, by rw [ev], h, fun q hq => ⟨e2.trans (Ex.new hq), q, _, rfl, upd_same, k _ (Ex.new hq)⟩⟩
/-- list(tuple) -/
theorem en_listT (hg : Gl X "list") (hm : X.mg "list" = none) (ha : EN X a σ H fun v H2 => ∃ r, v = .ref r ∧ (SqL X.K H2 r xs ∨ SqT X.K H2 r xs)) (hst : starEach [a] X.env = (false, eval a X.env) :: starEach [] X.env := by rfl) : EN X (.Call (.Name "list" q1) [a] [] q2) σ H (NL H xs) :=
  EN.of (pe_callTy call_list_of hg hm (by decide +kernel) (pa_cons pe_sem pa_nil hst) (he := hst)) fun H1 e1 => sem_mono (ha H1 e1) fun v H2 ⟨e2, r, ev, h⟩ => ⟨r, xs, by rw [ev], h, fun q hq => ⟨e2.trans (Ex.new hq), q, rfl, fresh_back (e1.trans e2) hq, upd_same⟩⟩
/-- a slice of a list with α -/
theorem en_slLP {α β : List V → Hp → Prop} {lo hi : Option Expr} {lv hv : Option Int} (h : EN X e σ H (LP α)) (h1 : OV X lo σ H lv) (h2 : OV X hi σ H hv) (k : ∀ xs H2 H3, Ex H H2 → α xs H2 → Ex H2 H3 → β (cutV xs lv hv) H3) : EN X (.Subscript e (.Slice lo hi none p2) pos) σ H (LP β) := let ⟨_, q1, r1⟩ := h1; let ⟨_, q2, r2⟩ := h2; EN.of (pe_slice sl_list pe_sem q1 q2) fun H1 e1 => sem_mono (h H1 e1) fun v H2 ⟨e2, r, xs, er, hr, qa⟩ =>
  r1 H2 (e1.trans e2) _ fun H3 e3 => r2 H3 ((e1.trans e2).trans e3) _ fun H4 e4 => ⟨r, xs, er, sq_of ((e3.trans e4) _ _ hr), fun q hq => ⟨((e2.trans e3).trans e4).trans (Ex.new hq), q, _, rfl, upd_same, k xs H2 _ (e1.trans e2) qa ((e3.trans e4).trans (Ex.new hq))⟩⟩
/-- for i, x in enumerate(tuple) -/
theorem rx_forET {kt : Nat} {nx ny : Str} (i j : Nat) {l : Expr} {body : List Stmt} {r : Addr} {xs : List V} (hp : PassesOwn (model X.prog X.w) X.A X.env X.xe) (hc : X.calm = true) (hg : Gl X "enumerate") (hm : X.mg "enumerate" = none) (hl : EV X l σ H (.ref r)) (hx : SqT X.K H r xs) (P : Nat → L2.St → Hp → Prop) (h0 : P 0 σ H)
    (hk : ∀ n σ' Hb, n ≤ xs.length → P n σ' Hb → SqT X.K Hb r xs) (hs : ∀ n x σ' Hb, xs[n]? = some x → P n σ' Hb → RX X body { D with nx := UpS (P (n + 1)), ct := UpS (P (n + 1)), bk := semS X rest D } ((σ'.set i (some (.int (n : Int)))).set j (some x)) Hb)
    (hd : ∀ σ' Hb, P xs.length σ' Hb → RX X rest D σ' Hb) (hN : X.N.Nodup) (hi : X.N[i]? = some nx := by rfl) (hj : X.N[j]? = some ny := by rfl) (hlo : Loc X.env.scope nx := by first | exact Or.inl rfl | exact Or.inr rfl) (hlo2 : Loc X.env.scope ny := by first | exact Or.inl rfl | exact Or.inr rfl)
    (hf : X.fn nx = true ∨ X.env.scope.names.lookup nx = some .local := by first | exact .inl rfl | exact .inr rfl) (hf2 : X.fn ny = true ∨ X.env.scope.names.lookup ny = some .local := by first | exact .inl rfl | exact .inr rfl)
    (hst : starEach [l] X.env = (false, eval l X.env) :: starEach [] X.env := by rfl) :
    RX X (.For (.Tuple [.Name nx px, .Name ny py] kt pt) (.Call (.Name "enumerate" q1) [l] [] q2) body [] pos :: rest) D σ H :=
  rx_of (ps_for hp hc (pi_enumT hg hm (pa_cons pe_sem pa_nil hst) hst) (pg_tup hc (pgs_cons (pg_name hN hi hlo hf) (pgs_cons (pg_name hN hj hlo2 hf2) pgs_nil))) pss_sem) fun H1 e1 => EV.ev hl H1 e1 _ fun H2 e2 => ⟨r, xs, rfl, ex_t (e1.trans e2) hx,
    for_it (D := { D with nx := semS X rest D }) (walk_enumT (K := X.K) (a := r) (xs := xs)) (fun n => UpS (P n)) ⟨H, e1.trans e2, h0⟩ (fun n σ' H' hn ⟨Hb, e, p⟩ => ex_t e (hk n σ' Hb hn p))
      (fun n v σ' H' H'' hn ⟨Hb, e, p⟩ ⟨T, x, y, ev, hT, eh, fx, fy⟩ => by
        subst ev eh
        cases fx
        exact ⟨T, _, rfl, .inl (.inl upd_same), rfl, _, _, rfl, _, _, rfl, rfl, hs n y σ' Hb fy p _ (e.trans (Ex.new hT))⟩) fun σ' H' ⟨Hb, e, p⟩ => hd σ' Hb p H' e⟩
/-- for x in a tuple made on the way -/
theorem rx_forTN (i : Nat) {l : Expr} {body : List Stmt} (hp : PassesOwn (model X.prog X.w) X.A X.env X.xe) (hc : X.calm = true) (hl : EN X l σ H φ)
    (k : ∀ v H2, Ex H H2 → φ v H2 → ∃ (r : Addr) (xs : List V) (P : Nat → L2.St → Hp → Prop), v = .ref r ∧ SqT X.K H2 r xs ∧ P 0 σ H2 ∧ (∀ n σ' Hb, n ≤ xs.length → P n σ' Hb → SqT X.K Hb r xs) ∧
      (∀ n x σ' Hb, xs[n]? = some x → P n σ' Hb → RX X body { D with nx := UpS (P (n + 1)), ct := UpS (P (n + 1)), bk := semS X rest D } (σ'.set i (some x)) Hb) ∧ ∀ σ' Hb, P xs.length σ' Hb → RX X rest D σ' Hb)
    (hN : X.N.Nodup) (hi : X.N[i]? = some nm := by rfl) (hlo : Loc X.env.scope nm := by first | exact Or.inl rfl | exact Or.inr rfl)
    (hf : X.fn nm = true ∨ X.env.scope.names.lookup nm = some .local := by first | exact .inl rfl | exact .inr rfl) (hfo : ∀ x, foldedSetIterable l X.env x = pure x := by intro _; rfl) : RX X (.For (.Name nm pos') l body [] pos :: rest) D σ H :=
  rx_of (ps_for hp hc (pi_tup pe_sem) (pg_name hN hi hlo hf) pss_sem hfo) fun H1 e1 => sem_mono (hl H1 e1) fun v H2 ⟨e2, q⟩ => by
    obtain ⟨r, xs, P, rfl, hx, h0, hk, hs, hd⟩ := k v H2 (e1.trans e2) q
    exact ⟨r, rfl, ⟨xs, hx⟩, for_tup (D := { D with nx := semS X rest D }) (fun n => UpS (P n)) ⟨H2, Ex.refl _, h0⟩ (fun n σ' H' hn ⟨Hb, e, p⟩ => ex_t e (hk n σ' Hb hn p)) (fun n x σ' H' hx ⟨Hb, e, p⟩ => hs n x σ' Hb hx p H' e) fun σ' H' ⟨Hb, e, p⟩ => hd σ' Hb p H' e⟩
/-! ### comprehensions -/
section
variable {elt : Expr} {xn yn : Str} {scope : Scope} {own : List (Str × Nat)} {kt : Nat}
/-- [.. for x in a tuple made on the way] -/
theorem en_lcTN (j : Nat) {l : Expr} (hc : X.calm = true) (hN : X.N.Nodup) (ok : BlkOk X.N X.env.scope scope own) (hl : EN X l σ H fun v H2 => ∃ r, v = .ref r ∧ SqT X.K H2 r xs) (hz : xs.length ≤ 100000)
    (hg : ∀ (s : Shared) (H : Hp) (C : Addr) (cl : List (Str × Addr)) (fp : List Addr), PG (X.blk s H scope (compEnvC scope cl C X.env) fp) (.Name xn px) (gName j))
    (hw : ∀ v, wipe ((wipe σ (own.map (·.2))).set j (some v)) (own.map (·.2)) = wipe σ (own.map (·.2)))
    (P : Nat → List V → Hp → Prop) (hP : ∀ n acc H1 H2, Tx H1 H2 → P n acc H1 → P n acc H2) (h0 : P 0 [] H)
    (hs : ∀ n x acc Hb (s : Shared) (H' : Hp) (C : Addr) (cl : List (Str × Addr)) (fp : List Addr), xs[n]? = some x → Ex H Hb → P n acc Hb → EN (X.blk s H' scope (compEnvC scope cl C X.env) fp) elt ((wipe σ (own.map (·.2))).set j (some x)) Hb fun v H2 => P (n + 1) (acc ++ [v]) H2)
    (hfo : ∀ x, foldedSetIterable l X.env x = pure x := by intro _; rfl) :
    EN X (.ListComp elt [⟨.Name xn px, l, [], 0⟩] scope pos) σ H fun v H2 => ∃ D acc, v = .ref D ∧ H D = none ∧ H2 D = some (.lst acc) ∧ acc.length ≤ xs.length ∧ P xs.length acc H2 :=
  EN.of (pe_lc hc hN (pi_tup pe_sem) ok hg (fun _ _ _ _ _ => pts_nil) (fun s H' C cl fp => pe_blk s H' C cl fp) hfo) fun H1 e1 => sem_mono (hl H1 e1) fun v H2 ⟨e2, r, ev, hx⟩ => ⟨r, ev, ⟨xs, hx⟩, fun D hD =>
    lc_it (walk_tup (K := X.K) (a := r) (xs := xs)) (LcW H2 D P) ⟨[], Nat.le_refl _, hD, Ex.new hD, upd_same, hP _ _ _ _ (Tx.trans (e1.trans e2).tx (Ex.new hD).tx) h0⟩ (fun i H' _ p => let ⟨_, _, _, e, _, _⟩ := p; ex_t e hx)
      (fun i x H' H'' hi ⟨acc, q1, q2, q3, q4, q5⟩ ⟨eh, hx⟩ => by
        subst eh
        exact ⟨hw _, iteT (B := LcW H2 D P (i + 1) H'') fun s H3 C cl fp => sem_mono (hs i x acc _ s H3 C cl fp hx ((e1.trans e2).trans q3) q5 _ (Ex.refl _)) fun v H4 ⟨e4, q6⟩ => LcW.push hP q1 q2 (q3.trans e4) (e4 D _ q4) (by omega) q6⟩)
      (fun H' ⟨acc, q1, q2, q3, q4, q5⟩ => ⟨e2.trans q3, D, acc, rfl, fresh_back (e1.trans e2) q2, q4, q1, q5⟩)⟩
/-- [.. for i, x in enumerate(tuple) if ..] -/
theorem en_lcEt (j1 j2 : Nat) {l tst : Expr} (hc : X.calm = true) (hN : X.N.Nodup) (ok : BlkOk X.N X.env.scope scope own) (hgz : Gl X "enumerate") (hmz : X.mg "enumerate" = none)
    (hl : EV X l σ H (.ref p)) (hx : SqT X.K H p xs) (hz : xs.length ≤ 100000)
    (hg : ∀ (s : Shared) (H : Hp) (C : Addr) (cl : List (Str × Addr)) (fp : List Addr), PG (X.blk s H scope (compEnvC scope cl C X.env) fp) (.Tuple [.Name xn px, .Name yn py] kt pt) (gTup X.K 2 (gCons (gName j1) (gCons (gName j2) gNil))))
    (hw : ∀ v v', wipe (((wipe σ (own.map (·.2))).set j1 (some v)).set j2 (some v')) (own.map (·.2)) = wipe σ (own.map (·.2)))
    (P : Nat → List V → Hp → Prop) (hP : ∀ n acc H1 H2, Tx H1 H2 → P n acc H1 → P n acc H2) (h0 : P 0 [] H)
    (hs : ∀ (n : Nat) x acc Hb (s : Shared) (H' : Hp) (C : Addr) (cl : List (Str × Addr)) (fp : List Addr), xs[n]? = some x → Ex H Hb → P n acc Hb →
      TD (X.blk s H' scope (compEnvC scope cl C X.env) fp) tst (((wipe σ (own.map (·.2))).set j1 (some (.int (n : Int)))).set j2 (some x)) Hb fun b H3 => if b = true then
        ∀ (s : Shared) (H' : Hp) (C : Addr) (cl : List (Str × Addr)) (fp : List Addr), EN (X.blk s H' scope (compEnvC scope cl C X.env) fp) elt (((wipe σ (own.map (·.2))).set j1 (some (.int (n : Int)))).set j2 (some x)) H3 fun v H2 => P (n + 1) (acc ++ [v]) H2 else P (n + 1) acc H3)
    (hst : starEach [l] X.env = (false, eval l X.env) :: starEach [] X.env := by rfl) :
    EN X (.ListComp elt [⟨.Tuple [.Name xn px, .Name yn py] kt pt, .Call (.Name "enumerate" q1) [l] [] q2, [tst], 0⟩] scope pos) σ H fun v H2 => ∃ D acc, v = .ref D ∧ H D = none ∧ H2 D = some (.lst acc) ∧ acc.length ≤ xs.length ∧ P xs.length acc H2 :=
  EN.of (pe_lc hc hN (pi_enumT hgz hmz (pa_cons pe_sem pa_nil hst) hst) ok hg (fun s H' C cl fp => pts_one (pt_blk s H' C cl fp)) (fun s H' C cl fp => pe_blk s H' C cl fp)) fun H1 e1 => EV.ev hl H1 e1 _ fun H2 e2 =>
    ⟨p, xs, rfl, ex_t (e1.trans e2) hx, fun D hD =>
      lc_it (walk_enumT (K := X.K) (a := p) (xs := xs)) (LcW H2 D P) ⟨[], Nat.le_refl _, hD, Ex.new hD, upd_same, hP _ _ _ _ (Tx.trans (e1.trans e2).tx (Ex.new hD).tx) h0⟩ (fun i H' _ p => let ⟨_, _, _, e, _, _⟩ := p; ex_t ((e1.trans e2).trans e) hx)
        (fun i v H' H'' hi ⟨acc, q1, q2, q3, q4, q5⟩ ⟨T, x, y, ev, hT, eh, fx, fy⟩ => by
          subst ev eh
          cases fx
          have nD : D ≠ T := ne_of_none q4 hT
          refine ⟨T, [_, y], rfl, .inl (.inl upd_same), rfl, _, [y], rfl, y, [], rfl, rfl, hw _ _, fun s H'' C cl fp => semT_mono (hs i y acc _ s H'' C cl fp fy ((e1.trans e2).trans (q3.trans (Ex.new hT))) (hP _ _ _ _ (Ex.new hT).tx q5) _ (Ex.refl _)) fun b H3 ⟨e3, q6⟩ => ?_⟩
          cases b with
          | true =>
            rw [if_pos rfl] at q6 ⊢
            exact fun s H'' C cl fp => sem_mono (q6 s H'' C cl fp H3 (Ex.refl H3)) fun v H4 ⟨e4, q7⟩ =>
              LcW.push hP q1 q2 (((q3.trans (Ex.new hT)).trans e3).trans e4) ((e3.trans e4) D _ (by rw [upd_ne nD]; exact q4)) (by omega) q7
          | false =>
            rw [if_neg Bool.false_ne_true] at q6 ⊢
            exact ⟨acc, Nat.le_succ_of_le q1, q2, (q3.trans (Ex.new hT)).trans e3, e3 D _ (by rw [upd_ne nD]; exact q4), q6⟩)
        (fun H' ⟨acc, q1, q2, q3, q4, q5⟩ => ⟨e2.trans q3, D, acc, rfl, fresh_back (e1.trans e2) q2, q4, q1, q5⟩)⟩
/-- [.. for x, y in a list of pairs] -/
theorem en_lcP (j1 j2 : Nat) {l : Expr} (hc : X.calm = true) (hN : X.N.Nodup) (ok : BlkOk X.N X.env.scope scope own)
    (hl : EV X l σ H (.ref p)) (hx : SqL X.K H p xs) (hz : xs.length ≤ 100000) (hpr : ∀ x ∈ xs, ∃ q y z, x = .ref q ∧ H q = some (.tup [y, z]))
    (hg : ∀ (s : Shared) (H : Hp) (C : Addr) (cl : List (Str × Addr)) (fp : List Addr), PG (X.blk s H scope (compEnvC scope cl C X.env) fp) (.Tuple [.Name xn px, .Name yn py] kt pt) (gTup X.K 2 (gCons (gName j1) (gCons (gName j2) gNil))))
    (hw : ∀ v v', wipe (((wipe σ (own.map (·.2))).set j1 (some v)).set j2 (some v')) (own.map (·.2)) = wipe σ (own.map (·.2)))
    (P : Nat → List V → Hp → Prop) (hP : ∀ n acc H1 H2, Tx H1 H2 → P n acc H1 → P n acc H2) (h0 : P 0 [] H)
    (hs : ∀ (n : Nat) q y z acc Hb (s : Shared) (H' : Hp) (C : Addr) (cl : List (Str × Addr)) (fp : List Addr), xs[n]? = some (.ref q) → H q = some (.tup [y, z]) → Ex H Hb → P n acc Hb →
      EN (X.blk s H' scope (compEnvC scope cl C X.env) fp) elt (((wipe σ (own.map (·.2))).set j1 (some y)).set j2 (some z)) Hb fun v H2 => P (n + 1) (acc ++ [v]) H2)
    (hfo : ∀ x, foldedSetIterable l X.env x = pure x := by intro _; rfl) :
    EN X (.ListComp elt [⟨.Tuple [.Name xn px, .Name yn py] kt pt, l, [], 0⟩] scope pos) σ H fun v H2 => ∃ D acc, v = .ref D ∧ H D = none ∧ H2 D = some (.lst acc) ∧ acc.length ≤ xs.length ∧ P xs.length acc H2 :=
  EN.of (pe_lc hc hN (pi_list pe_sem) ok hg (fun _ _ _ _ _ => pts_nil) (fun s H' C cl fp => pe_blk s H' C cl fp) hfo) fun H1 e1 => EV.ev hl H1 e1 _ fun H2 e2 => ⟨p, rfl, ⟨xs, ex_l (e1.trans e2) hx⟩, fun D hD =>
    lc_list (xs := xs) (LcW H2 D P) ⟨[], Nat.le_refl _, hD, Ex.new hD, upd_same, hP _ _ _ _ (Tx.trans (e1.trans e2).tx (Ex.new hD).tx) h0⟩ (fun i H' _ p => let ⟨_, _, _, e, _, _⟩ := p; ex_l ((e1.trans e2).trans e) hx)
      (fun i x H' hi ⟨acc, q1, q2, q3, q4, q5⟩ => by
        obtain ⟨q, y, z, ex, hq⟩ := hpr x (List.mem_of_getElem? hi)
        subst ex
        refine ⟨q, [y, z], rfl, .inl (.inl (((e1.trans e2).trans q3) _ _ hq)), rfl, y, [z], rfl, z, [], rfl, rfl, hw _ _, ?_⟩
        refine iteT (B := LcW H2 D P (i + 1) H') fun s H'' C cl fp => sem_mono (hs i q y z acc H' s H'' C cl fp hi hq ((e1.trans e2).trans q3) q5 H' (Ex.refl H')) fun v H4 ⟨e4, q6⟩ =>
          LcW.push hP q1 q2 (q3.trans e4) (e4 D _ q4) (by have := (List.getElem?_eq_some_iff.mp hi).1; omega) q6)
      (fun H' ⟨acc, q1, q2, q3, q4, q5⟩ => ⟨e2.trans q3, D, acc, rfl, fresh_back (e1.trans e2) q2, q4, q1, q5⟩)⟩
end
/-- sorted(list of pairs of ints) -/
theorem en_sortedP (hg : Gl X "sorted") (hm : X.mg "sorted" = none) {α : List V → Hp → Prop} (ha : EN X a σ H (LP α)) (k : ∀ xs H2, Ex H H2 → α xs H2 → ∀ x ∈ xs, ∃ t i j, x = V.ref t ∧ H2 t = some (.tup [.int i, .int j])) (hst : starEach [a] X.env = (false, eval a X.env) :: starEach [] X.env := by rfl) :
    EN X (.Call (.Name "sorted" q1) [a] [] q2) σ H (LP fun ys H3 => ∃ xs H2, ys.Perm xs ∧ α xs H2 ∧ Ex H H2 ∧ Ex H2 H3) :=
  EN.of (pe_callB cr_sortedP hg hm (by decide +kernel) (pa_cons pe_sem pa_nil hst) (he := hst)) fun H1 e1 => sem_mono (ha H1 e1) fun v H2 ⟨e2, p, xs, ev, hp, qa⟩ => ⟨p, xs, by rw [ev], sq_of hp, k xs H2 (e1.trans e2) qa, fun ys q hq hn => ⟨e2.trans (Ex.new hn), q, ys, rfl, upd_same, xs, H2, hq, qa, e1.trans e2, Ex.new hn⟩⟩
end
end Y
set_option Elab.async false
set_option linter.all false
set_option maxRecDepth 100000
set_option maxHeartbeats 4000000
namespace E5
open PySem PySem.Spec PyProof.Rows L2 Evl Y
def topS (i : Nat) : Stmt := PySem.Challenge.pw_eachcut_k67_whole_places_and_worths_by_c.main.body.getD i (.Pass ⟨0, 0, 0, 0⟩)
abbrev sDeck : Stmt := topS 32
abbrev sDraw : Stmt := topS 33
theorem scDeck : FnScope ["_law_script", "_law_mixed", "_law_cell"] ["_law_script"] (defScope sDeck) := ⟨rfl, rfl, rfl, by decide +kernel, rfl, by decide +kernel, by decide +kernel⟩
theorem scDraw : FnScope ["_law_deck", "_law_many", "_law_mark", "_law_cell"] ["_law_deck", "_law_many"] (defScope sDraw) := ⟨rfl, rfl, rfl, by decide +kernel, rfl, by decide +kernel, by decide +kernel⟩
/-- the deck's dict -/
abbrev dks (lf : Addr) (m t : Int) : List (Key × V) := [(Sum.inr "left", .ref lf), (Sum.inr "mixed", .int m), (Sum.inr "draws", .int t)]
theorem lm_ : ¬ (("left" : Str) = "mixed") := by decide +kernel
theorem lt_ : ¬ (("left" : Str) = "draws") := by decide +kernel
theorem mt_ : ¬ (("mixed" : Str) = "draws") := by decide +kernel
theorem dk_left (lf : Addr) (m t : Int) : valV (dks lf m t) (Sum.inr "left") = some (.ref lf) := by rfl
theorem dk_mixed (lf : Addr) (m t : Int) : valV (dks lf m t) (Sum.inr "mixed") = some (.int m) := by
  rw [valV_neg (by intro q; exact lm_ (Sum.inr.inj q)), valV_pos rfl]
theorem dk_turn (lf : Addr) (m t : Int) : valV (dks lf m t) (Sum.inr "draws") = some (.int t) := by
  rw [valV_neg (by intro q; exact lt_ (Sum.inr.inj q)), valV_neg (by intro q; exact mt_ (Sum.inr.inj q)), valV_pos rfl]
end E5
set_option Elab.async false
set_option linter.all false
set_option maxRecDepth 100000
set_option maxHeartbeats 4000000
namespace E5
open PySem PySem.Spec PyProof.Rows L2 Evl Y
theorem put_turn (lf : Addr) (m t t' : Int) : putK (dks lf m t) (Sum.inr "draws") (.int t') = dks lf m t' := by
  unfold putK dks
  have h1 : ¬ ((Sum.inr ("left" : Str) : Key) = (Sum.inr ("draws" : Str) : Key)) := fun q => lt_ (Sum.inr.inj q)
  have h2 : ¬ ((Sum.inr ("mixed" : Str) : Key) = (Sum.inr ("draws" : Str) : Key)) := fun q => mt_ (Sum.inr.inj q)
  simp only [List.any_cons, List.any_nil, List.map_cons, List.map_nil, h1, h2, decide_false, decide_true, Bool.false_or, Bool.or_false, if_true, if_false]
theorem put_mixed (lf : Addr) (m t m' : Int) : putK (dks lf m t) (Sum.inr "mixed") (.int m') = dks lf m' t := by
  unfold putK dks
  have h1 : ¬ ((Sum.inr ("left" : Str) : Key) = (Sum.inr ("mixed" : Str) : Key)) := fun q => lm_ (Sum.inr.inj q)
  have h2 : ¬ ((Sum.inr ("draws" : Str) : Key) = (Sum.inr ("mixed" : Str) : Key)) := fun q => mt_ (Sum.inr.inj q).symm
  simp only [List.any_cons, List.any_nil, List.map_cons, List.map_nil, h1, h2, decide_false, decide_true, Bool.false_or, Bool.or_false, Bool.true_or, if_true, if_false]
section
variable {P : Program} {w : World} {K : PySem.W.Frag} {mg : Str → Option Value} {base : Heap}
/-- what _law_draw does to a deck: the rest stays -/
def spDraw0 : Sp := fun vs H Q _ => ∃ (dk lf : Addr) (m t b : Int) (left : List Int), vs = [.ref dk, .int b] ∧ H dk = some (.dK (dks lf m t)) ∧ H lf = some (.lst (left.map V.int)) ∧ 0 ≤ m ∧ m < 2147483647 ∧ left.length ≤ 63 ∧ 1 ≤ b ∧ b < 1073741824 ∧
  ∀ (r m' t' : Int) (left' : List Int) (H' : Hp), 0 ≤ r → r < b → 0 ≤ m' → m' < 2147483647 → left'.length ≤ 63 → Ex (upd (upd H dk (.dK (dks lf m' t'))) lf (.lst (left'.map V.int))) H' → Q (.int r) H'
theorem ok_draw0 {f : Addr} {fd : FuncData} {k : Nat} (F : Fun K "_law_draw" "_law_draw" sDraw f fd) (mi : mg "int" = none) (mm : mg "max" = none) : FnOk P w K mg base CX0 (k + 1) f fd ["_law_deck", "_law_many"] spDraw0 := by
  refine F.ok scDraw (fun vs H Q E h => ?_) (fun cdv A outer s H vs Q E hr h => ?_)
  · obtain ⟨dk, lf, m, t, b, left, rfl, _⟩ := h
    rfl
  · obtain ⟨dk, lf, m, t, b, left, rfl, hd, hl, hm0, hm1, hlen, hb1, hb2, q⟩ := h
    have hu := hu_of hr
    have nd := scDraw.nd
    have ndl : dk ≠ lf := ne_of hd hl (fun z => nomatch z)
    refine ⟨_, pss_sem, ?_⟩
    suffices G : RX (cxOf CX0 P w K mg base ["_law_deck", "_law_many", "_law_mark", "_law_cell"] "_law_draw" (defScope sDraw) f cdv A outer s H E).nox (defBody sDraw) { nx := fun _ H' => Q .non H', rt := Q } [some (.ref dk), some (.int b), none, none] H from G H (Ex.refl H)
    -- deck['turn'] = deck['turn'] + 1
    refine rx_dputS hu (ev_add (ev_dgetS hu (ev_nm 0) ev_s hd (dk_turn _ _ _)) ev_i) (ev_nm 0) ev_s hd (by show 3 < 100000; decide) ?_
    rw [put_turn]
    generalize eH : upd H dk (.dK (dks lf m (t + 1))) = Ha
    have hda : Ha dk = some (.dK (dks lf m (t + 1))) := by rw [← eH]; exact upd_same
    have hla : Ha lf = some (.lst (left.map V.int)) := by rw [← eH, upd_ne (Ne.symm ndl)]; exact hl
    -- figure = deck['mixed'] + 70001 * deck['turn']
    refine rx_set 2 (ev_add (ev_dgetS hu (ev_nm 0) ev_s hda (dk_mixed _ _ _)) (ev_mul ev_i (ev_dgetS hu (ev_nm 0) ev_s hda (dk_turn _ _ _)) (.inl ⟨by decide, by decide⟩))) ?_ nd
    have tail : ∀ (m' fg : Int) (left' : List Int) (cl : Option V) (Hb : Hp), 0 ≤ m' → m' < 2147483647 → left'.length ≤ 63 → Hb = upd (upd H dk (.dK (dks lf m' (t + 1)))) lf (.lst (left'.map V.int)) →
        RX (cxOf CX0 P w K mg base ["_law_deck", "_law_many", "_law_mark", "_law_cell"] "_law_draw" (defScope sDraw) f cdv A outer s H E).nox ((defBody sDraw).drop 3) { nx := fun _ H' => Q .non H', rt := Q } [some (.ref dk), some (.int b), some (.int fg), cl] Hb := by
      intro m' fg left' cl Hb b1 b2 b3 eb
      refine rx_set 2 (ev_mod (ev_int rfl (by rfl) mi (ev_add (ev_mul (ev_nm 2) ev_i (.inr ⟨by decide, by decide⟩)) ev_i)) ev_i (by decide)) ?_ nd
      refine rx_set 2 (ev_mod (ev_int rfl (by rfl) mi (ev_add (ev_add (ev_mul (ev_nm 2) (ev_nm 2) (.inl ?_)) (ev_mul ev_i (ev_dgetS hu (ev_nm 0) ev_s (by rw [eb, upd_ne ndl]; exact upd_same) (dk_turn _ _ _)) (.inl ⟨by decide, by decide⟩))) ev_i)) ev_i (by decide)) ?_ nd
      · have h1 := Int.emod_nonneg (fg * 39373 + 41) (show (2147483629 : Int) ≠ 0 by decide)
        have h2 := Int.emod_lt_of_pos (fg * 39373 + 41) (show (0 : Int) < 2147483629 by decide)
        exact ⟨by omega, by omega⟩
      refine rx_ret (ev_mod (ev_int rfl (by rfl) mi (ev_div (ev_mod (ev_int rfl (by rfl) mi (ev_mul (ev_nm 2) ev_i (.inr ⟨by decide, by decide⟩))) ev_i (by decide)) ev_i ⟨by decide, by decide⟩)) (ev_nm 1) (by omega)) fun H1 e1 => ?_
      exact q _ m' (t + 1) left' H1 (Int.emod_nonneg _ (by omega)) (Int.emod_lt_of_pos _ (by omega)) b1 b2 b3 (eb ▸ e1)
    -- if deck['left'] != []
    refine rx_when (tn_neNil (ns := left) (by have := hr.units; exact this) (ev_dgetS hu (ev_nm 0) ev_s hda (dk_left _ _ _)) (sq_of hla)) (fun hne => ?_) fun he => ?_
    · obtain ⟨ys, y, rfl⟩ : ∃ ys y, left = ys ++ [y] := by
        rcases List.eq_nil_or_concat left with z | ⟨ys, y, z⟩
        · rw [z] at hne; cases hne
        · exact ⟨ys, y, by rw [z, List.concat_eq_append]⟩
      have hla' : Ha lf = some (.lst (ys.map V.int ++ [V.int y])) := by rw [hla, List.map_append]; rfl
      rw [List.length_append, List.length_singleton] at hlen
      -- cell = deck['left'].pop()
      refine rx_setM 3 (em_pop (ev_dgetS hu (ev_nm 0) ev_s hda (dk_left _ _ _)) hla' ?_) nd
      generalize eHb : upd Ha lf (.lst (ys.map V.int)) = Hb
      have hdb : Hb dk = some (.dK (dks lf m (t + 1))) := by rw [← eHb, upd_ne ndl]; exact hda
      have hlb : Hb lf = some (.lst (ys.map V.int)) := by rw [← eHb]; exact upd_same
      refine rx_when (tn_ge (ev_nm 3) (ev_pow ev_i ev_i ⟨by decide, by decide, by decide⟩)) (fun hbig => ?_) fun hbig => ?_
      · refine rx_exprM (em_appendV (ev_dgetS hu (ev_nm 0) ev_s hdb (dk_left _ _ _)) (ev_div (ev_nm 3) (ev_max2 rfl (by rfl) mm ev_i (ev_nm 1)) ?_) hlb (by rw [List.length_map]; omega) ?_)
        · refine ⟨?_, ?_⟩
          · split <;> omega
          · split <;> omega
        refine rx_ret (ev_mod (ev_int rfl (by rfl) mi (ev_nm 3)) (ev_nm 1) (by omega)) fun H1 e1 => ?_
        refine q _ m (t + 1) (ys ++ [y.fdiv (if b > 2 then b else 2)]) H1 (Int.emod_nonneg _ (by omega)) (Int.emod_lt_of_pos _ (by omega)) hm0 hm1 (by rw [List.length_append, List.length_singleton]; omega) ?_
        rw [← eHb, ← eH] at e1
        intro a o ha
        refine e1 a o ?_
        rw [← ha, List.map_append]
        by_cases h1 : a = lf
        · subst h1; rw [upd_same, upd_same]; rfl
        · rw [upd_ne h1, upd_ne h1, upd_ne h1]
      · refine rx_set 2 (ev_add (ev_nm 2) (ev_mod (ev_int rfl (by rfl) mi (ev_nm 3)) ev_i (by decide))) ?_ nd
        refine rx_out rfl (tail m _ ys _ _ hm0 hm1 (by omega) ?_)
        rw [← eHb, ← eH]
    · obtain rfl : left = [] := by
        cases left with
        | nil => rfl
        | cons x r => cases he
      refine tail m _ [] _ _ hm0 hm1 (Nat.zero_le _) ?_
      funext a
      rw [← eH]
      by_cases h1 : a = lf
      · subst h1; rw [upd_same, upd_ne (Ne.symm ndl)]; exact hl
      · rw [upd_ne h1]
end
end E5
set_option Elab.async false
set_option linter.all false
set_option maxRecDepth 100000
set_option maxHeartbeats 4000000
namespace E5
open PySem PySem.Spec PyProof.Rows L2 Evl Y
/-- the deck seen from outside: something to draw from -/
def phiD (P : Program) (w : World) (dk lf : Addr) : Heap → Prop := fun h => ∃ m t : Int, 0 ≤ m ∧ m < 2147483647 ∧ ObjOk P w (fun _ => none) h dk (.dK (dks lf m t))
def phiL (P : Program) (w : World) (lf : Addr) : Heap → Prop := fun h => ∃ left : List Int, left.length ≤ 63 ∧ ObjOk P w (fun _ => none) h lf (.lst (left.map V.int))
def Deck (P : Program) (w : World) (H : Hp) (dk : Addr) : Prop := ∃ lf, H dk = some (.ext (phiD P w dk lf)) ∧ H lf = some (.ext (phiL P w lf)) ∧ dk ≠ lf
theorem Deck.mono {P : Program} {w : World} {H H' : Hp} {dk : Addr} (h : Deck P w H dk) (e : Ex H H') : Deck P w H' dk := let ⟨lf, a, b, c⟩ := h; ⟨lf, e _ _ a, e _ _ b, c⟩
theorem objOk_dK {P : Program} {w : World} {H H' : Hp} {h : Heap} {a : Addr} {kvs : List (Key × V)} (x : ObjOk P w H h a (.dK kvs)) : ObjOk P w H' h a (.dK kvs) := x
theorem objOk_lst {P : Program} {w : World} {H H' : Hp} {h : Heap} {a : Addr} {xs : List V} (x : ObjOk P w H h a (.lst xs)) : ObjOk P w H' h a (.lst xs) := x
theorem ext_D {P : Program} {w : World} {H H' : Hp} {h : Heap} {dk lf : Addr} {m t : Int} (h0 : 0 ≤ m) (h1 : m < 2147483647) (x : ObjOk P w H h dk (.dK (dks lf m t))) : ObjOk P w H' h dk (.ext (phiD P w dk lf)) := by
  refine ⟨⟨m, t, h0, h1, x⟩, ?_, fun g1 g2 ⟨m', t', a, b, y⟩ k => ⟨m', t', a, b, ?_⟩⟩
  · obtain ⟨_, _, _, _, o, _, _, e, _⟩ := x
    exact ⟨o, e⟩
  · obtain ⟨z, y0, vs, r, ob, es, ep, e, c⟩ := y
    exact ⟨z, y0, vs, r, ob, es, ep, k _ e, c⟩
theorem ext_L {P : Program} {w : World} {H H' : Hp} {h : Heap} {lf : Addr} {left : List Int} (h0 : left.length ≤ 63) (x : ObjOk P w H h lf (.lst (left.map V.int))) : ObjOk P w H' h lf (.ext (phiL P w lf)) := by
  refine ⟨⟨left, h0, x⟩, ?_, fun g1 g2 ⟨l', a, y⟩ k => ⟨l', a, ?_⟩⟩
  · obtain ⟨_, _, _, _, e⟩ := x
    exact ⟨_, e⟩
  · obtain ⟨z, its, n, r, e⟩ := y
    exact ⟨z, its, n, r, k _ e⟩
def spDraw (P : Program) (w : World) : Sp := fun vs H Q _ => ∃ (dk : Addr) (b : Int), vs = [.ref dk, .int b] ∧ Deck P w H dk ∧ 1 ≤ b ∧ b < 1073741824 ∧ ∀ (r : Int) (H' : Hp), 0 ≤ r → r < b → Ex H H' → Q (.int r) H'
section
variable {P : Program} {w : World} {K : PySem.W.Frag} {mg : Str → Option Value} {base : Heap}
/-- two abstract heaps that differ in what they say of tracked things alone -/
theorem hok_swap {H H1 : Hp} {h : Heap} (ok : HOk P w H h) (own : ∀ b y, H b = some (.own y) → H1 b = some (.own y)) (tup : ∀ b xs, H b = some (.tup xs) → H1 b = some (.tup xs)) (k : ∀ b o, H1 b = some o → H b = some o ∨ ObjOk P w H1 h b o) : HOk P w H1 h := fun a o e => by
  rcases k a o e with q | q
  · exact (ok a o q).stay (fun b u _ z => z) (fun b z => own b _ z) tup
  · exact q
theorem draw_ext {f : Addr} {fd : FuncData} {k : Nat} (F : FnOk P w K mg base CX0 k f fd ["_law_deck", "_law_many"] spDraw0) : FnOk P w K mg base CX0 k f fd ["_law_deck", "_law_many"] (spDraw P w) := by
  refine ⟨fun vs H Q E h => ?_, fun A outer s H args us vs Q E hr e0 hb hv hs => ?_⟩
  · obtain ⟨dk, b, rfl, _⟩ := h
    rfl
  · obtain ⟨dk, b, rfl, ⟨lf, hd, hl, ne⟩, b1, b2, q⟩ := hs
    obtain ⟨⟨m, t, hm0, hm1, od⟩, _, _⟩ := e0.hok dk _ hd
    obtain ⟨⟨left, hlen, ol⟩, _, _⟩ := e0.hok lf _ hl
    have n1 : ∀ a, H a = none → a ≠ dk ∧ a ≠ lf := fun a z => ⟨fun y => (by rw [y, hd] at z; cases z), fun y => (by rw [y, hl] at z; cases z)⟩
    have at1 : ∀ a, a ≠ dk → a ≠ lf → (upd (upd H dk (.dK (dks lf m t))) lf (.lst (left.map V.int))) a = H a := fun a h1 h2 => by rw [upd_ne h2, upd_ne h1]
    have kd : ∀ b o, H b = some o → (∀ φ, o ≠ .ext φ) → b ≠ dk ∧ b ≠ lf := fun b o z no => ⟨fun y => (by rw [y, hd] at z; exact no _ (Option.some.inj z).symm), fun y => (by rw [y, hl] at z; exact no _ (Option.some.inj z).symm)⟩
    have ok1 : HOk P w (upd (upd H dk (.dK (dks lf m t))) lf (.lst (left.map V.int))) s.heap := by
      refine hok_swap e0.hok (fun b y z => ?_) (fun b y z => ?_) fun b o z => ?_
      · obtain ⟨x1, x2⟩ := kd b _ z (fun φ => nofun)
        rw [at1 b x1 x2]; exact z
      · obtain ⟨x1, x2⟩ := kd b _ z (fun φ => nofun)
        rw [at1 b x1 x2]; exact z
      · by_cases x2 : b = lf
        · subst x2; rw [upd_same] at z; cases z; exact .inr ol
        · by_cases x1 : b = dk
          · subst x1; rw [upd_ne x2, upd_same] at z; cases z; exact .inr od
          · rw [at1 b x1 x2] at z; exact .inl z
    have e1 : Env0 P w K mg base A outer s (upd (upd H dk (.dK (dks lf m t))) lf (.lst (left.map V.int))) := ⟨e0.frames, e0.mod, fun b o z => ⟨(e0.bs b o z).1, by rw [at1 b (n1 b (e0.bs b o z).2).1 (n1 b (e0.bs b o z).2).2]; exact (e0.bs b o z).2⟩, e0.bsz, e0.funs, fun b z => by rw [at1 b (n1 b (e0.frf b z)).1 (n1 b (e0.frf b z)).2]; exact e0.frf b z, ok1, e0.bare⟩
    refine codeAny_mono (F.run A outer s _ args us _ (fun v H' => v = v ∧ ∃ r : Int, v = .int r ∧ 0 ≤ r ∧ r < b ∧ ∃ (m' t' : Int) (left' : List Int), 0 ≤ m' ∧ m' < 2147483647 ∧ left'.length ≤ 63 ∧ Ex (upd (upd H dk (.dK (dks lf m' t'))) lf (.lst (left'.map V.int))) H') E hr e1 hb hv
      ⟨dk, lf, m, t, b, left, rfl, by rw [upd_ne ne, upd_same], upd_same, hm0, hm1, hlen, b1, b2, fun r m' t' left' H' r0 r1 a0 a1 a2 ex => ⟨rfl, r, rfl, r0, r1, m', t', left', a0, a1, a2, fun a o z => ex a o ?_⟩⟩) fun r s' hq => ?_
    · by_cases x2 : a = lf
      · subst x2; rw [upd_same] at z ⊢; exact z
      · rw [upd_ne x2] at z ⊢
        by_cases x1 : a = dk
        · subst x1; rw [upd_same] at z ⊢; exact z
        · rw [upd_ne x1] at z ⊢; rw [upd_ne x2, upd_ne x1]; exact z
    · cases r with
      | error e => exact hq
      | ok fl =>
        cases fl with
        | ret u =>
          obtain ⟨v, H', os, bare, un, hok, rv, -, r, rfl, r0, r1, m', t', left', a0, a1, a2, ex⟩ := hq
          have hD := hok dk _ (ex dk _ (by rw [upd_ne ne, upd_same]))
          have hL := hok lf _ (ex lf _ upd_same)
          have at2 : ∀ a, a ≠ dk → a ≠ lf → (upd (upd H' dk (.ext (phiD P w dk lf))) lf (.ext (phiL P w lf))) a = H' a := fun a h1 h2 => by rw [upd_ne h2, upd_ne h1]
          have exH : Ex H (upd (upd H' dk (.ext (phiD P w dk lf))) lf (.ext (phiL P w lf))) := fun a o z => by
            by_cases x2 : a = lf
            · subst x2; rw [upd_same, ← hl]; exact z
            · by_cases x1 : a = dk
              · subst x1; rw [upd_ne x2, upd_same, ← hd]; exact z
              · rw [at2 a x1 x2]; exact ex a o (by rw [upd_ne x2, upd_ne x1]; exact z)
          have kd2 : ∀ b o, H' b = some o → (∀ kvs, o ≠ .dK kvs) → (∀ xs, o ≠ .lst xs) → b ≠ dk ∧ b ≠ lf := fun b o z n1 n2 => ⟨fun y => by rw [y, ex dk _ (by rw [upd_ne ne, upd_same])] at z; exact n1 _ (Option.some.inj z).symm, fun y => by rw [y, ex lf _ upd_same] at z; exact n2 _ (Option.some.inj z).symm⟩
          refine ⟨.int r, _, os, bare, ⟨fun b o z n hb hx => un.keep b o z (by rw [at1 b (n1 b n).1 (n1 b n).2]; exact n) hb hx, fun b o z n hb hx => un.slot b o z (by rw [at1 b (n1 b n).1 (n1 b n).2]; exact n) hb hx,
            fun b o z n hx => by rw [at2 b (n1 b n).1 (n1 b n).2]; exact un.free b o z (by rw [at1 b (n1 b n).1 (n1 b n).2]; exact n) hx, fun b o z hx => un.there b o z hx, fun b xs z => exH b _ z, fun b o u z => exH b _ z, fun b ps z => ⟨#[], by rw [exH b _ z]; simp⟩⟩, ?_, rv, q r _ r0 r1 exH⟩
          refine hok_swap hok (fun b y z => ?_) (fun b y z => ?_) fun b o z => ?_
          · obtain ⟨x1, x2⟩ := kd2 b _ z (fun _ => nofun) (fun _ => nofun)
            rw [at2 b x1 x2]; exact z
          · obtain ⟨x1, x2⟩ := kd2 b _ z (fun _ => nofun) (fun _ => nofun)
            rw [at2 b x1 x2]; exact z
          · by_cases x2 : b = lf
            · subst x2; rw [upd_same] at z; cases z; exact .inr (ext_L a2 hL)
            · by_cases x1 : b = dk
              · subst x1; rw [upd_ne x2, upd_same] at z; cases z; exact .inr (ext_D a0 a1 hD)
              · rw [at2 b x1 x2] at z; exact .inl z
        | next => exact hq
        | brk => exact hq
        | cont => exact hq
end
end E5
set_option Elab.async false
set_option linter.all false
set_option maxRecDepth 100000
set_option maxHeartbeats 4000000
namespace E5
open PySem PySem.Spec PyProof.Rows L2 Evl Y
theorem cut63 {ns : List Int} (h : ns.length ≤ 63) : cutV (ns.map V.int) none (some 63) = ns.map V.int := cutV_all rfl (by
  show min 63 (ns.map V.int).length = _
  rw [List.length_map]; omega)
theorem mk_deck (x1 x2 x3 : V) : mergeK [] [((Sum.inr ("left" : Str) : Key), x1), (Sum.inr "mixed", x2), (Sum.inr "draws", x3)] = [((Sum.inr ("left" : Str) : Key), x1), (Sum.inr "mixed", x2), (Sum.inr "draws", x3)] := by
  have h1 : ¬ ((Sum.inr ("left" : Str) : Key) = (Sum.inr ("mixed" : Str) : Key)) := fun q => lm_ (Sum.inr.inj q)
  have h2 : ¬ ((Sum.inr ("left" : Str) : Key) = (Sum.inr ("draws" : Str) : Key)) := fun q => lt_ (Sum.inr.inj q)
  have h3 : ¬ ((Sum.inr ("mixed" : Str) : Key) = (Sum.inr ("draws" : Str) : Key)) := fun q => mt_ (Sum.inr.inj q)
  simp only [mergeK, List.foldl_cons, List.foldl_nil, putK, List.any_cons, List.any_nil, List.nil_append, List.cons_append, h1, h2, h3, decide_false, Bool.or_false, Bool.false_eq_true, if_false]
section
variable {P : Program} {w : World} {K : PySem.W.Frag} {mg : Str → Option Value} {base : Heap}
def spDeck0 (K : PySem.W.Frag) : Sp := fun vs H Q _ => ∃ (a : Addr) (ns : List Int), vs = [.ref a] ∧ SqL K H a (ns.map V.int) ∧ ns.length ≤ 63 ∧
  ∀ (dk lf : Addr) (m : Int) (left : List Int) (H' : Hp), H dk = none → H lf = none → dk ≠ lf → Ex H H' → H' dk = some (.dK (dks lf m 0)) → H' lf = some (.lst (left.map V.int)) → 0 ≤ m → m < 2147483647 → left.length ≤ 63 → Q (.ref dk) H'
theorem ok_deck0 {f : Addr} {fd : FuncData} {k : Nat} (F : Fun K "_law_dealt" "_law_dealt" sDeck f fd) (mi : mg "int" = none) (ml : mg "list" = none) : FnOk P w K mg base CX0 (k + 1) f fd ["_law_script"] (spDeck0 K) := by
  refine F.ok scDeck (fun vs H Q E h => ?_) (fun cdv A outer s H vs Q E hr h => ?_)
  · obtain ⟨a, ns, rfl, _⟩ := h
    rfl
  · obtain ⟨a, ns, rfl, hx, hlen, q⟩ := h
    have hu := hu_of hr
    have nd := scDeck.nd
    refine ⟨_, pss_sem, ?_⟩
    suffices G : RX (cxOf CX0 P w K mg base ["_law_script", "_law_mixed", "_law_cell"] "_law_dealt" (defScope sDeck) f cdv A outer s H E).nox (defBody sDeck) { nx := fun _ H' => Q .non H', rt := Q } [some (.ref a), none, none] H from G H (Ex.refl H)
    refine rx_set 1 ev_i ?_ nd
    refine rx_forN 2 PassesOwn.never rfl (en_slL (ev_nm 0) hx ov_n (ov_s ev_i)) (fun v H2 e2 hv => ?_) nd
    obtain ⟨r, rfl, hr0, hr1⟩ := hv
    rw [cut63 hlen] at hr1
    refine ⟨r, ns.map V.int, fun n σ' Hb => ∃ (m : Int) (c : Option V), σ' = [some (.ref a), some (.int m), c] ∧ 0 ≤ m ∧ m < 2147483647 ∧ Hb = H2, rfl, sq_of hr1, ⟨14405067, none, rfl, by decide, by decide, rfl⟩, fun n σ' Hb _ ⟨m, c, _, _, _, eb⟩ => eb ▸ sq_of hr1, fun n x σ' Hb hx' ⟨m, c, es, m0, m1, eb⟩ => ?_, fun σ' Hb ⟨m, c, es, m0, m1, eb⟩ => ?_⟩
    · subst es eb
      obtain ⟨u, rfl⟩ : ∃ u, x = V.int u := by
        rw [List.getElem?_map] at hx'
        obtain ⟨u, _, e⟩ := Option.map_eq_some_iff.mp hx'
        exact ⟨u, e.symm⟩
      refine rx_set 1 (ev_mod (ev_int rfl (by rfl) mi (ev_add (ev_add (ev_mul (ev_nm 1) ev_i (.inr ⟨by decide, by decide⟩)) (ev_mod (ev_int rfl (by rfl) mi (ev_nm 2)) ev_i (by decide))) ev_i)) ev_i (by decide)) ?_ nd
      exact rx_up rfl ⟨_, _, rfl, Int.emod_nonneg _ (by decide), Int.emod_lt_of_pos _ (by decide), rfl⟩
    · subst es eb
      have hx2 : SqL K Hb a (ns.map V.int) := ex_l e2 hx
      refine rx_retM (em_disp3 (en_rev (xs := ns.map V.int) (en_listT (by rfl) ml ((en_slL (ev_nm 0) hx2 ov_n (ov_s ev_i)).weak fun v H3 e3 ⟨r', er, _, h3⟩ => ⟨r', er, .inl (by rw [cut63 hlen] at h3; exact sq_of h3)⟩))) (ev_nm 1) ev_i mk_deck (fun p x1 x2 x3 Ha Hb' Hc hp ea f1 eb f2 ec f3 H1 e1 => ?_))
      · obtain ⟨lf, rfl, hlf0, hlf⟩ := f1
        subst f2 f3
        have h1 : Hc lf = some (.lst (ns.map V.int).reverse) := (eb.trans ec) _ _ hlf
        have hpc : Hc p = some (.dK []) := ((ea.trans eb).trans ec) _ _ upd_same
        have npl : p ≠ lf := ne_of hpc h1 (fun z => nomatch z)
        rw [← List.map_reverse] at h1
        refine q p lf m ns.reverse H1 (fresh_back e2 hp) (fresh_back e2 hlf0) npl ?_ (e1 _ _ upd_same) (e1 _ _ (by rw [upd_ne (Ne.symm npl)]; exact h1)) m0 m1 (by rw [List.length_reverse]; exact hlen)
        intro u o hu'
        refine e1 u o ?_
        have nup : u ≠ p := ne_of_none (e2 _ _ hu') hp
        rw [upd_ne nup]
        exact ((ea.trans eb).trans ec) u o (by rw [upd_ne nup]; exact e2 _ _ hu')
end
end E5
set_option Elab.async false
set_option linter.all false
set_option maxRecDepth 100000
set_option maxHeartbeats 4000000
namespace E5
open PySem PySem.Spec PyProof.Rows L2 Evl Y
abbrev sPick : Stmt := topS 34
theorem scPick : FnScope ["_law_deck", "_law_some"] ["_law_deck", "_law_some"] (defScope sPick) := ⟨rfl, rfl, rfl, by decide +kernel, rfl, by decide +kernel, by decide +kernel⟩
section
variable {P : Program} {w : World} {K : PySem.W.Frag} {mg : Str → Option Value} {base : Heap}
def spDeck (P : Program) (w : World) (K : PySem.W.Frag) : Sp := fun vs H Q _ => ∃ (a : Addr) (ns : List Int), vs = [.ref a] ∧ SqL K H a (ns.map V.int) ∧ ns.length ≤ 63 ∧ ∀ (dk lf : Addr) (H' : Hp), H dk = none → H lf = none → H' dk = some (.ext (phiD P w dk lf)) → H' lf = some (.ext (phiL P w lf)) → dk ≠ lf → Ex H H' → Q (.ref dk) H'
theorem deck_ext {f : Addr} {fd : FuncData} {k : Nat} (F : FnOk P w K mg base CX0 k f fd ["_law_script"] (spDeck0 K)) : FnOk P w K mg base CX0 k f fd ["_law_script"] (spDeck P w K) := by
  refine ⟨fun vs H Q E h => ?_, fun A outer s H args us vs Q E hr e0 hb hv hs => ?_⟩
  · obtain ⟨a, ns, rfl, _⟩ := h
    rfl
  · obtain ⟨a, ns, rfl, hx, hlen, q⟩ := hs
    refine codeAny_mono (F.run A outer s H args us _ (fun v H' => ∃ (dk lf : Addr) (m : Int) (left : List Int), v = .ref dk ∧ H dk = none ∧ H lf = none ∧ dk ≠ lf ∧ Ex H H' ∧ H' dk = some (.dK (dks lf m 0)) ∧ H' lf = some (.lst (left.map V.int)) ∧ 0 ≤ m ∧ m < 2147483647 ∧ left.length ≤ 63) E hr e0 hb hv
      ⟨a, ns, rfl, hx, hlen, fun dk lf m left H' h1 h2 h3 h4 h5 h6 h7 h8 h9 => ⟨dk, lf, m, left, rfl, h1, h2, h3, h4, h5, h6, h7, h8, h9⟩⟩) fun r s' hq => ?_
    cases r with
    | error e => exact hq
    | ok fl =>
      cases fl with
      | ret u =>
        obtain ⟨v, H', os, bare, un, hok, rv, dk, lf, m, left, rfl, nd, nl, ne, ex, hd, hl, m0, m1, hlen'⟩ := hq
        have at2 : ∀ a, a ≠ dk → a ≠ lf → (upd (upd H' dk (.ext (phiD P w dk lf))) lf (.ext (phiL P w lf))) a = H' a := fun a h1 h2 => by rw [upd_ne h2, upd_ne h1]
        have exH : Ex H (upd (upd H' dk (.ext (phiD P w dk lf))) lf (.ext (phiL P w lf))) := fun a o z => by
          rw [at2 a (ne_of_none z nd) (ne_of_none z nl)]; exact ex a o z
        have kd2 : ∀ b o, H' b = some o → (∀ kvs, o ≠ .dK kvs) → (∀ xs, o ≠ .lst xs) → b ≠ dk ∧ b ≠ lf := fun b o z n1 n2 => ⟨fun y => by rw [y, hd] at z; exact n1 _ (Option.some.inj z).symm, fun y => by rw [y, hl] at z; exact n2 _ (Option.some.inj z).symm⟩
        have frs1 : ∀ b o, s.heap.get? b = some o → H b = none → H' b = none := fun b o z n => un.free b o z n (by simp)
        refine ⟨.ref dk, _, os, bare, ⟨fun b o z n hb hx => un.keep b o z n hb hx, fun b o z n hb hx => un.slot b o z n hb hx,
          fun b o z n hx => ?_, fun b o z hx => un.there b o z hx, fun b xs z => exH b _ z, fun b o u z => exH b _ z, fun b ps z => ⟨#[], by rw [exH b _ z]; simp⟩⟩, ?_, rv, q dk lf _ nd nl (by rw [upd_ne ne, upd_same]) upd_same ne exH⟩
        · have n2 := un.free b o z n hx
          rw [at2 b (fun y => by rw [y, hd] at n2; cases n2) (fun y => by rw [y, hl] at n2; cases n2)]
          exact n2
        refine hok_swap hok (fun b y z => ?_) (fun b y z => ?_) fun b o z => ?_
        · obtain ⟨x1, x2⟩ := kd2 b _ z (fun _ => nofun) (fun _ => nofun)
          rw [at2 b x1 x2]; exact z
        · obtain ⟨x1, x2⟩ := kd2 b _ z (fun _ => nofun) (fun _ => nofun)
          rw [at2 b x1 x2]; exact z
        · by_cases x2 : b = lf
          · subst x2; rw [upd_same] at z; cases z; exact .inr (ext_L hlen' (hok b _ hl))
          · by_cases x1 : b = dk
            · subst x1; rw [upd_ne x2, upd_same] at z; cases z; exact .inr (ext_D m0 m1 (hok b _ hd))
            · rw [at2 b x1 x2] at z; exact .inl z
      | next => exact hq
      | brk => exact hq
      | cont => exact hq
abbrev psDraw : List Str := ["_law_deck", "_law_many"]
abbrev psPick : List Str := ["_law_deck", "_law_some"]
theorem own_draw (D : Def K mg "_law_draw" sDraw) (mi : mg "int" = none) (mm : mg "max" = none) : Own P w K mg base "_law_draw" psDraw 1 (spDraw P w) := by
  obtain ⟨f, fd, F, m⟩ := D.ex
  exact ⟨f, fd, draw_ext (ok_draw0 F mi mm), F.kp, F.binds (fun _ _ _ _ _ _ us hl => match us, hl with | [_, _], _ => rfl), m⟩
theorem own_deck (D : Def K mg "_law_dealt" sDeck) (mi : mg "int" = none) (ml : mg "list" = none) : Own P w K mg base "_law_dealt" ["_law_script"] 1 (spDeck P w K) := by
  obtain ⟨f, fd, F, m⟩ := D.ex
  exact ⟨f, fd, deck_ext (ok_deck0 F mi ml), F.kp, F.binds (fun _ _ _ _ _ _ us hl => match us, hl with | [_], _ => rfl), m⟩
section
variable {X : Cx} {σ : L2.St} {H : Hp} {a b : Expr} {p q : Pos} {lv : Nat} {dk : Addr} {n : Int} {xs : List V} {φ : V → Hp → Prop}
/-- a draw, as an expression -/
theorem en_draw (O : Own X.prog X.w X.K X.mg X.base "_law_draw" psDraw lv (spDraw X.prog X.w)) (hr : Room lv X.A) (hg : Gl X "_law_draw") (ha : EV X a σ H (.ref dk)) (hn : EV X b σ H (.int n)) (hd : Deck X.prog X.w H dk) (n1 : 1 ≤ n) (n2 : n < 1073741824)
    (he : starEach [a, b] X.env = (false, eval a X.env) :: starEach [b] X.env := by rfl) (he2 : starEach [b] X.env = (false, eval b X.env) :: starEach [] X.env := by rfl) (hpl : (backTo q (starEach [b] X.env)).any (·.1) = false := by rfl) :
    EN X (.Call (.Name "_law_draw" p) [a, b] [] q) σ H fun v _ => ∃ r : Int, v = .int r ∧ 0 ≤ r ∧ r < n :=
  en_own O hr hg (AV.cons ha (AV.cons hn AV.nil he2) he) (fun H1 e1 Q k => ⟨dk, n, rfl, hd.mono e1, n1, n2, fun r H' r0 r1 e2 => k _ _ e2 ⟨r, rfl, r0, r1⟩⟩) (by decide) he hpl
end
end
end E5
set_option Elab.async false
set_option linter.all false
set_option maxRecDepth 100000
set_option maxHeartbeats 4000000
namespace Y
open PySem PySem.Spec PyProof.Rows L2 Evl
section
variable {X : Cx} {σ : L2.St} {H H' : Hp} {v w x y z : V} {e a b c f o : Expr} {i j k : Nat} {K : PySem.W.Frag} {n : Int} {pos pos' apos cpos p1 p2 p3 q1 q2 px py pt : Pos} {D : Ends} {rest : List Stmt} {R : V → Hp → Prop} {l p r C dx : Addr} {xs ys : List V} {φ ψ : V → Hp → Prop} {nm m : Str} {fs : List (Str × V)}
/-- the truth of a list -/
theorem tn_truL (ha : EV X a σ H (.ref p)) (h : SqL X.K H p xs) (he : ∀ whole, isTrue a X.env whole = (do let v ← whole; standAt a.pos; holding [v] (truthy v)) := by intro _; rfl) : TN X a σ H (!xs.isEmpty) :=
  ⟨fun H1 e1 => semT_of (pt_truth pe_sem he) (EV.ev ha H1 e1 _ fun H2 e2 => ⟨_, .inl ⟨xs, ex_l (e1.trans e2) h, rfl⟩, e2, rfl⟩)⟩
theorem ev_inU (ha : EV X a σ H x) (hb : EN X b σ H (NT H xs)) (fx : flatV x = true) (fs : xs.all flatV = true) (hm : behindInMarks .In b = false := by rfl) : EV X (.Compare a [.In] [b] pos) σ H (.bl (inV x xs)) :=
  EN.of (pe_cmpR op_in_seq pe_sem pe_sem hm) fun H1 e1 => EV.ev ha H1 e1 _ fun H2 e2 => sem_mono (hb H2 (e1.trans e2)) fun v H3 ⟨e3, q, ev, _, hq⟩ => ⟨q, xs, ev, .inr (st_of hq), fx, fs, e2.trans e3, rfl⟩
theorem ev_notIn (ha : EV X a σ H x) (hb : EV X b σ H (.ref p)) (h : SqL X.K H p xs ∨ SqT X.K H p xs) (fx : flatV x = true) (fs : xs.all flatV = true) (hm : behindInMarks .NotIn b = false := by rfl) : EV X (.Compare a [.NotIn] [b] pos) σ H (.bl (!inV x xs)) :=
  EN.of (pe_cmpR op_notIn_seq pe_sem pe_sem hm) fun H1 e1 => EV.ev ha H1 e1 _ fun H2 e2 => EV.ev hb H2 (e1.trans e2) _ fun H3 e3 => ⟨p, xs, rfl, h.imp (ex_l ((e1.trans e2).trans e3)) (ex_t ((e1.trans e2).trans e3)), fx, fs, e2.trans e3, rfl⟩
/-- {} -/
theorem em_dict0 (k : ∀ p, H p = none → R (.ref p) (upd H p (.dK []))) : EM X (.Dict [] [] pos) σ H R := EM.of pe_dnewK fun H1 e1 p hp => ⟨_, ex_upd e1, k p (fresh_back e1 hp)⟩
theorem em_append2 (ho : EM X o σ H fun v Hb => ∃ l xs w, v = .ref l ∧ Hb l = some (.lst xs) ∧ xs.length < 100000 ∧ EV X e σ Hb w ∧ R .non (upd Hb l (.lst (xs ++ [w]))))
    (hbase : attributeBase o "append" X.env (eval o X.env) = eval o X.env := by rfl)
    (hfew : ((backTo cpos (starEach [e] X.env)).all (fun x => !x.1) && (backToKw cpos (keywordEach [] X.env)).all (fun x => x.1.isSome) && decide (([e] : List Expr).length + ([] : List Keyword).length + (if ([] : List Keyword).isEmpty then 0 else 1) < 30)) = true := by rfl)
    (hline : (apos.endLine == cpos.line) = true := by rfl) (hs : starEach [e] X.env = (false, eval e X.env) :: starEach [] X.env := by rfl) (hplain : (backTo cpos (starEach [] X.env)).any (·.1) = false := by rfl) :
    EM X (.Call (.Attribute o "append" apos) [e] [] cpos) σ H R :=
  EM.of (pe_bm PySem.F.plainAttrs_list PySem.F.slot_list_append PySem.F.type_list_append mt_append pe_sem (pa_cons pe_sem pa_nil hs) hbase hfew hline hs hplain) fun H1 e1 => sem_mono (ho H1 e1) fun v H2 ⟨Hb, e2, l, xs, w, ev, h, hl, he, q⟩ => by
    subst ev
    exact ⟨Or.inl ⟨rfl, xs, sq_of (e2 _ _ h)⟩, EV.ev he H2 e2 _ fun H3 e3 => ⟨l, xs, w, rfl, rfl, (e2.trans e3) _ _ h, sz_lt hl, _, ex_upd (e2.trans e3), q⟩⟩
end
/-! ### the fields of an object by their names -/
theorem lk_here {k : Str} {v : V} {r : List (Str × V)} : List.lookup k ((k, v) :: r) = some v := by
  have e : (k == k) = true := beq_self_eq_true k
  simp only [List.lookup, e]
theorem lk_past {k g : Str} {v : V} {r : List (Str × V)} (h : (k == g) = false) : List.lookup k ((g, v) :: r) = List.lookup k r := by
  simp only [List.lookup, h]
theorem put_here {f : Str} {v x : V} {r : List (Str × V)} : putF f v ((f, x) :: r) = (f, v) :: r := if_pos rfl
theorem put_past {f g : Str} {v x : V} {r : List (Str × V)} (h : ¬ g = f) : putF f v ((g, x) :: r) = (g, x) :: putF f v r := if_neg h
end Y
set_option Elab.async false
set_option linter.all false
set_option maxRecDepth 100000
set_option maxHeartbeats 4000000
namespace Y
open PySem PySem.Spec PyProof.Rows L2 Evl
section
variable {X : Cx} {σ : L2.St} {H H' : Hp} {i j k : Nat} {pos spos px py : Pos} {D : Ends} {rest : List Stmt} {r : Addr} {xs : List V} {elt l tst : Expr} {xn y : Str} {scope : Scope} {own : List (Str × Nat)}
theorem td_of {e : Expr} {bb : Bool} {ψ : Bool → Hp → Prop} (h : TN X e σ H bb) (k : ∀ H2, Ex H H2 → ψ bb H2) : TD X e σ H ψ := ⟨fun H1 e1 => semT_mono (h H1 e1) fun b' H2 ⟨e2, q⟩ => ⟨e2, by subst q; exact k H2 (e1.trans e2)⟩⟩
/-- y = [.. for x in list if ..] on one line -/
theorem rx_setLt (i j : Nat) (hc : X.calm = true) (hN : X.N.Nodup) (ok : BlkOk X.N X.env.scope scope own) (hl : EN X l σ H fun v H2 => ∃ r, v = .ref r ∧ SqL X.K H2 r xs) (hz : xs.length ≤ 100000)
    (hg : ∀ (s : Shared) (H : Hp) (C : Addr) (cl : List (Str × Addr)) (fp : List Addr), PG (X.blk s H scope (compEnvC scope cl C X.env) fp) (.Name xn px) (gName j))
    (hw : ∀ v, wipe ((wipe σ (own.map (·.2))).set j (some v)) (own.map (·.2)) = wipe σ (own.map (·.2)))
    (P : Nat → List V → Hp → Prop) (hP : ∀ n acc H1 H2, Tx H1 H2 → P n acc H1 → P n acc H2) (h0 : P 0 [] H)
    (hs : ∀ n x acc Hb (s : Shared) (H' : Hp) (C : Addr) (cl : List (Str × Addr)) (fp : List Addr), xs[n]? = some x → Ex H Hb → P n acc Hb →
      TD (X.blk s H' scope (compEnvC scope cl C X.env) fp) tst ((wipe σ (own.map (·.2))).set j (some x)) Hb fun b H3 => if b = true then
        ∀ (s : Shared) (H' : Hp) (C : Addr) (cl : List (Str × Addr)) (fp : List Addr), EN (X.blk s H' scope (compEnvC scope cl C X.env) fp) elt ((wipe σ (own.map (·.2))).set j (some x)) H3 fun v H2 => P (n + 1) (acc ++ [v]) H2 else P (n + 1) acc H3)
    (k : ∀ (D' : Addr) (acc : List V) (H2 : Hp), Ex H H2 → H D' = none → H2 D' = some (.lst acc) → acc.length ≤ xs.length → P xs.length acc H2 → RX X rest D (σ.set i (some (.ref D'))) H2)
    (hi : X.N[i]? = some y := by rfl) (hyl : X.env.scope.names.lookup y = some .local := by rfl) (hsw : swapsWith (.ListComp elt [⟨.Name xn px, l, [tst], 0⟩] scope pos) (some (.Name y py)) spos.line X.env = pure true := by rfl)
    (hfo : ∀ x, foldedSetIterable l X.env x = pure x := by intro _; rfl) :
    RX X (.Assign [.Name y py] (.ListComp elt [⟨.Name xn px, l, [tst], 0⟩] scope pos) spos :: rest) D σ H :=
  rx_of (ps_setLc hc hN hi hyl hsw (pi_list pe_sem) ok hg (fun s H' C cl fp => pts_one (pt_blk s H' C cl fp)) (fun s H' C cl fp => pe_blk s H' C cl fp) hfo) fun H1 e1 => sem_mono (hl H1 e1) fun v H2 ⟨e2, r, er, hx⟩ => ⟨r, er, ⟨xs, hx⟩, fun D hD =>
    lc_list (xs := xs) (LcW H2 D P) ⟨[], Nat.le_refl _, hD, Ex.new hD, upd_same, hP _ _ _ _ (Tx.trans (e1.trans e2).tx (Ex.new hD).tx) h0⟩ (fun i H' _ p => let ⟨_, _, _, e, _, _⟩ := p; ex_l e hx)
      (fun i x H' hi ⟨acc, q1, q2, q3, q4, q5⟩ => ⟨hw x, fun s H'' C cl fp => semT_mono (hs i x acc H' s H'' C cl fp hi ((e1.trans e2).trans q3) q5 H' (Ex.refl H')) fun b H3 ⟨e3, q6⟩ => by
        cases b with
        | true =>
          rw [if_pos rfl] at q6 ⊢
          exact fun s H'' C cl fp => sem_mono (q6 s H'' C cl fp H3 (Ex.refl H3)) fun v H4 ⟨e4, q7⟩ =>
            LcW.push hP q1 q2 ((q3.trans e3).trans e4) ((e3.trans e4) D _ q4) (by have := (List.getElem?_eq_some_iff.mp hi).1; omega) q7
        | false =>
          rw [if_neg Bool.false_ne_true] at q6 ⊢
          exact ⟨acc, Nat.le_succ_of_le q1, q2, q3.trans e3, e3 D _ q4, q6⟩⟩)
      (fun H' ⟨acc, q1, q2, q3, q4, q5⟩ => k D acc H' ((e1.trans e2).trans q3) (fresh_back (e1.trans e2) q2) q4 q1 q5 H' (Ex.refl H'))⟩
variable {e a b c f o : Expr} {φ ψ : V → Hp → Prop} {p C : Addr} {m : Str} {ps : List Str} {lv : Nat} {sp : Sp} {es : List Expr} {us : List V} {apos : Pos}
/-- e is not None, e something -/
theorem en_isnotN {j} {q : Pos} (ha : EN X a σ H fun v _ => v ≠ .non) : EN X (.Compare a [.IsNot] [.Constant .none j q] pos) σ H fun v _ => v = .bl true :=
  EN.of (pe_cmpR op_notN pe_sem pe_non (nomark _)) fun H1 e1 => sem_mono (ha H1 e1) fun v H2 ⟨e2, q⟩ => ⟨rfl, e2, by rw [decide_eq_false q]; rfl⟩
/-- e.m(..), the object made by e -/
theorem en_methN {pl : Sem Bool} (O : OwnM X.prog X.w X.K X.mg X.base C m ps lv sp) (c : Cls X.K C) (hr : Room lv X.A) (ho : EN X o σ H φ) (ha : AV X (e :: es) σ H us)
    (h : ∀ v H2, Ex H H2 → φ v H2 → ∃ p dx fs, v = .ref p ∧ H2 p = some (.ins C dx fs) ∧ fs.lookup m = none ∧ ∀ H1, Ex H2 H1 → ∀ Q : VK, (∀ v H3, Ex H1 H3 → ψ v H3 → Q v H3) → sp (.ref p :: us) H1 Q (fun _ _ _ => False))
    (hst : starEach (e :: es) X.env = (false, eval e X.env) :: starEach es X.env := by rfl) (hpl : (backTo pos (starEach es X.env)).any (·.1) = false := by rfl)
    (ht : eval (.Call (.Attribute o m apos) (e :: es) [] pos) X.env = (do
      let ov ← eval o X.env
      standAt apos.atName
      let (f, first) ← holding [ov] (getMethod ov m pl)
      callWith pos f first (backTo pos (starEach (e :: es) X.env)) (backToKw pos (keywordEach [] X.env))) := by rfl) : EN X (.Call (.Attribute o m apos) (e :: es) [] pos) σ H ψ := by
  obtain ⟨g, fd, F, M, hb⟩ := O.ex
  exact EN.of (pe_meth pe_sem c M F hr hb .nil pass0 pa_sem hst hpl ht) fun H1 e1 => sem_mono (ho H1 e1) fun v H2 ⟨e2, q⟩ => by
    obtain ⟨p, dx, fs, rfl, hp, hm, k⟩ := h v H2 (e1.trans e2) q
    exact ⟨p, dx, fs, rfl, hp, hm, semA_mono (ha H2 (e1.trans e2)) fun vs H3 ⟨e3, kk⟩ => by
      subst kk
      rw [List.append_nil]
      exact k H3 e3 _ fun v H4 e4 q => ⟨(e2.trans e3).trans e4, q⟩⟩
end
end Y
set_option Elab.async false
set_option linter.all false
set_option maxRecDepth 100000
set_option maxHeartbeats 4000000
namespace Y
open PySem PySem.Spec PyProof.Rows L2 Evl
section
variable {X : Cx} {σ : L2.St} {H H' : Hp} {v w x y z : V} {e a b c f o : Expr} {i j k : Nat} {K : PySem.W.Frag} {n m : Int} {pos pos' apos cpos p1 p2 p3 q1 q2 px py pt : Pos} {D : Ends} {rest : List Stmt} {R : V → Hp → Prop} {l p r C dx : Addr} {xs ys : List V} {φ ψ : V → Hp → Prop} {nm : Str}
/-- (a, b), a told by what is true of it -/
theorem en_tup2N {x1} (ha : EN X a σ H φ) (hb : EV X b σ H w) (he : starEach [a, b] X.env = (false, eval a X.env) :: starEach [b] X.env := by rfl) (he2 : starEach [b] X.env = (false, eval b X.env) :: starEach [] X.env := by rfl) :
    EN X (.Tuple [a, b] x1 pos) σ H fun v H2 => ∃ (p : Addr) (u : V) (H3 : Hp), v = .ref p ∧ H2 p = some (.tup [u, w]) ∧ φ u H3 ∧ Ex H3 H2 :=
  EN.of (pe_tup (pa_cons pe_sem (pa_cons pe_sem pa_nil he2) he)) fun H1 e1 => sem_mono (ha H1 e1) fun u H2 ⟨e2, q⟩ => EV.ev hb H2 (e1.trans e2) _ fun H3 e3 => ⟨by show 2 ≤ sizeLine; decide, fun p hp => ⟨(e2.trans e3).trans (Ex.new hp), p, u, H2, rfl, upd_same, q, e3.trans (Ex.new hp)⟩⟩
/-- [f(x)] of described values -/
theorem en_ixTN {α : V → Hp → Prop} (ha : EN X a σ H φ) (hb : EV X b σ H (.int n)) (k : ∀ v H2, Ex H H2 → φ v H2 → ∃ r xs c, v = .ref r ∧ (SqL X.K H2 r xs ∨ SqT X.K H2 r xs) ∧ atI xs n = some c ∧ ∀ H3, Ex H2 H3 → α c H3) (hs : PlainIx b := by exact fun _ _ => rfl) : EN X (.Subscript a b pos) σ H α := by
  refine EN.of (pe_ix (IxR.or ix_list ix_tup) pe_sem pe_sem hs) fun H1 e1 => sem_mono (ha H1 e1) fun v H2 ⟨e2, q⟩ => ?_
  obtain ⟨r, xs, c, ev, h, g, kk⟩ := k v H2 (e1.trans e2) q
  refine EV.ev hb H2 (e1.trans e2) _ fun H3 e3 => ?_
  rcases h with h | h
  · exact .inl ⟨r, xs, n, c, ev, rfl, ex_l e3 h, g, e2.trans e3, kk H3 e3⟩
  · exact .inr ⟨r, xs, n, c, ev, rfl, ex_t e3 h, g, e2.trans e3, kk H3 e3⟩
/-- {'..': a, '..': b, '..': c}, one behind the other -/
theorem em_disp3N {s1 s2 s3 : Str} {j1 j2 j3} {q1 q2 q3 : Pos} {v1 v2 v3 : Expr}
    (hk : ∀ x1 x2 x3 : V, mergeK [] [(Sum.inr s1, x1), (Sum.inr s2, x2), (Sum.inr s3, x3)] = [(Sum.inr s1, x1), (Sum.inr s2, x2), (Sum.inr s3, x3)])
    (h : ∀ p, H p = none → EN X v1 σ (upd H p (.dK [])) fun x1 Ha => EN X v2 σ Ha fun x2 Hb => EN X v3 σ Hb fun x3 Hc => Hc p = some (.dK []) → R (.ref p) (upd Hc p (.dK [(Sum.inr s1, x1), (Sum.inr s2, x2), (Sum.inr s3, x3)]))) :
    EM X (.Dict [some (.Constant (.str s1) j1 q1), some (.Constant (.str s2) j2 q2), some (.Constant (.str s3) j3 q3)] [v1, v2, v3] pos) σ H R :=
  EM.of (pe_disp (pps_cons pe_str pe_sem (pps_cons pe_str pe_sem (pps_cons pe_str pe_sem pps_nil))) (by rfl) (by rfl) (fun z => by cases z) (by show 3 ≤ 15; decide)) fun H1 e1 p hp => by
    have hn := fresh_back e1 hp
    refine sem_mono (h p hn _ (ex_upd e1)) fun x1 Ha ⟨ea, f1⟩ => sem_mono (f1 Ha (Ex.refl _)) fun x2 Hb ⟨eb, f2⟩ => sem_mono (f2 Hb (Ex.refl _)) fun x3 Hc ⟨ec, f3⟩ => ?_
    have hc : Hc p = some (.dK []) := ((ea.trans eb).trans ec) _ _ upd_same
    refine ⟨hc, [(Sum.inr s1, x1), (Sum.inr s2, x2), (Sum.inr s3, x3)], rfl, by show 3 ≤ 15; decide, ?_⟩
    rw [hk]
    exact ⟨_, Ex.refl _, f3 hc⟩
end
end Y
set_option Elab.async false
set_option linter.all false
set_option maxRecDepth 100000
set_option maxHeartbeats 4000000
namespace Y
open PySem PySem.Spec PyProof.Rows L2 Evl
section
variable {X : Cx} {σ : L2.St} {H H' : Hp} {v w x y z : V} {e a b c f o : Expr} {i j k : Nat} {K : PySem.W.Frag} {n m : Int} {pos pos' apos cpos p1 p2 p3 q1 q2 px py pz pt : Pos} {D : Ends} {rest : List Stmt} {R : V → Hp → Prop} {l p r C dx : Addr} {xs ys : List V} {φ ψ : V → Hp → Prop} {nx ny nz : Str}
theorem flat_dp : ∀ xs : List V, (∀ x ∈ xs, (∃ i, x = V.int i) ∨ ∃ t, x = V.str t ∧ PyData.strOk t = true) → ∃ ds, (∀ K H, DpAll K H xs ds) ∧ PyData.canLayAll0 ds = true ∧ PyData.depthAll ds ≤ 1 ∧ ds.isEmpty = xs.isEmpty
  | [], _ => ⟨[], fun _ _ => .nil, rfl, by simp [PyData.depthAll], rfl⟩
  | x :: xs, h => by
    obtain ⟨ds, h1, h2, h3, h4⟩ := flat_dp xs fun y hy => h y (List.mem_cons_of_mem _ hy)
    rcases h x List.mem_cons_self with ⟨i, rfl⟩ | ⟨t, rfl, ht⟩
    · refine ⟨.int i :: ds, fun K H => .cons (.int i) (h1 K H), ?_, ?_, rfl⟩
      · simp only [PyData.canLayAll0, PyData.canLay0, Bool.true_and]; exact h2
      · simp only [PyData.depthAll, PyData.depth]; omega
    · refine ⟨.str t :: ds, fun K H => .cons (.str t) (h1 K H), ?_, ?_, rfl⟩
      · simp only [PyData.canLayAll0, PyData.canLay0, ht, Bool.true_and]; exact h2
      · simp only [PyData.depthAll, PyData.depth]; omega
theorem shaped_tup {ds : List PyData} (h : PyData.canLayAll0 ds = true) (d : PyData.depthAll ds ≤ 1) : SeqAt.shaped (.tuple ds) = true := by
  unfold SeqAt.shaped
  rw [Bool.and_eq_true]
  refine ⟨by rw [PyData.canLay0]; exact h, decide_eq_true ?_⟩
  rw [PyData.depth]
  omega
theorem eqv_unit (ds : List PyData) : PyData.eqv (.tuple ds) (.tuple []) = ds.isEmpty := by
  cases ds <;> simp [PyData.eqv, PyData.eqvAll]
/-- t != () -/
theorem tn_neUnit {kt : Nat} (hu : X.A.units + 64 < cLine) (ha : EV X a σ H (.ref p)) (h : SqT X.K H p xs) (hf : ∀ x ∈ xs, (∃ i, x = V.int i) ∨ ∃ t, x = V.str t ∧ PyData.strOk t = true) : TN X (.Compare a [.NotEq] [.Tuple [] kt pos'] pos) σ H (!xs.isEmpty) := ⟨fun H1 e1 => by
  obtain ⟨ds, h1, h2, h3, h4⟩ := flat_dp xs hf
  exact semT_of (pt_cmpR (op_neD hu) pe_sem (pe_tup pa_nil) (nomark _)) (EV.ev ha H1 e1 _ fun H2 e2 => ⟨Nat.zero_le _, fun r hr => ⟨_, _, .tup (ex_t ((e1.trans e2).trans (Ex.new hr)) h) (h1 _ _), .tup (.inl (.inl upd_same)) .nil, shaped_tup h2 h3, shaped_tup rfl (by simp [PyData.depthAll]), _, rfl, e2.trans (Ex.new hr), by rw [eqv_unit, h4]⟩⟩)⟩
/-- (a, b, e), e told -/
theorem en_tup3N {x1} (ha : EV X a σ H v) (hb : EV X b σ H w) (hc : EN X c σ H φ) (he : starEach [a, b, c] X.env = (false, eval a X.env) :: starEach [b, c] X.env := by rfl) (he2 : starEach [b, c] X.env = (false, eval b X.env) :: starEach [c] X.env := by rfl) (he3 : starEach [c] X.env = (false, eval c X.env) :: starEach [] X.env := by rfl) :
    EN X (.Tuple [a, b, c] x1 pos) σ H fun u H2 => ∃ (p : Addr) (z : V) (H3 : Hp), u = .ref p ∧ H2 p = some (.tup [v, w, z]) ∧ φ z H3 ∧ Ex H3 H2 :=
  EN.of (pe_tup (pa_cons pe_sem (pa_cons pe_sem (pa_cons pe_sem pa_nil he3) he2) he)) fun H1 e1 => EV.ev ha H1 e1 _ fun H2 e2 => EV.ev hb H2 (e1.trans e2) _ fun H3 e3 => sem_mono (hc H3 ((e1.trans e2).trans e3)) fun z H4 ⟨e4, q⟩ =>
    ⟨by show 3 ≤ sizeLine; decide, fun p hp => ⟨((e2.trans e3).trans e4).trans (Ex.new hp), p, z, H4, rfl, upd_same, q, Ex.new hp⟩⟩
/-- x, y, z = a, b, c: all plain locals -/
theorem rx_par3 {kt k2 : Nat} {pt2 : Pos} (i j k : Nat) (h : AM X [a, b, c] σ H fun vs Hb => ∃ u v w, vs = [u, v, w] ∧ RX X rest D (((σ.set i (some u)).set j (some v)).set k (some w)) Hb) (hc : X.calm = true) (hN : X.N.Nodup) (hij : i ≠ j) (hik : i ≠ k) (hjk : j ≠ k) (hi : X.N[i]? = some nx := by rfl) (hj : X.N[j]? = some ny := by rfl) (hk : X.N[k]? = some nz := by rfl)
    (hx : X.env.scope.names.lookup nx = some .local := by rfl) (hy : X.env.scope.names.lookup ny = some .local := by rfl) (hz : X.env.scope.names.lookup nz = some .local := by rfl)
    (hw : swappedStores [.Tuple [.Name nx px, .Name ny py, .Name nz pz] kt pt] (.Tuple [a, b, c] k2 pt2) X.env = pure (some [nx, ny, nz]) := by rfl) (hs : swapsWithSole [.Tuple [.Name nx px, .Name ny py, .Name nz pz] kt pt] (.Tuple [a, b, c] k2 pt2) pos.line X.env = pure false := by rfl) :
    RX X (.Assign [.Tuple [.Name nx px, .Name ny py, .Name nz pz] kt pt] (.Tuple [a, b, c] k2 pt2) pos :: rest) D σ H :=
  rx_of (ps_par3 hc hN hi hj hk hij hik hjk hx hy hz pa_sem hw hs) fun H1 e1 => semA_mono (h H1 e1) fun vs H2 ⟨Hb, e2, u, v, w, ev, k⟩ => ⟨u, v, w, ev, k H2 e2⟩
end
end Y
set_option Elab.async false
set_option linter.all false
set_option maxRecDepth 100000
set_option maxHeartbeats 4000000
namespace Y
open PySem PySem.Spec PyProof.Rows L2 Evl
section
variable {X : Cx} {σ : L2.St} {H H' : Hp} {v w x y z : V} {e a b c f o : Expr} {i j k : Nat} {K : PySem.W.Frag} {n m : Int} {pos pos' apos cpos p1 p2 p3 q1 q2 px py pz pt : Pos} {D : Ends} {rest : List Stmt} {R : V → Hp → Prop} {l p r C dx : Addr} {xs ys : List V} {φ ψ : V → Hp → Prop} {es : List Expr} {Φ : List V → Hp → Prop}
/-- arguments that are told, the known heap only extended -/
structure AN (X : Cx) (es : List Expr) (σ : L2.St) (H : Hp) (Φ : List V → Hp → Prop) : Prop where
  run : ∀ H1, Ex H H1 → semA X es σ H1 fun us H2 => Ex H1 H2 ∧ Φ us H2
theorem AN.nil (h : ∀ H1, Ex H H1 → Φ [] H1) : AN X [] σ H Φ := ⟨fun H1 e1 => semA_of pa_nil ⟨Ex.refl H1, h H1 e1⟩⟩
theorem AN.cons (h : EN X e σ H φ) (r : ∀ v H2, Ex H H2 → φ v H2 → AN X es σ H2 fun vs H3 => Φ (v :: vs) H3) (hs : starEach (e :: es) X.env = (false, eval e X.env) :: starEach es X.env := by rfl) : AN X (e :: es) σ H Φ :=
  ⟨fun H1 e1 => semA_of (pa_cons pe_sem pa_sem hs) (sem_mono (h H1 e1) fun v H2 ⟨e2, q⟩ => semA_mono ((r v H2 (e1.trans e2) q).run H2 (Ex.refl _)) fun vs H3 ⟨e3, q3⟩ => ⟨e2.trans e3, q3⟩)⟩
theorem en_lstA (h : AN X es σ H Φ) (hl : ∀ vs H2, Φ vs H2 → vs.length ≤ 100000) : EN X (.List es pos) σ H fun v H2 => ∃ p vs H3, v = .ref p ∧ H2 p = some (.lst vs) ∧ Φ vs H3 ∧ Ex H3 H2 := EN.of (pe_lst pa_sem) fun H1 e1 => semA_mono (h.run H1 e1) fun us H2 ⟨e2, q⟩ =>
  ⟨sz_of (hl us H2 q), fun p hp => ⟨e2.trans (Ex.new hp), p, us, H2, rfl, upd_same, q, Ex.new hp⟩⟩
theorem cutV_mem {xs : List V} {lo hi : Option Int} {y : V} (h : y ∈ cutV xs lo hi) : y ∈ xs := by
  unfold cutV at h
  exact List.mem_of_mem_drop (List.mem_of_mem_take h)
end
end Y
set_option Elab.async false
set_option linter.all false
set_option maxRecDepth 100000
set_option maxHeartbeats 4000000
namespace Y
open PySem PySem.Spec PyProof.Rows L2 Evl
section
variable {X : Cx} {σ : L2.St} {H H' : Hp} {v w x y z : V} {e a b c f o : Expr} {i j k : Nat} {K : PySem.W.Frag} {n m : Int} {pos pos' apos cpos p1 p2 p3 q1 q2 px py pz pt : Pos} {D : Ends} {rest : List Stmt} {R : V → Hp → Prop} {l p r C dx : Addr} {xs ys : List V} {φ ψ : V → Hp → Prop} {es : List Expr} {Φ : List V → Hp → Prop} {nm : Str} {ps : List Str} {lv : Nat} {sp : Sp}
/-- a slice of a tuple of the heap -/
theorem en_slTt {lo hi : Option Expr} {lv hv : Option Int} (h : EV X e σ H (.ref p)) (hx : H p = some (.tup xs)) (h1 : OV X lo σ H lv) (h2 : OV X hi σ H hv) : EN X (.Subscript e (.Slice lo hi none p2) pos) σ H fun v H2 => ∃ r, v = .ref r ∧ H2 r = some (.tup (cutV xs lv hv)) := let ⟨_, q1, r1⟩ := h1; let ⟨_, q2, r2⟩ := h2
  EN.of (pe_slice sl_tupA pe_sem q1 q2) fun H1 e1 => (EV.ev h) H1 e1 _ fun H2 e2 => r1 H2 (e1.trans e2) _ fun H3 e3 => r2 H3 ((e1.trans e2).trans e3) _ fun H4 e4 =>
    ⟨p, xs, rfl, st_of ((((e1.trans e2).trans e3).trans e4) _ _ hx), fun z => ⟨(e2.trans e3).trans e4, p, rfl, by rw [cutV_all z.1 z.2]; exact (((e1.trans e2).trans e3).trans e4) _ _ hx⟩, fun _ q hq => ⟨((e2.trans e3).trans e4).trans (Ex.new hq), q, rfl, upd_same⟩⟩
/-- a call of an own def, its arguments told -/
theorem en_ownA {q : Pos} {p : Pos} (O : Own X.prog X.w X.K X.mg X.base nm ps lv sp) (hr : Room lv X.A) (hg : Gl X nm) (ha : AN X (e :: es) σ H Φ) (h : ∀ us H1, Ex H H1 → Φ us H1 → ∀ Q : VK, (∀ v H2, Ex H1 H2 → φ v H2 → Q v H2) → sp us H1 Q (fun _ _ _ => False))
    (hdb : (nm == ("__debug__" : Str)) = false := by decide) (he : starEach (e :: es) X.env = (false, eval e X.env) :: starEach es X.env := by rfl) (hpl : (backTo q (starEach es X.env)).any (·.1) = false := by rfl) :
    EN X (.Call (.Name nm p) (e :: es) [] q) σ H φ := by
  obtain ⟨g, fd, F, hk, hb, hm⟩ := O.ex
  exact EN.of (pe_call F hr hg hm hk hb .nil pass0 pa_sem hdb he hpl) fun H1 e1 => semA_mono (ha.run H1 e1) fun vs H2 ⟨e2, k⟩ => by
    rw [List.append_nil]
    exact h vs H2 (e1.trans e2) k _ fun v H3 e3 q => ⟨e2.trans e3, q⟩
theorem cutV_take {n : Nat} : cutV xs none (some (n : Int)) = xs.take n := by
  unfold cutV
  rw [HT.sIx_none, Nat.sub_zero, List.drop_zero, show HT.sIx xs.length xs.length (some (n : Int)) = min n xs.length from HT.sIx_nat xs.length xs.length n]
  rcases Nat.le_total n xs.length with h | h
  · rw [Nat.min_eq_left h]
  · rw [Nat.min_eq_right h, List.take_length, List.take_of_length_le h]
theorem cutV_len {lo hi : Option Int} : (cutV xs lo hi).length ≤ xs.length := by
  unfold cutV
  rw [List.length_take, List.length_drop]
  omega
end
end Y
set_option Elab.async false
set_option linter.all false
set_option maxRecDepth 100000
set_option maxHeartbeats 4000000
/-! dicts that are walked: under a lock they stand as frozen; what reads them reads on. -/
namespace Y
open PySem PySem.Spec PyProof.Rows L2 Evl
theorem rd_mono {H H' : Hp} {p : Addr} {u : HO} (h : Rd H p u) (e : Ex H H') : Rd H' p u := h.imp (fun z => e _ _ z) fun ⟨o, z⟩ => ⟨o, e _ _ z⟩
theorem rd_get {H : Hp} {p : Addr} {kvs : List (Key × V)} {k : Key} (h : Rd H p (.dK kvs)) : DGet H p (kV k) (valV kvs k) := .inl ⟨kvs, k, h, rfl, rfl⟩
section
variable {X : Cx} {σ : L2.St} {H H' : Hp} {v w x y z : V} {e a b c f o : Expr} {i j k : Nat} {n m : Int} {pos pos' apos cpos p1 p2 p3 q1 q2 px py pz pt : Pos} {D : Ends} {rest : List Stmt} {l p r d C dx : Addr} {xs ys : List V} {φ ψ : V → Hp → Prop} {nx ny : Str} {kvs : List (Key × V)} {ky : Key}
theorem tn_dinR (hu : X.A.units + 1 < cLine) (ha : EV X a σ H (kV ky)) (hb : EV X b σ H (.ref p)) (h : Rd H p (.dK kvs)) (hm : behindInMarks .In b = false := by rfl) : TN X (.Compare a [.In] [b] pos) σ H (valV kvs ky).isSome :=
  ⟨fun H1 e1 => semT_of (pt_cmp (pc_din hu pe_sem pe_sem) hm) (EV.ev ha H1 e1 _ fun H2 e2 => EV.ev hb H2 (e1.trans e2) _ fun H3 e3 => ⟨p, _, rfl, rd_get (rd_mono h ((e1.trans e2).trans e3)), _, rfl, e2.trans e3, rfl⟩)⟩
theorem tn_dnotinR (hu : X.A.units + 1 < cLine) (ha : EV X a σ H (kV ky)) (hb : EV X b σ H (.ref p)) (h : Rd H p (.dK kvs)) (hm : behindInMarks .NotIn b = false := by rfl) : TN X (.Compare a [.NotIn] [b] pos) σ H (!(valV kvs ky).isSome) :=
  ⟨fun H1 e1 => semT_of (pt_cmp (pc_dnotin hu pe_sem pe_sem) hm) (EV.ev ha H1 e1 _ fun H2 e2 => EV.ev hb H2 (e1.trans e2) _ fun H3 e3 => ⟨p, _, rfl, rd_get (rd_mono h ((e1.trans e2).trans e3)), _, rfl, e2.trans e3, rfl⟩)⟩
theorem ev_dgetR (hu : X.A.units + 1 < cLine) (ha : EV X a σ H (.ref p)) (hb : EV X b σ H (kV ky)) (h : Rd H p (.dK kvs)) (g : valV kvs ky = some v) (hs : NoSl b := by exact fun _ _ => rfl) : EV X (.Subscript a b pos) σ H v :=
  EN.of (pe_dget hu pe_sem pe_sem hs) fun H1 e1 => EV.ev ha H1 e1 _ fun H2 e2 => EV.ev hb H2 (e1.trans e2) _ fun H3 e3 => ⟨p, v, rfl, by rw [← g]; exact rd_get (rd_mono h ((e1.trans e2).trans e3)), e2.trans e3, rfl⟩
theorem Ex.set {H H1 : Hp} {p : Addr} {o : HO} (e : Ex H H1) : Ex (upd H p o) (upd H1 p o) := ex_upd e
theorem semS_ends {ss : List Stmt} {D D' : Ends} (h : semS X ss D σ H) (hn : ∀ σ H, D.nx σ H → D'.nx σ H) (hr : ∀ v H, D.rt v H → D'.rt v H) (hb : ∀ σ H, D.bk σ H → D'.bk σ H) (hc : ∀ σ H, D.ct σ H → D'.ct σ H) : semS X ss D' σ H := fun pins s I => thn (h pins s I) fun f s1 q => by
  cases f with
  | next => obtain ⟨σ', H', I2, q⟩ := q; exact ⟨σ', H', I2, hn _ _ q⟩
  | brk => obtain ⟨σ', H', I2, q⟩ := q; exact ⟨σ', H', I2, hb _ _ q⟩
  | cont => obtain ⟨σ', H', I2, q⟩ := q; exact ⟨σ', H', I2, hc _ _ q⟩
  | ret v => obtain ⟨x, σ', H', I2, r, q⟩ := q; exact ⟨x, σ', H', I2, r, hr _ _ q⟩
/-- for k, v in e.items(): nothing leaves it -/
theorem rx_forI {kt : Nat} (i j : Nat) {body : List Stmt} (hp : PassesOwn (model X.prog X.w) X.A X.env X.xe) (hc : X.calm = true) (hd : H d = some (.dK kvs)) (he : ∀ od, EV X e σ (upd H d (.frz od (.dK kvs))) (.ref d)) (P : Obj → Nat → L2.St → Hp → Prop)
    (h0 : ∀ od, P od 0 σ (upd H d (.frz od (.dK kvs)))) (hk : ∀ od n σ' Hb, n ≤ kvs.length → P od n σ' Hb → Hb d = some (.frz od (.dK kvs)))
    (hs : ∀ od n k v σ' Hb, kvs[n]? = some (k, v) → P od n σ' Hb → RX X body { nx := UpS (P od (n + 1)), ct := UpS (P od (n + 1)), bk := fun _ _ => False, rt := fun _ _ => False } ((σ'.set i (some (kV k))).set j (some v)) Hb)
    (hf : ∀ od σ' Hb, P od kvs.length σ' Hb → RX X rest D σ' (upd Hb d (.dK kvs))) (hN : X.N.Nodup) (hi : X.N[i]? = some nx := by rfl) (hj : X.N[j]? = some ny := by rfl) (hlo : Loc X.env.scope nx := by first | exact Or.inl rfl | exact Or.inr rfl) (hlo2 : Loc X.env.scope ny := by first | exact Or.inl rfl | exact Or.inr rfl)
    (hf1 : X.fn nx = true ∨ X.env.scope.names.lookup nx = some .local := by first | exact .inl rfl | exact .inr rfl) (hf2 : X.fn ny = true ∨ X.env.scope.names.lookup ny = some .local := by first | exact .inl rfl | exact .inr rfl)
    (hbase : attributeBase e "items" X.env (eval e X.env) = eval e X.env := by rfl) (hline : (apos.endLine == cpos.line) = true := by rfl) :
    RX X (.For (.Tuple [.Name nx px, .Name ny py] kt pt) (.Call (.Attribute e "items" apos) [] [] cpos) body [] pos :: rest) D σ H :=
  rx_of (ps_lock (ps_for hp hc (pi_items pe_sem hbase hline) (pg_tup hc (pgs_cons (pg_name hN hi hlo hf1) (pgs_cons (pg_name hN hj hlo2 hf2) pgs_nil))) pss_sem)) fun H1 e1 => ⟨d, _, e1 _ _ hd, trivial, fun od => EV.ev (he od) _ (ex_upd e1) _ fun H2 e2 => ⟨d, od, kvs, rfl, e2 _ _ upd_same, by
    refine for_it (D := _) (walk_items (d := d) (o := od) (kvs := kvs)) (fun n => UpS (P od n)) ⟨_, (ex_upd e1).trans e2, h0 od⟩ (fun n σ' H' hn ⟨Hb, e, q⟩ => e _ _ (hk od n σ' Hb hn q)) ?_ ?_
    · intro n v σ' H' H'' hn ⟨Hb, e, q⟩ ⟨T, x, y, ev, hT, eh, fx, fy⟩
      subst ev eh
      obtain ⟨kv, hkv, rfl⟩ := Option.map_eq_some_iff.mp fx
      have fy : kvs[n]?.map Prod.snd = some y := fy
      rw [hkv] at fy
      obtain rfl := Option.some.inj fy
      refine ⟨T, _, rfl, .inl (.inl upd_same), rfl, _, _, rfl, _, _, rfl, rfl, ?_⟩
      exact semS_ends (hs od n kv.1 kv.2 σ' Hb hkv q _ (e.trans (Ex.new hT))) (fun _ _ z => z) (fun _ _ z => z.elim) (fun _ _ z => z.elim) fun _ _ z => z
    · intro σ' H' ⟨Hb, e, q⟩
      exact ⟨e _ _ (hk od _ σ' Hb (Nat.le_refl _) q), hf od σ' Hb q _ (ex_upd e)⟩⟩⟩
/-- for k in e: nothing leaves it -/
theorem rx_forD (i : Nat) {body : List Stmt} (hp : PassesOwn (model X.prog X.w) X.A X.env X.xe) (hc : X.calm = true) (hd : H d = some (.dK kvs)) (he : ∀ od, EV X e σ (upd H d (.frz od (.dK kvs))) (.ref d)) (P : Obj → Nat → L2.St → Hp → Prop)
    (h0 : ∀ od, P od 0 σ (upd H d (.frz od (.dK kvs)))) (hk : ∀ od n σ' Hb, n ≤ kvs.length → P od n σ' Hb → Hb d = some (.frz od (.dK kvs)))
    (hs : ∀ od n k v σ' Hb, kvs[n]? = some (k, v) → P od n σ' Hb → RX X body { nx := UpS (P od (n + 1)), ct := UpS (P od (n + 1)), bk := fun _ _ => False, rt := fun _ _ => False } (σ'.set i (some (kV k))) Hb)
    (hf : ∀ od σ' Hb, P od kvs.length σ' Hb → RX X rest D σ' (upd Hb d (.dK kvs))) (hN : X.N.Nodup) (hi : X.N[i]? = some nx := by rfl) (hlo : Loc X.env.scope nx := by first | exact Or.inl rfl | exact Or.inr rfl)
    (hf1 : X.fn nx = true ∨ X.env.scope.names.lookup nx = some .local := by first | exact .inl rfl | exact .inr rfl) (hfo : ∀ x, foldedSetIterable e X.env x = pure x := by intro _; rfl) :
    RX X (.For (.Name nx px) e body [] pos :: rest) D σ H :=
  rx_of (ps_lock (ps_for hp hc (pi_keys pe_sem) (pg_name hN hi hlo hf1) pss_sem hfo)) fun H1 e1 => ⟨d, _, e1 _ _ hd, trivial, fun od => EV.ev (he od) _ (ex_upd e1) _ fun H2 e2 => ⟨d, od, rfl, .inl ⟨kvs, e2 _ _ upd_same, by
    refine for_it (D := _) (walk_keys (d := d) (o := od) (kvs := kvs)) (fun n => UpS (P od n)) ⟨_, (ex_upd e1).trans e2, h0 od⟩ (fun n σ' H' hn ⟨Hb, e, q⟩ => e _ _ (hk od n σ' Hb hn q)) ?_ ?_
    · intro n v σ' H' H'' hn ⟨Hb, e, q⟩ ⟨eh, k, u, hkv, ex⟩
      subst eh ex
      exact semS_ends (hs od n k u σ' Hb hkv q _ e) (fun _ _ z => z) (fun _ _ z => z.elim) (fun _ _ z => z.elim) fun _ _ z => z
    · intro σ' H' ⟨Hb, e, q⟩
      exact ⟨e _ _ (hk od _ σ' Hb (Nat.le_refl _) q), hf od σ' Hb q _ (ex_upd e)⟩⟩⟩⟩
/-- [.. for k, v in e.items() if ..] -/
theorem en_lcIt {elt tst : Expr} {xn yn : Str} {scope : Scope} {own : List (Str × Nat)} {kt : Nat} (j1 j2 : Nat) (hc : X.calm = true) (hN : X.N.Nodup) (ok : BlkOk X.N X.env.scope scope own)
    (hd : H d = some (.dK kvs)) (he : ∀ od, EV X e σ (upd H d (.frz od (.dK kvs))) (.ref d)) (hz : kvs.length ≤ 100000)
    (hg : ∀ (s : Shared) (H : Hp) (C : Addr) (cl : List (Str × Addr)) (fp : List Addr), PG (X.blk s H scope (compEnvC scope cl C X.env) fp) (.Tuple [.Name xn px, .Name yn py] kt pt) (gTup X.K 2 (gCons (gName j1) (gCons (gName j2) gNil))))
    (hw : ∀ v v', wipe (((wipe σ (own.map (·.2))).set j1 (some v)).set j2 (some v')) (own.map (·.2)) = wipe σ (own.map (·.2)))
    (P : Nat → List V → Prop) (h0 : P 0 [])
    (hs : ∀ (n : Nat) k v acc Hb (s : Shared) (H' : Hp) (C : Addr) (cl : List (Str × Addr)) (fp : List Addr), kvs[n]? = some (k, v) → P n acc →
      TD (X.blk s H' scope (compEnvC scope cl C X.env) fp) tst (((wipe σ (own.map (·.2))).set j1 (some (kV k))).set j2 (some v)) Hb fun b H3 => if b = true then
        ∀ (s : Shared) (H' : Hp) (C : Addr) (cl : List (Str × Addr)) (fp : List Addr), EN (X.blk s H' scope (compEnvC scope cl C X.env) fp) elt (((wipe σ (own.map (·.2))).set j1 (some (kV k))).set j2 (some v)) H3 fun v H2 => P (n + 1) (acc ++ [v]) else P (n + 1) acc)
    (hbase : attributeBase e "items" X.env (eval e X.env) = eval e X.env := by rfl) (hline : (apos.endLine == cpos.line) = true := by rfl) :
    EN X (.ListComp elt [⟨.Tuple [.Name xn px, .Name yn py] kt pt, .Call (.Attribute e "items" apos) [] [] cpos, [tst], 0⟩] scope pos) σ H fun v H2 => ∃ D acc, v = .ref D ∧ H D = none ∧ H2 D = some (.lst acc) ∧ acc.length ≤ kvs.length ∧ P kvs.length acc :=
  EN.of (pe_lock (pe_lc hc hN (pi_items pe_sem hbase hline) ok hg (fun s H' C cl fp => pts_one (pt_blk s H' C cl fp)) (fun s H' C cl fp => pe_blk s H' C cl fp))) fun H1 e1 => ⟨d, _, e1 _ _ hd, trivial, fun od => EV.ev (he od) _ (ex_upd e1) _ fun H2 e2 => ⟨d, od, kvs, rfl, e2 _ _ upd_same, fun D hD => by
    refine lc_it (walk_items (d := d) (o := od) (kvs := kvs)) (LcW H2 D fun n acc _ => P n acc) ⟨[], Nat.le_refl _, hD, Ex.new hD, upd_same, h0⟩ (fun i H' _ p => let ⟨_, _, _, e, _, _⟩ := p; e _ _ (e2 _ _ upd_same)) ?_ ?_
    · intro i v H' H'' hi ⟨acc, q1, q2, q3, q4, q5⟩ ⟨T, x, y, ev, hT, eh, fx, fy⟩
      subst ev eh
      obtain ⟨kv, hkv, rfl⟩ := Option.map_eq_some_iff.mp fx
      have fy : kvs[i]?.map Prod.snd = some y := fy
      rw [hkv] at fy
      obtain rfl := Option.some.inj fy
      have nD : D ≠ T := ne_of_none q4 hT
      refine ⟨T, [_, kv.2], rfl, .inl (.inl upd_same), rfl, _, [kv.2], rfl, kv.2, [], rfl, rfl, hw _ _, fun s H'' C cl fp => semT_mono (hs i kv.1 kv.2 acc _ s H'' C cl fp hkv q5 _ (Ex.refl _)) fun b H3 ⟨e3, q6⟩ => ?_⟩
      cases b with
      | true =>
        rw [if_pos rfl] at q6 ⊢
        exact fun s H'' C cl fp => sem_mono (q6 s H'' C cl fp H3 (Ex.refl H3)) fun v H4 ⟨e4, q7⟩ =>
          LcW.push (fun _ _ _ _ _ z => z) q1 q2 (((q3.trans (Ex.new hT)).trans e3).trans e4) ((e3.trans e4) D _ (by rw [upd_ne nD]; exact q4)) (by omega) q7
      | false =>
        rw [if_neg Bool.false_ne_true] at q6 ⊢
        exact ⟨acc, Nat.le_succ_of_le q1, q2, (q3.trans (Ex.new hT)).trans e3, e3 D _ (by rw [upd_ne nD]; exact q4), q6⟩
    · intro H' ⟨acc, q1, q2, q3, q4, q5⟩
      have hfz : H' d = some (.frz od (.dK kvs)) := q3 _ _ (e2 _ _ upd_same)
      have nD : D ≠ d := fun z => by rw [z, e2 _ _ upd_same] at q2; cases q2
      refine ⟨hfz, fun a o h => ?_, D, acc, rfl, ?_, ?_, q1, q5⟩
      · by_cases z : a = d
        · subst z
          rw [upd_same]
          rw [e1 _ _ hd] at h
          exact h
        · rw [upd_ne z]
          exact q3 _ _ (e2 _ _ (by rw [upd_ne z]; exact h))
      · have : upd H1 d (.frz od (.dK kvs)) D = none := fresh_back e2 q2
        rw [upd_ne nD] at this
        exact fresh_back e1 this
      · rw [upd_ne nD]; exact q4⟩⟩
end
end Y
set_option Elab.async false
set_option linter.all false
set_option maxRecDepth 100000
set_option maxHeartbeats 4000000
namespace Y
open PySem PySem.Spec PyProof.Rows L2 Evl
section
variable {X : Cx} {σ : L2.St} {H H' : Hp} {v w x y z : V} {e a b c f o : Expr} {i j k : Nat} {n m : Int} {pos p1 p2 p3 q1 q2 q3 : Pos} {D : Ends} {l p r d : Addr} {xs ys : List V} {φ ψ : V → Hp → Prop} {nm : Str} {ns : List Int}
/-- tuple(a list that is told) -/
theorem en_tupleN {α : List V → Hp → Prop} (hg : Gl X "tuple") (hm : X.mg "tuple" = none) (ha : EN X a σ H (LP α)) (hst : starEach [a] X.env = (false, eval a X.env) :: starEach [] X.env := by rfl) :
    EN X (.Call (.Name "tuple" q1) [a] [] q2) σ H fun v H2 => ∃ q xs H3, v = .ref q ∧ H2 q = some (.tup xs) ∧ α xs H3 ∧ Ex H3 H2 :=
  EN.of (pe_callTy call_tuple_of hg hm (by decide +kernel) (pa_cons pe_sem pa_nil hst) (he := hst)) fun H1 e1 => sem_mono (ha H1 e1) fun v H2 ⟨e2, p, xs, ev, h, qa⟩ => ⟨p, xs, by rw [ev], .inl ⟨sq_of h, fun q hq => ⟨e2.trans (Ex.new hq), q, xs, H2, rfl, upd_same, qa, Ex.new hq⟩⟩⟩
/-- sorted(ints) -/
theorem en_sortedI (hg : Gl X "sorted") (hm : X.mg "sorted" = none) (ha : EN X a σ H fun v H2 => ∃ r, v = .ref r ∧ SqL X.K H2 r (ns.map V.int)) (hst : starEach [a] X.env = (false, eval a X.env) :: starEach [] X.env := by rfl) :
    EN X (.Call (.Name "sorted" q1) [a] [] q2) σ H (LP fun zs _ => ∃ ns' : List Int, zs = ns'.map V.int ∧ ns'.Perm ns ∧ ns'.Pairwise (· ≤ ·)) :=
  EN.of (pe_callB cr_sortedI hg hm (by decide +kernel) (pa_cons pe_sem pa_nil hst) (he := hst)) fun H1 e1 => sem_mono (ha H1 e1) fun v H2 ⟨e2, r, ev, h⟩ => by
    refine ⟨r, ns, by rw [ev], h, fun ns' p h1 h2 hp => ⟨e2.trans (Ex.new hp), p, ns'.map V.int, rfl, upd_same, ns', rfl, h1, h2⟩⟩
/-- sorted(ints, reverse=True) -/
theorem en_sortedRev {k0 : Nat} {kp : Pos} (hg : Gl X "sorted") (hm : X.mg "sorted" = none) (ha : EV X a σ H (.ref r)) (h : SqL X.K H r (ns.map V.int)) (hst : starEach [a] X.env = (false, eval a X.env) :: starEach [] X.env := by rfl)
    (he : backTo q2 (starEach [a] X.env) = (false, eval a X.env) :: backTo q2 (starEach [] X.env) := by rfl) (hpl : (backTo q2 (starEach [a] X.env)).any (·.1) = false := by rfl) :
    EN X (.Call (.Name "sorted" q1) [a] [⟨some "reverse", .Constant (.bool true) k0 q3, kp⟩] q2) σ H (LP fun zs _ => ∃ ns' : List Int, zs = ns'.map V.int ∧ ns'.Perm ns ∧ ns'.Pairwise (· ≥ ·)) :=
  EN.of (pe_callBK (cr_sortedRev (b := true)) hg hm (by decide +kernel) (pa_cons pe_sem pa_nil hst) (pk_cons pe_bl pk_nil) (he := he) (hpl := hpl)) fun H1 e1 => EV.ev ha H1 e1 _ fun H2 e2 => ⟨r, ns, rfl, rfl, ex_l (e1.trans e2) h, fun ns' p h1 h2 hp => ⟨e2.trans (Ex.new hp), p, ns'.map V.int, rfl, upd_same, ns', rfl, h1, h2⟩⟩
end
end Y
set_option Elab.async false
set_option linter.all false
set_option maxRecDepth 100000
set_option maxHeartbeats 4000000
namespace Y
open PySem PySem.Spec PyProof.Rows L2 Evl
section
variable {X : Cx} {σ : L2.St} {H H' : Hp} {i j k : Nat} {pos spos px py : Pos} {D : Ends} {rest : List Stmt} {r : Addr} {elt l tst : Expr} {xn y : Str} {scope : Scope} {own : List (Str × Nat)} {φ : List V → Hp → Prop}
/-- y = [.. for x in a tuple that is told] on one line -/
theorem rx_setTN (i j : Nat) (hc : X.calm = true) (hN : X.N.Nodup) (ok : BlkOk X.N X.env.scope scope own) (hl : EN X l σ H fun v H2 => ∃ r xs, v = .ref r ∧ H2 r = some (.tup xs) ∧ xs.length ≤ 100000 ∧ φ xs H2)
    (hg : ∀ (s : Shared) (H : Hp) (C : Addr) (cl : List (Str × Addr)) (fp : List Addr), PG (X.blk s H scope (compEnvC scope cl C X.env) fp) (.Name xn px) (gName j))
    (hw : ∀ v, wipe ((wipe σ (own.map (·.2))).set j (some v)) (own.map (·.2)) = wipe σ (own.map (·.2)))
    (P : List V → Nat → List V → Hp → Prop) (hP : ∀ xs n acc H1 H2, Tx H1 H2 → P xs n acc H1 → P xs n acc H2) (h0 : ∀ xs H2, φ xs H2 → P xs 0 [] H2)
    (hs : ∀ xs n x acc Hb (s : Shared) (H' : Hp) (C : Addr) (cl : List (Str × Addr)) (fp : List Addr), xs[n]? = some x → Ex H Hb → P xs n acc Hb → EN (X.blk s H' scope (compEnvC scope cl C X.env) fp) elt ((wipe σ (own.map (·.2))).set j (some x)) Hb fun v H2 => P xs (n + 1) (acc ++ [v]) H2)
    (k : ∀ (D' : Addr) (xs acc : List V) (H2 : Hp), Ex H H2 → H D' = none → H2 D' = some (.lst acc) → P xs xs.length acc H2 → RX X rest D (σ.set i (some (.ref D'))) H2)
    (hi : X.N[i]? = some y := by rfl) (hyl : X.env.scope.names.lookup y = some .local := by rfl) (hsw : swapsWith (.ListComp elt [⟨.Name xn px, l, [], 0⟩] scope pos) (some (.Name y py)) spos.line X.env = pure true := by rfl)
    (hfo : ∀ x, foldedSetIterable l X.env x = pure x := by intro _; rfl) :
    RX X (.Assign [.Name y py] (.ListComp elt [⟨.Name xn px, l, [], 0⟩] scope pos) spos :: rest) D σ H :=
  rx_of (ps_setLc hc hN hi hyl hsw (pi_tup pe_sem) ok hg (fun _ _ _ _ _ => pts_nil) (fun s H' C cl fp => pe_blk s H' C cl fp) hfo) fun H1 e1 => sem_mono (hl H1 e1) fun v H2 ⟨e2, r, xs, er, hr, hz, hφ⟩ => ⟨r, er, ⟨xs, st_of hr⟩, fun D hD =>
    lc_it (walk_tup (K := X.K) (a := r) (xs := xs)) (LcW H2 D (P xs)) ⟨[], Nat.le_refl _, hD, Ex.new hD, upd_same, hP _ _ _ _ _ (Ex.new hD).tx (h0 xs H2 hφ)⟩ (fun i H' _ p => let ⟨_, _, _, e, _, _⟩ := p; ex_t e (st_of hr))
      (fun i x H' H'' hi ⟨acc, q1, q2, q3, q4, q5⟩ ⟨eh, hx⟩ => by
        subst eh
        exact ⟨hw _, iteT (B := LcW H2 D (P xs) (i + 1) H'') fun s H3 C cl fp => sem_mono (hs xs i x acc _ s H3 C cl fp hx ((e1.trans e2).trans q3) q5 _ (Ex.refl _)) fun v H4 ⟨e4, q6⟩ => LcW.push (hP xs) q1 q2 (q3.trans e4) (e4 D _ q4) (by omega) q6⟩)
      (fun H' ⟨acc, q1, q2, q3, q4, q5⟩ => k D xs acc H' ((e1.trans e2).trans q3) (fresh_back (e1.trans e2) q2) q4 q5 H' (Ex.refl H'))⟩
end
end Y
set_option Elab.async false
set_option linter.all false
set_option maxRecDepth 100000
set_option maxHeartbeats 4000000
/-! a law's own def, entered where no repr runs; repr of data of any depth -/
namespace Y
open PySem PySem.Spec PyProof.Rows L2 Evl
section
variable {P : Program} {w : World} {K : PySem.W.Frag} {mg : Str → Option Value} {base : Heap} {k : Nat} {f : Addr} {fd : FuncData} {ps N : List Str} {sp : Sp} {x q nm : Str} {st : Stmt}
/-- a promise that is kept where no repr of a list, tuple or dict is under way -/
structure FnG (P : Program) (w : World) (K : PySem.W.Frag) (mg : Str → Option Value) (base : Heap) (k : Nat) (f : Addr) (fd : FuncData) (ps : List Str) (sp : Sp) : Prop where
  go : ∀ (A : Around) (fr : List Env) (t : Shared) (H : Hp) (ar : Args) (us : List Value) (vs : List V) (Q : VK) (E : XK), A.guards = some [] → Room k A → Env0 P w K mg base A fr t H → BindsTo t fd ar (ps.zip us) → Vals vs us → sp vs H Q E →
    codeAny (model P w) A (.call (.ref f) ar) (CR CX0 fr P w H t Q E) t
theorem fun_G (F : Fun K x q st f fd) (S : FnScope N ps (defScope st)) (len : ∀ vs H Q E, sp vs H Q E → vs.length = ps.length)
    (hbody : ∀ (X : Cx) (H : Hp) (vs : List V) (Q : VK) (E : XK), (∃ (f : Addr) (cdv : Value) (A : Around) (outer : List Env) (s : Shared), X = (cxOf CX0 P w K mg base N q (defScope st) f cdv A outer s H E).nox) → X.A.guards = some [] → Room k X.A → sp vs H Q E → RX X (defBody st) { nx := fun _ H' => Q .non H', rt := Q } (start N vs) H) : FnG P w K mg base (k + 1) f fd ps sp := by
  obtain ⟨oc, od, kV, doc, pm, an, cdv, ct, osl, rfl, lk, hcd⟩ := F.ex
  refine ⟨fun A fr t H ar us vs Q E hg hr e0 hb r hsp => ?_⟩
  have hl := len _ _ _ _ hsp
  have kin : K.In t.heap := e0.mod.kin.keeps fun b o e => (e0.bs b o e).1
  have nol : t.heap.NoLimit := e0.mod.nolimit.keeps fun b o e => (e0.bs b o e).1
  have kinds : ∀ y ∈ ps.zip us, (defScope st).names.lookup y.1 = some .local ∨ ((defScope st).names.lookup y.1 = some .cell ∧ ((cellsFrom (t.heap.objs.size + 1) (defScope st).names []).lookup y.1).isSome = true) := fun ⟨n, v⟩ hy =>
    (S.par n (List.of_mem_zip hy).1).imp id fun z => ⟨z, PySem.W.cellsFrom_some _ _ _ (.inl z)⟩
  refine codeAny_call_function hr.depth (kin _ _ lk) rfl S.co S.gen rfl (PySem.W.codeRec_of kin hcd) (hb _ _ _ _ ?_)
  refine wpAny_newFunctionEnv_cells S.kind kinds fun env he s1 z => ?_
  subst he
  refine ⟨nol.keeps z.toInCall.keep, codeAny_func ?_⟩
  have I0 := inv_start (CX := CX0) (E := E) S hr.hd e0 hl r z
  have B := hbody _ H vs Q E ⟨f, cdv, A, fr, t, rfl⟩ hg (hr.deeper _) hsp H (Ex.refl H)
  refine wpAny_mono ((PSs.nox pss_sem).run [] s1 (start N vs) H _ I0 B) (fun fl t' hs => ?_) fun _ _ hs => hs
  rcases fl with _ | _ | _ | u
  · obtain ⟨_, H', J, q⟩ := hs
    exact ⟨V.non, H', J.os, J.bare, J.base, J.hok, rfl, q⟩
  · obtain ⟨_, _, _, q⟩ := hs
    exact False.elim q
  · obtain ⟨_, _, _, q⟩ := hs
    exact False.elim q
  · obtain ⟨v, _, H', J, rv, q⟩ := hs
    exact ⟨v, H', J.os, J.bare, J.base, J.hok, rv, q⟩
end
end Y
set_option Elab.async false
set_option linter.all false
set_option maxRecDepth 100000
set_option maxHeartbeats 4000000
namespace Y
open PySem PySem.Spec PyProof.Rows L2 Evl
/-- from a heap in which nothing is known but, perhaps, the script -/
theorem enterG {P : Program} {w : World} {K : PySem.W.Frag} {g gb : Str → Option Value} {k : Nat} {fa a : Addr} {fd : FuncData} {x : Str} {sp : Sp} {t : Shared} {vs : List Value}
    (kin : K.In t.heap) (hg : t.heap.Ns mainGlobals g) (hb : t.heap.Ns builtinsNs gb) (hbb : ∀ x : Str, x ≠ "__name__" → gb x = bootBuiltins x) (nol : t.heap.NoLimit) (gens : t.gens = #[])
    (ha : t.heap.get? a = some { cls := .type "list", data := .seq vs.toArray }) (room : Room k callerA)
    (F : ∀ bs : Heap, K.In bs → bs.Ns mainGlobals g → FnG P w K g bs k fa fd [x] sp) (bind : ∀ (s : Shared) (u : Value), BindsTo s fd ⟨[u], []⟩ [(x, u)])
    (H : Hp) (only : Only H) (hsp : sp [.ref a] H (fun v _ => v = .bl true) fun _ _ _ => False) (ok : HOk P w H t.heap) (alone : ∀ b, H b ≠ none → b = a) (free : H a ≠ none → K.lookup a = none) :
    codeAny (model P w) callerA (.call (.ref fa) ⟨[.ref a], []⟩) (fun r t' => r = .ok (.ret (.bool true)) ∧ OldK t.heap t'.heap ∧ t'.os = t.os ∧ AllBare t'.gens) t := by
  -- a namespace is no list: it is not the script
  have off : ∀ {b : Addr} {o : Obj} {es : Array DictEntry} {ep : Nat}, t.heap.get? b = some o → o.data = .dict es ep → H b = none := by
    intro b o es ep e d
    rcases Classical.em (H b = none) with z | z
    · exact z
    · rw [alone b z, ha] at e
      cases e
      cases (show Data.seq vs.toArray _ = Data.dict es ep from d)
  have up : ∀ {b : Addr} {m : Str → Option Value}, t.heap.Ns b m → (hidT t.heap H).Ns b m := by
    rintro b m ⟨o, es, ep, e, d, r⟩
    exact ⟨o, es, ep, hidT_get e (off e d), d, r⟩
  have kb : K.In (hidT t.heap H) := by
    intro b o e
    refine hidT_get (kin b o e) ?_
    rcases Classical.em (H b = none) with z | z
    · exact z
    · have q := alone b z
      subst q
      rw [free z] at e; cases e
  obtain ⟨mc, l1, l2⟩ := id nol
  have md : Mod K g (hidT t.heap H) := ⟨kb, up hg, ⟨gb, up hb, hbb⟩, ⟨mc, up l1, l2⟩⟩
  have e0 : Env0 P w K g (hidT t.heap H) callerA [] t H := by
    refine ⟨rfl, md, fun _ _ e => of_hidT e, ?_, trivial, ?_, ok, .of_eq gens⟩
    · exact Nat.le_of_eq (hidT_size _ _)
    · intro b z
      cases (show b ∈ ([] : List Addr) from z)
  have R := (F _ kb (up hg)).go callerA [] t H ⟨[.ref a], []⟩ [.ref a] [.ref a] _ _ rfl room e0 (bind t (.ref a)) (.cons rfl .nil) hsp
  refine codeAny_mono R fun r t' h => ?_
  match r, h with
  | .error e, h => exact False.elim h
  | .ok .next, h => exact False.elim h
  | .ok .brk, h => exact False.elim h
  | .ok .cont, h => exact False.elim h
  | .ok (.ret u), h =>
    obtain ⟨v, H', os, bare, un, ok', rv, rfl⟩ := h
    cases (show u = Value.bool true from rv)
    refine ⟨rfl, OldK.of_keep fun b o e => ?_, os, bare⟩
    rcases z : H b with _ | u
    · refine un.keep b o e z (fun q => ?_) (fun q => nomatch q)
      cases (show b ∈ ([] : List Addr) from q)
    · rcases only b with q | ⟨o', xs, q⟩
      · rw [z] at q; cases q
      · obtain ⟨f1, _⟩ := ok b _ q
        obtain ⟨f2, _⟩ := ok' b _ (un.frzs b o' _ q)
        rw [e] at f1
        cases f1
        exact f2
theorem law_G {P : Program} {w : World} {K : PySem.W.Frag} {g gb : Str → Option Value} {k : Nat} {fa a : Addr} {fd : FuncData} {x : Str} {sp : Sp} {t : Shared} {vs : List Value} {ns : List Int}
    (kin : K.In t.heap) (hg : t.heap.Ns mainGlobals g) (hb : t.heap.Ns builtinsNs gb) (hbb : ∀ x : Str, x ≠ "__name__" → gb x = bootBuiltins x) (nol : t.heap.NoLimit) (gens : t.gens = #[])
    (ha : t.heap.get? a = some { cls := .type "list", data := .seq vs.toArray }) (hin : IntsAre vs ns) (hl : ns.length ≤ sizeLine) (room : Room k callerA)
    (F : ∀ bs : Heap, K.In bs → bs.Ns mainGlobals g → FnG P w K g bs k fa fd [x] sp) (bind : ∀ (s : Shared) (u : Value), BindsTo s fd ⟨[u], []⟩ [(x, u)])
    (hsp : ∀ H : Hp, Only H → SqL K H a (ns.map V.int) → sp [.ref a] H (fun v _ => v = .bl true) fun _ _ _ => False) :
    codeAny (model P w) callerA (.call (.ref fa) ⟨[.ref a], []⟩) (fun r t' => r = .ok (.ret (.bool true)) ∧ OldK t.heap t'.heap ∧ t'.os = t.os ∧ AllBare t'.gens) t := by
  have rv := vals_ints hin
  have len := hin.length
  cases hk : K.lookup a with
  | some o =>
    have e := kin a o hk
    rw [ha] at e
    cases e
    have o0 : Only fun _ => none := fun _ => .inl rfl
    refine enterG kin hg hb hbb nol gens ha room F bind (fun _ => none) o0 (hsp _ o0 (.inr ⟨_, vs.toArray, _, hk, rfl, rfl, rfl, ?_, by simpa using rv⟩)) (fun b u z => nomatch z) (fun b z => absurd rfl z) fun z => absurd rfl z
    rw [List.size_toArray, len]; exact hl
  | none =>
    have here : ∀ b, (upd (fun _ => none) a (.frz { cls := .type "list", data := .seq vs.toArray } (.lst (ns.map V.int)))) b ≠ none → b = a := fun b z => by
      rcases Classical.em (b = a) with q | q
      · exact q
      · exact absurd (upd_ne q) z
    have o1 : Only (upd (fun _ => none) a (.frz { cls := .type "list", data := .seq vs.toArray } (.lst (ns.map V.int)))) := fun b => by
      rcases Classical.em (b = a) with q | q
      · subst q; exact .inr ⟨_, _, upd_same⟩
      · exact .inl (upd_ne q)
    refine enterG kin hg hb hbb nol gens ha room F bind _ o1 (hsp _ o1 (.inl (.inr ⟨_, upd_same⟩))) (fun b u z => ?_) here fun _ => hk
    have q := here b (by rw [z]; exact nofun)
    subst q
    rw [upd_same] at z
    cases z
    exact ⟨ha, by rw [List.length_map]; exact hl, vs, _, rv, ha⟩
/-- what the head leaves, from a promise that is kept at the entry -/
theorem walk_G {l : PySem.W.OpenLaw} {n k : Nat} {q : Program} {loose : List Str} {XP : (Str → Option Value) → Heap → Prop} {YP : World → Heap → Prop} {d : DefRec} {K : Params → PySem.W.Frag} {sp : World → Sp} {x : Str}
    (most : l.most = some n) (n2 : n ≤ sizeLine) (nodf : d.params.defaults = []) (room : Room k callerA) (hY : ∀ (w : World) (h : Heap), YP w h → (K w.params).In h)
    (F : ∀ (w : World) (g : Str → Option Value) (fa : Addr) (h : Heap), (K w.params).In h → h.Ns mainGlobals g → g d.name = some (.ref fa) →
      ∃ fd : FuncData, (∀ (s : Shared) (u : Value), BindsTo s fd ⟨[u], []⟩ [(x, u)]) ∧ ∀ bs : Heap, (K w.params).In bs → bs.Ns mainGlobals g → FnG l.prog w (K w.params) g bs k fa fd [x] (sp w))
    (hsp : ∀ (w : World) (H : Hp) (a : Addr) (ns : List Int), ns.length ≤ n → Only H → SqL (K w.params) H a (ns.map V.int) → sp w [.ref a] H (fun v _ => v = .bl true) fun _ _ _ => False) :
    PySem.W.WalkO q loose XP YP l.row.toRowW d [] (fun f vs => PySem.call f vs) := by
  refine Att.attach_call most nodf fun w _ t g _ fa _ _ _ _ a vs ns G Y _ _ _ hmg hobj hints hlen gens => ?_
  obtain ⟨fd, bind, B⟩ := F w g fa _ (hY w _ Y) G.T.g hmg
  exact law_G (hY w _ Y) G.T.g G.T.b G.T.builtins G.T.nolimit gens hobj hints (Nat.le_trans hlen n2) room B bind fun H o1 o2 => hsp w H a ns hlen o1 o2
end Y
set_option Elab.async false
set_option linter.all false
set_option maxRecDepth 100000
set_option maxHeartbeats 4000000
namespace Y
open PySem PySem.Spec PyProof.Rows L2 Evl
section
variable {X : Cx} {σ : L2.St} {H H' : Hp} {v w x y z : V} {e a b c f o : Expr} {i j k : Nat} {n m : Int} {pos p1 p2 p3 q1 q2 q3 : Pos} {D : Ends} {l p r d : Addr} {xs ys : List V} {φ ψ : V → Hp → Prop} {nm : Str} {ns : List Int}
/-! ### repr of data -/
theorem cr_reprD (hg : X.A.guards = some []) (hu : X.A.units + 64 < cLine) : CallR X (.builtin "repr") fun xs H Q => ∃ a d, xs = [.ref a] ∧ Dp X.K H (.ref a) d ∧ d.showable = true ∧ d.hasDict = false ∧ d.depth ≤ 60 ∧ d.shown.length ≤ sizeLine ∧ Q (.str d.shown) H := by
  intro pins s σ H xs us Q I r h
  obtain ⟨a, d, rfl, hd, h1, h2, h3, h4, q⟩ := h
  rw [Vals.ref1 r]
  obtain ⟨as, hr⟩ := Dp.reads I d (.ref a) (.ref a) hd rfl
  refine repr_of_reads' hr h1 (fun z => by rw [h2] at z; cases z) hg (by omega) (fun _ _ e => e) (fun h' u tk hk => ?_) h4
  exact ⟨.str _, H, I.kept hk, ⟨_, rfl⟩, q⟩
mutual
theorem Dp.ex {K : PySem.W.Frag} (e : Ex H H') : ∀ (d : PyData) (v : V), Dp K H v d → Dp K H' v d
  | .none, _, h => by cases h; exact .non
  | .bool b, _, h => by cases h; exact .bl b
  | .int i, _, h => by cases h; exact .int i
  | .str x, _, h => by cases h; exact .str x
  | .list ds, _, h => by
    cases h with
    | lst hs ha => exact .lst (ex_l e hs) (DpAll.ex e ds _ ha)
  | .tuple ds, _, h => by
    cases h with
    | tup hs ha => exact .tup (ex_t e hs) (DpAll.ex e ds _ ha)
  | .dict _, _, h => by cases h
theorem DpAll.ex {K : PySem.W.Frag} (e : Ex H H') : ∀ (ds : List PyData) (vs : List V), DpAll K H vs ds → DpAll K H' vs ds
  | [], _, h => by cases h; exact .nil
  | d :: ds, _, h => by
    cases h with
    | cons h1 h2 => exact .cons (Dp.ex e d _ h1) (DpAll.ex e ds _ h2)
end
theorem ev_reprD {d : PyData} (hgu : X.A.guards = some []) (hu : X.A.units + 64 < cLine) (hg : Gl X "repr") (hm : X.mg "repr" = none) (ha : EV X a σ H (.ref p)) (hd : Dp X.K H (.ref p) d) (h1 : d.showable = true) (h2 : d.hasDict = false) (h3 : d.depth ≤ 60) (h4 : d.shown.length ≤ sizeLine)
    (hst : starEach [a] X.env = (false, eval a X.env) :: starEach [] X.env := by rfl) : EV X (.Call (.Name "repr" q1) [a] [] q2) σ H (.str d.shown) :=
  EV.of (pe_callB (cr_reprD hgu hu) hg hm (by decide +kernel) (pa_cons pe_sem pa_nil hst) (he := hst)) (ev_cb (ea_cons (EV.ev ha) ea_nil) fun H1 e1 Q q => ⟨p, d, rfl, Dp.ex e1 d _ hd, h1, h2, h3, h4, q H1 (Ex.refl H1)⟩)
/-- data != data -/
theorem tn_neD {d d' : PyData} (hu : X.A.units + 64 < cLine) (ha : EV X a σ H v) (hd : Dp X.K H v d) (hb : EN X b σ H fun v' H2 => Dp X.K H2 v' d') (s1 : SeqAt.shaped d = true) (s2 : SeqAt.shaped d' = true) (hm : behindInMarks .NotEq b = false := by rfl) : TN X (.Compare a [.NotEq] [b] pos) σ H (!PyData.eqv d d') :=
  ⟨fun H1 e1 => semT_of (pt_cmpR (op_neD hu) pe_sem pe_sem hm) (EV.ev ha H1 e1 _ fun H2 e2 => sem_mono (hb H2 (e1.trans e2)) fun v' H3 ⟨e3, hd'⟩ => ⟨d, d', Dp.ex ((e1.trans e2).trans e3) d _ hd, hd', s1, s2, _, rfl, e2.trans e3, rfl⟩)⟩
end
/-! ### numbers, and pairs of them -/
abbrev dI (xs : List Int) : PyData := .tuple (xs.map PyData.int)
abbrev dPr (q : Int × Int) : PyData := .tuple [.int q.1, .int q.2]
abbrev dP (ps : List (Int × Int)) : PyData := .tuple (ps.map dPr)
section
variable {K : PySem.W.Frag} {H : Hp}
theorem dp_nums : ∀ (xs : List Int), DpAll K H (xs.map V.int) (xs.map PyData.int)
  | [] => .nil
  | x :: r => .cons (.int x) (dp_nums r)
theorem dp_I {a : Addr} {xs : List Int} (h : H a = some (.tup (xs.map V.int))) : Dp K H (.ref a) (dI xs) := .tup (st_of h) (dp_nums xs)
def IntOk (i : Int) : Prop := i.natAbs < 10 ^ 41
theorem IntOk.show {i : Int} (h : IntOk i) : PyData.showable (.int i) = true := by
  show decide (i.natAbs.log2 < 1920) = true
  have h : i.natAbs < 10 ^ 41 := h
  refine decide_eq_true ?_
  by_cases z : i.natAbs = 0
  · rw [z]; decide
  · exact (Nat.log2_lt z).mpr (Nat.lt_of_lt_of_le h (Nat.le_trans (show 10 ^ 41 ≤ 2 ^ 200 by decide) (Nat.pow_le_pow_right (by decide) (by decide))))
theorem IntOk.len {i : Int} (h : IntOk i) : (PyData.shown (.int i)).length ≤ 42 := by
  have h : i.natAbs < 10 ^ 41 := h
  have e := int_text_length_le10 (k := 41) (by decide) h
  show (Str.ofString (toString i)).length ≤ 42
  rw [PySem.ofString_length]; exact e
theorem sum_le {α : Type} {f : α → Nat} {B : Nat} : ∀ {l : List α}, (∀ x ∈ l, f x ≤ B) → (l.map f).sum ≤ B * l.length
  | [], _ => by simp
  | x :: r, h => by
    have h1 := h x List.mem_cons_self
    have h2 := sum_le (l := r) fun y hy => h y (List.mem_cons_of_mem _ hy)
    rw [List.map_cons, List.sum_cons, List.length_cons, Nat.mul_add, Nat.mul_one]; omega
theorem shownAll_map (ds : List PyData) : PyData.shownAll ds = ds.map PyData.shown := by
  induction ds with
  | nil => rfl
  | cons d r ih => rw [PyData.shownAll, ih]; rfl
theorem showableAll_map (ds : List PyData) : PyData.showableAll ds = ds.all PyData.showable := by
  induction ds with
  | nil => rfl
  | cons d r ih => rw [PyData.showableAll, ih]; rfl
theorem hasDictAll_map (ds : List PyData) : PyData.hasDictAll ds = ds.any PyData.hasDict := by
  induction ds with
  | nil => rfl
  | cons d r ih => rw [PyData.hasDictAll, ih]; rfl
theorem depthAll_le {B : Nat} : ∀ (ds : List PyData), (∀ d ∈ ds, d.depth ≤ B) → PyData.depthAll ds ≤ B
  | [], _ => Nat.zero_le _
  | d :: r, h => by
    have h1 := h d List.mem_cons_self
    have h2 := depthAll_le r fun y hy => h y (List.mem_cons_of_mem _ hy)
    rw [PyData.depthAll]; omega
theorem canLayAll_map (ds : List PyData) : PyData.canLayAll0 ds = ds.all PyData.canLay0 := by
  induction ds with
  | nil => rfl
  | cons d r ih => rw [PyData.canLayAll0, ih]; rfl
/-- data that can be shown, in at most so many signs -/
structure Sh (d : PyData) (dep len : Nat) : Prop where
  s : d.showable = true
  h : d.hasDict = false
  dp : d.depth ≤ dep
  l : d.shown.length ≤ len
  c : d.canLay0 = true
theorem Sh.int {i : Int} (h : IntOk i) : Sh (.int i) 0 42 := ⟨h.show, rfl, Nat.le_refl _, h.len, rfl⟩
theorem Sh.tup {ds : List PyData} {dep len n : Nat} (h : ∀ d ∈ ds, Sh d dep len) (hn : ds.length ≤ n) : Sh (.tuple ds) (dep + 1) ((len + 2) * n + 3) := by
  refine ⟨?_, ?_, ?_, ?_, ?_⟩
  · show PyData.showableAll ds = true
    rw [showableAll_map, List.all_eq_true]
    exact fun d hd => (h d hd).s
  · show PyData.hasDictAll ds = false
    rw [hasDictAll_map, List.any_eq_false]
    exact fun d hd => by rw [(h d hd).h]; decide
  · show PyData.depthAll ds + 1 ≤ _
    exact Nat.succ_le_succ (depthAll_le ds fun d hd => (h d hd).dp)
  · show (tupleText (PyData.shownAll ds)).length ≤ _
    have h1 := tupleText_len_le (PyData.shownAll ds)
    rw [shownAll_map, List.map_map, List.length_map] at h1
    have h2 := sum_le (f := fun d => (PyData.shown d).length) (l := ds) fun d hd => (h d hd).l
    rw [shownAll_map]
    have h3 : (ds.map ((fun s : Str => s.length) ∘ PyData.shown)).sum = (ds.map fun d => (PyData.shown d).length).sum := rfl
    have h4 : (len + 2) * ds.length ≤ (len + 2) * n := Nat.mul_le_mul_left _ hn
    have h5 : (len + 2) * ds.length = len * ds.length + 2 * ds.length := Nat.add_mul _ _ _
    omega
  · show PyData.canLayAll0 ds = true
    rw [canLayAll_map, List.all_eq_true]
    exact fun d hd => (h d hd).c
theorem Sh.mono {d : PyData} {a b a' b' : Nat} (h : Sh d a b) (ha : a ≤ a') (hb : b ≤ b') : Sh d a' b' := ⟨h.s, h.h, Nat.le_trans h.dp ha, Nat.le_trans h.l hb, h.c⟩
theorem Sh.I {xs : List Int} (h : ∀ x ∈ xs, IntOk x) (hl : xs.length ≤ 1000) : Sh (dI xs) 1 50000 := by
  refine (Sh.tup (len := 42) (dep := 0) (n := 1000) (fun d hd => ?_) (by rw [List.length_map]; exact hl)).mono (Nat.le_refl _) (by decide)
  obtain ⟨x, hx, rfl⟩ := List.mem_map.mp hd
  exact Sh.int (h x hx)
theorem Sh.P {ps : List (Int × Int)} (h : ∀ q ∈ ps, IntOk q.1 ∧ IntOk q.2) (hl : ps.length ≤ 1000) : Sh (dP ps) 2 100000 := by
  refine (Sh.tup (len := 91) (dep := 1) (n := 1000) (fun d hd => ?_) (by rw [List.length_map]; exact hl)).mono (Nat.le_refl _) (by decide)
  obtain ⟨q, hq, rfl⟩ := List.mem_map.mp hd
  refine (Sh.tup (ds := [.int q.1, .int q.2]) (len := 42) (dep := 0) (n := 2) (fun d hd => ?_) (Nat.le_refl 2)).mono (Nat.le_refl _) (by decide)
  rcases List.mem_cons.mp hd with rfl | hd
  · exact Sh.int (h q hq).1
  · rcases List.mem_cons.mp hd with rfl | hd
    · exact Sh.int (h q hq).2
    · exact nomatch hd
theorem Sh.shaped {d : PyData} {a b : Nat} (h : Sh d a b) (ha : a ≤ 64) : SeqAt.shaped d = true := by
  unfold SeqAt.shaped
  rw [h.c, decide_eq_true (Nat.le_trans h.dp ha)]; rfl
end
theorem eqvAll_of {ds : List PyData} (h : ∀ d ∈ ds, PyData.eqv d d = true) : PyData.eqvAll ds ds = true := by
  induction ds with
  | nil => rfl
  | cons d r ih =>
    rw [PyData.eqvAll, h d List.mem_cons_self, ih fun y hy => h y (List.mem_cons_of_mem _ hy)]; rfl
theorem eqv_I (xs : List Int) : PyData.eqv (dI xs) (dI xs) = true := eqvAll_of fun d hd => by
  obtain ⟨x, _, rfl⟩ := List.mem_map.mp hd
  show (x == x) = true
  exact beq_self_eq_true x
theorem eqv_P (ps : List (Int × Int)) : PyData.eqv (dP ps) (dP ps) = true := eqvAll_of fun d hd => by
  obtain ⟨q, _, rfl⟩ := List.mem_map.mp hd
  show PyData.eqv (dI [q.1, q.2]) (dI [q.1, q.2]) = true
  exact eqv_I _
end Y
set_option Elab.async false
set_option linter.all false
set_option maxRecDepth 100000
set_option maxHeartbeats 4000000
/-! calls by keyword in any order -/
namespace Y
open PySem PySem.Spec PyProof.Rows L2 Evl
/-- the items at some places -/
def at_ {α : Type} (ix : List Nat) (l : List α) : List α := ix.filterMap fun i => l[i]?
theorem Vals.at_ {zs : List V} {ws : List Value} (h : Vals zs ws) : ∀ ix : List Nat, Vals (Y.at_ ix zs) (Y.at_ ix ws)
  | [] => .nil
  | i :: r => by
    have ih := Vals.at_ h r
    cases e : zs[i]? with
    | none =>
      have e' := Vals.none_of h e
      show Vals (List.filterMap _ (i :: r)) (List.filterMap _ (i :: r))
      rw [List.filterMap_cons, List.filterMap_cons, e, e']
      exact ih
    | some z =>
      obtain ⟨u, e', rz⟩ := Vals.get h e
      show Vals (List.filterMap _ (i :: r)) (List.filterMap _ (i :: r))
      rw [List.filterMap_cons, List.filterMap_cons, e, e']
      exact .cons rz ih
section
variable {P : Program} {w : World} {K : PySem.W.Frag} {mg : Str → Option Value} {base : Heap} {nm : Str} {ps qs : List Str} {ix : List Nat} {lv : Nat} {sp : Sp} {st : Stmt}
structure OwnK (P : Program) (w : World) (K : PySem.W.Frag) (mg : Str → Option Value) (base : Heap) (nm : Str) (ps qs : List Str) (ix : List Nat) (lv : Nat) (sp : Sp) : Prop where
  ex : ∃ g fd, FnOk P w K mg base CX0 lv g fd ps sp ∧ PySem.W.keepIn K (.ref g) = true ∧ (∀ (s : Shared) (ws : List Value), ws.length = qs.length → BindsTo s fd ⟨[], qs.zip ws⟩ (ps.zip (at_ ix ws))) ∧ mg nm = some (.ref g)
theorem Def.both (D : Def K mg nm st) (ok : ∀ f fd, Fun K nm nm st f fd → FnOk P w K mg base CX0 lv f fd ps sp)
    (hb : ∀ (kV doc pm : Value) (an : Option Addr) (cdv ct : Value) (us : List Value), us.length = ps.length → bindArgs (PySem.W.fnOf nm nm (defArgs st) (defBody st) (defScope st) .none kV doc pm an cdv ct) ⟨us, []⟩ = pure (ps.zip us))
    (hbK : ∀ (kV doc pm : Value) (an : Option Addr) (cdv ct : Value) (us : List Value), us.length = qs.length → bindArgs (PySem.W.fnOf nm nm (defArgs st) (defBody st) (defScope st) .none kV doc pm an cdv ct) ⟨[], qs.zip us⟩ = pure (ps.zip (at_ ix us))) :
    Own P w K mg base nm ps lv sp ∧ OwnK P w K mg base nm ps qs ix lv sp := by
  obtain ⟨f, fd, F, m⟩ := D.ex
  have h1 := ok f fd F
  refine ⟨⟨f, fd, h1, F.kp, F.binds hb, m⟩, ⟨f, fd, h1, F.kp, ?_, m⟩⟩
  obtain ⟨oc, od, kV, doc, pm, an, cdv, ct, osl, rfl, lk, hcd⟩ := F.ex
  exact fun s ws hl => .of_eq (hbK kV doc pm an cdv ct ws hl)
end
section
variable {X : Cx} {σ : L2.St} {H : Hp} {q1 q2 : Pos} {φ : V → Hp → Prop} {nm : Str} {ps qs : List Str} {ix : List Nat} {lv : Nat} {sp : Sp} {kws : List Keyword} {zs : List V}
theorem en_ownK (O : OwnK X.prog X.w X.K X.mg X.base nm ps qs ix lv sp) (hr : Room lv X.A) (hg : Gl X nm) (ha : KV X kws σ H zs) (hz : zs.length = qs.length) (h : ∀ H1, Ex H H1 → ∀ Q : VK, (∀ v H2, Ex H1 H2 → φ v H2 → Q v H2) → sp (at_ ix zs) H1 Q (fun _ _ _ => False))
    (hall : (backToKw q2 (keywordEach kws X.env)).all (·.1.isSome) = true := by rfl) (hks : (backToKw q2 (keywordEach kws X.env)).filterMap (·.1) = qs := by rfl) (hdb : (nm == ("__debug__" : Str)) = false := by decide)
    (hpl : ((backTo q2 (starEach [] X.env)).any (·.1) || (backToKw q2 (keywordEach kws X.env)).any (·.1.isNone)) = false := by rfl) :
    EN X (.Call (.Name nm q1) [] kws q2) σ H φ := by
  obtain ⟨g, fd, F, hk, hb, hm⟩ := O.ex
  refine ⟨fun H1 e1 pins s I => wpAny_Call_Name_kw (ld_glob I hg hm (PySem.W.callWith_KW0 (h₀ := X.base) I.ok.mod.kin hk hall ?_ hpl) hdb)⟩
  refine thn (ha.run H1 e1 q2 pins s I) fun ws s2 ⟨zs', H2, I2, rz, e2, ez⟩ => ⟨I2.kIn, ?_⟩
  cases ez
  rw [hks]
  have hsp := h H2 (e1.trans e2) (fun v H3 => Ex H1 H3 ∧ φ v H3) (fun v H3 e3 q => ⟨e2.trans e3, q⟩)
  have hl : ws.length = qs.length := by rw [← rz.length]; exact hz
  refine wpAny_call (codeAny_mono (F.run X.A X.stack s2 H2 ⟨[], qs.zip ws⟩ (at_ ix ws) (at_ ix zs) _ _ hr I2.env0 (hb s2 ws hl) (Vals.at_ rz ix) hsp) fun r s' hq => ?_)
  match r, hq with
  | .error e, hq => exact False.elim (by obtain ⟨_, _, _, _, _, _, _, _, h⟩ := hq)
  | .ok (.ret u), hq => exact I2.after hq
  | .ok .next, hq => exact False.elim hq
  | .ok .brk, hq => exact False.elim hq
  | .ok .cont, hq => exact False.elim hq
end
end Y
set_option Elab.async false
set_option linter.all false
set_option maxRecDepth 100000
set_option maxHeartbeats 4000000
namespace Y
open PySem PySem.Spec PyProof.Rows L2 Evl
section
variable {X : Cx} {σ : L2.St} {H H' : Hp} {e : Expr} {pos pos' apos cpos px py pt p1 p2 spos : Pos} {D : Ends} {rest : List Stmt} {d : Addr} {kvs : List (Key × V)} {y : Str}
/-- y = [.. for k, v in e.items() if ..] on one line -/
theorem rx_setIt {elt tst : Expr} {xn yn : Str} {scope : Scope} {own : List (Str × Nat)} {kt : Nat} (i j1 j2 : Nat) (hc : X.calm = true) (hN : X.N.Nodup) (ok : BlkOk X.N X.env.scope scope own)
    (hd : H d = some (.dK kvs)) (he : ∀ od, EV X e σ (upd H d (.frz od (.dK kvs))) (.ref d)) (hz : kvs.length ≤ 100000)
    (hg : ∀ (s : Shared) (H : Hp) (C : Addr) (cl : List (Str × Addr)) (fp : List Addr), PG (X.blk s H scope (compEnvC scope cl C X.env) fp) (.Tuple [.Name xn px, .Name yn py] kt pt) (gTup X.K 2 (gCons (gName j1) (gCons (gName j2) gNil))))
    (hw : ∀ v v', wipe (((wipe σ (own.map (·.2))).set j1 (some v)).set j2 (some v')) (own.map (·.2)) = wipe σ (own.map (·.2)))
    (P : Nat → List V → Prop) (h0 : P 0 [])
    (hs : ∀ (od : Obj) (n : Nat) k v acc Hb (s : Shared) (H' : Hp) (C : Addr) (cl : List (Str × Addr)) (fp : List Addr), kvs[n]? = some (k, v) → Ex (upd H d (.frz od (.dK kvs))) Hb → P n acc →
      TD (X.blk s H' scope (compEnvC scope cl C X.env) fp) tst (((wipe σ (own.map (·.2))).set j1 (some (kV k))).set j2 (some v)) Hb fun b H3 => if b = true then
        ∀ (s : Shared) (H' : Hp) (C : Addr) (cl : List (Str × Addr)) (fp : List Addr), EN (X.blk s H' scope (compEnvC scope cl C X.env) fp) elt (((wipe σ (own.map (·.2))).set j1 (some (kV k))).set j2 (some v)) H3 fun v H2 => P (n + 1) (acc ++ [v]) else P (n + 1) acc)
    (k : ∀ (D' : Addr) (acc : List V) (H2 : Hp), Ex H H2 → H D' = none → H2 D' = some (.lst acc) → acc.length ≤ kvs.length → P kvs.length acc → RX X rest D (σ.set i (some (.ref D'))) H2)
    (hbase : attributeBase e "items" X.env (eval e X.env) = eval e X.env := by rfl) (hline : (apos.endLine == cpos.line) = true := by rfl)
    (hi : X.N[i]? = some y := by rfl) (hyl : X.env.scope.names.lookup y = some .local := by rfl)
    (hsw : swapsWith (.ListComp elt [⟨.Tuple [.Name xn px, .Name yn py] kt pt, .Call (.Attribute e "items" apos) [] [] cpos, [tst], 0⟩] scope pos) (some (.Name y p1)) spos.line X.env = pure true := by rfl) :
    RX X (.Assign [.Name y p1] (.ListComp elt [⟨.Tuple [.Name xn px, .Name yn py] kt pt, .Call (.Attribute e "items" apos) [] [] cpos, [tst], 0⟩] scope pos) spos :: rest) D σ H :=
  rx_of (ps_lock (ps_setLc hc hN hi hyl hsw (pi_items pe_sem hbase hline) ok hg (fun s H' C cl fp => pts_one (pt_blk s H' C cl fp)) (fun s H' C cl fp => pe_blk s H' C cl fp))) fun H1 e1 => ⟨d, _, e1 _ _ hd, trivial, fun od => EV.ev (he od) _ (ex_upd e1) _ fun H2 e2 => ⟨d, od, kvs, rfl, e2 _ _ upd_same, fun D' hD => by
    have e12 : Ex (upd H d (.frz od (.dK kvs))) H2 := (ex_upd e1).trans e2
    refine lc_it (walk_items (d := d) (o := od) (kvs := kvs)) (LcW H2 D' fun n acc _ => P n acc) ⟨[], Nat.le_refl _, hD, Ex.new hD, upd_same, h0⟩ (fun i H' _ p => let ⟨_, _, _, e, _, _⟩ := p; e _ _ (e2 _ _ upd_same)) ?_ ?_
    · rintro n v H' H'' hn ⟨acc, q1, q2, q3, q4, q5⟩ ⟨T, x, y, ev, hT, eh, fx, fy⟩
      cases ev
      cases eh
      obtain ⟨kv, hkv, rfl⟩ := Option.map_eq_some_iff.mp fx
      have fy : kvs[n]?.map Prod.snd = some y := fy
      rw [hkv] at fy
      cases Option.some.inj fy
      have nD : D' ≠ T := ne_of_none q4 hT
      refine ⟨T, [_, kv.2], rfl, .inl (.inl upd_same), rfl, _, [kv.2], rfl, kv.2, [], rfl, rfl, hw _ _, fun s H'' C cl fp => semT_mono (hs od n kv.1 kv.2 acc _ s H'' C cl fp hkv (e12.trans (q3.trans (Ex.new hT))) q5 _ (Ex.refl _)) fun b H3 ⟨e3, q6⟩ => ?_⟩
      cases b with
      | true =>
        rw [if_pos rfl] at q6 ⊢
        exact fun s H'' C cl fp => sem_mono (q6 s H'' C cl fp H3 (Ex.refl H3)) fun v H4 ⟨e4, q7⟩ =>
          LcW.push (fun _ _ _ _ _ z => z) q1 q2 (((q3.trans (Ex.new hT)).trans e3).trans e4) ((e3.trans e4) D' _ (by rw [upd_ne nD]; exact q4)) (by omega) q7
      | false =>
        rw [if_neg Bool.false_ne_true] at q6 ⊢
        exact ⟨acc, Nat.le_succ_of_le q1, q2, (q3.trans (Ex.new hT)).trans e3, e3 D' _ (by rw [upd_ne nD]; exact q4), q6⟩
    · rintro H' ⟨acc, q1, q2, q3, q4, q5⟩
      have hfz : H' d = some (.frz od (.dK kvs)) := q3 _ _ (e2 _ _ upd_same)
      have nD : D' ≠ d := fun z => by rw [z, e2 _ _ upd_same] at q2; cases q2
      refine ⟨hfz, k D' acc _ (fun a o h => ?_) ?_ ?_ q1 q5 _ (Ex.refl _)⟩
      · by_cases z : a = d
        · subst z
          rw [upd_same]
          rw [hd] at h
          exact h
        · rw [upd_ne z]
          exact q3 _ _ (e2 _ _ (by rw [upd_ne z]; exact e1 _ _ h))
      · have : upd H1 d (.frz od (.dK kvs)) D' = none := fresh_back e2 q2
        rw [upd_ne nD] at this
        exact fresh_back e1 this
      · rw [upd_ne nD]; exact q4⟩⟩
end
end Y
set_option Elab.async false
set_option linter.all false
set_option maxRecDepth 100000
set_option maxHeartbeats 4000000
namespace Y
open PySem PySem.Spec PyProof.Rows L2 Evl
section
variable {X : Cx} {σ : L2.St} {H H' : Hp} {v w x y z : V} {e a b c f o : Expr} {i j k : Nat} {n m : Int} {pos pos' apos cpos p1 p2 p3 q1 q2 q3 px py pt spos : Pos} {D : Ends} {rest : List Stmt} {l p r d : Addr} {xs ys : List V} {φ ψ : V → Hp → Prop} {nm : Str} {ns : List Int} {kvs : List (Key × V)} {ky : Key}
theorem en_revLP {α β : List V → Hp → Prop} {k0 : Nat} (h : EN X e σ H (LP α)) (k : ∀ xs H2 H3, Ex H H2 → α xs H2 → Ex H2 H3 → β xs.reverse H3) : EN X (.Subscript e (.Slice none none (some (.UnaryOp .USub (.Constant (.int 1) k0 p1) p2)) p3) pos) σ H (LP β) :=
  EN.of (pe_revL pe_sem) fun H1 e1 => sem_mono (h H1 e1) fun v H2 ⟨e2, r, xs, er, hr, q⟩ => ⟨r, xs, er, sq_of hr, fun q0 hq => ⟨e2.trans (Ex.new hq), q0, _, rfl, upd_same, k xs H2 _ (e1.trans e2) q (Ex.new hq)⟩⟩
/-- a tuple of which α is true -/
def TP (α : List V → Hp → Prop) : V → Hp → Prop := fun v H => ∃ p xs, v = .ref p ∧ H p = some (.tup xs) ∧ α xs H
theorem en_catT {α β γ : List V → Hp → Prop} (ha : EN X a σ H (TP α)) (hb : ∀ H2, Ex H H2 → EN X b σ H2 (TP β))
    (k : ∀ xs ys H2 H3, Ex H H2 → α xs H2 → Ex H2 H3 → β ys H3 → xs.length + ys.length ≤ 100000 ∧ ∀ H4, Ex H3 H4 → γ (xs ++ ys) H4) : EN X (.BinOp a .Add b pos) σ H (TP γ) :=
  EN.of (pe_op op_catA pe_sem pe_sem) fun H1 e1 => sem_mono (ha H1 e1) fun v H2 ⟨e2, p, xs, ev, hp, qa⟩ => sem_mono (hb H2 (e1.trans e2) H2 (Ex.refl _)) fun v' H3 ⟨e3, p', ys, ev', hp', qb⟩ => by
    obtain ⟨hl, kk⟩ := k xs ys H2 H3 (e1.trans e2) qa e3 qb
    refine ⟨p, p', xs, ys, ev, ev', st_of (e3 _ _ hp), st_of hp', sz_of hl, fun z => ?_, fun _ z => ?_, fun _ _ q hq => ?_⟩
    · subst z
      exact ⟨e2.trans e3, p', ys, rfl, hp', kk _ (Ex.refl _)⟩
    · subst z
      refine ⟨e2.trans e3, p, xs, rfl, e3 _ _ hp, ?_⟩
      have := kk H3 (Ex.refl _)
      rwa [List.append_nil] at this
    · exact ⟨(e2.trans e3).trans (Ex.new hq), q, xs ++ ys, rfl, upd_same, kk _ (Ex.new hq)⟩
/-- sum(ints) -/
theorem ev_sum (hc : X.calm = true) (hg : Gl X "sum") (hm : X.mg "sum" = none) (ha : EN X a σ H (LP fun zs _ => zs = ns.map V.int)) (hst : starEach [a] X.env = (false, eval a X.env) :: starEach [] X.env := by rfl) : EV X (.Call (.Name "sum" q1) [a] [] q2) σ H (.int ns.sum) :=
  EN.of (pe_callB (cr_sum hc) hg hm (by decide +kernel) (pa_cons pe_sem pa_nil hst) (he := hst)) fun H1 e1 => sem_mono (ha H1 e1) fun v H2 ⟨e2, p, zs, ev, hp, ez⟩ => ⟨p, ns, by rw [ev], sq_of (by rw [hp, ez]), e2, rfl⟩
/-- d.get(k, e), d made on the way -/
theorem en_get2N {α : V → Hp → Prop} (hu : X.A.units + 1 < cLine) (ho : EN X o σ H α) (k : ∀ v H2, Ex H H2 → α v H2 → ∃ (p : Addr) (kvs : List (Key × V)) (ky : Key), v = .ref p ∧ H2 p = some (.dK kvs) ∧ EV X a σ H2 (kV ky) ∧ EN X b σ H2 fun z H3 => ψ ((valV kvs ky).getD z) H3) (m : M2 X o "get" apos a b cpos := by exact ⟨rfl, rfl, rfl, rfl⟩) :
    EN X (.Call (.Attribute o "get" apos) [a, b] [] cpos) σ H ψ :=
  EN.of (pe_dget2 hu pe_sem pe_sem pe_sem m) fun H1 e1 => sem_mono (ho H1 e1) fun v H2 ⟨e2, q⟩ => by
    obtain ⟨p, kvs, ky, ev, hp, ha, hb⟩ := k v H2 (e1.trans e2) q
    exact ⟨p, ev, .inl ⟨kvs, .inl hp⟩, EV.ev ha H2 (Ex.refl _) _ fun H3 e3 => sem_mono (hb H3 e3) fun z H4 ⟨e4, q4⟩ => ⟨_, DGet.k ((e3.trans e4) _ _ hp), (e2.trans e3).trans e4, q4⟩⟩
/-- {'..': a, '..': b} -/
theorem en_disp2 {s1 s2 : Str} {j1 j2} {v1 v2 : Expr} {φ1 φ2 : V → Hp → Prop} (h1 : EN X v1 σ H φ1) (h2 : EN X v2 σ H φ2) (hk : ∀ x1 x2 : V, mergeK [] [(Sum.inr s1, x1), (Sum.inr s2, x2)] = [(Sum.inr s1, x1), (Sum.inr s2, x2)]) :
    EN X (.Dict [some (.Constant (.str s1) j1 q1), some (.Constant (.str s2) j2 q2)] [v1, v2] pos) σ H fun v H' => ∃ p x1 x2 Ha Hb, v = .ref p ∧ H' p = some (.dK [(Sum.inr s1, x1), (Sum.inr s2, x2)]) ∧ Ex H Ha ∧ φ1 x1 Ha ∧ Ex Ha Hb ∧ φ2 x2 Hb ∧ Tx Hb H' :=
  EN.of (pe_disp (pps_cons pe_str pe_sem (pps_cons pe_str pe_sem pps_nil)) (by rfl) (by rfl) (fun z => by cases z) (by show 2 ≤ 15; decide)) fun H1 e1 p hp => by
    have e0 : Ex H (upd H1 p (.dK [])) := e1.trans (Ex.new hp)
    refine sem_mono (h1 _ e0) fun x1 Ha ⟨ea, f1⟩ => sem_mono (h2 _ (e0.trans ea)) fun x2 Hb ⟨eb, f2⟩ => ?_
    have hpb : Hb p = some (.dK []) := (ea.trans eb) _ _ upd_same
    refine ⟨hpb, [(Sum.inr s1, x1), (Sum.inr s2, x2)], rfl, by show 2 ≤ 15; decide, ?_⟩
    rw [hk]
    refine ⟨fun a o h => ?_, p, x1, x2, Ha, Hb, rfl, upd_same, e0.trans ea, f1, eb, f2, Tx.dK hpb⟩
    have hne : a ≠ p := fun z => by rw [z, hp] at h; cases h
    rw [upd_ne hne]
    exact (ea.trans eb) _ _ (by rw [upd_ne hne]; exact h)
/-! ### loops and comprehensions over what is made on the way -/
/-- for i, x in enumerate(a tuple made on the way) -/
theorem rx_forETN {kt : Nat} {nx ny : Str} (i j : Nat) {l : Expr} {body : List Stmt} (hp : PassesOwn (model X.prog X.w) X.A X.env X.xe) (hc : X.calm = true) (hg : Gl X "enumerate") (hm : X.mg "enumerate" = none) (hl : EN X l σ H φ)
    (k : ∀ v H2, Ex H H2 → φ v H2 → ∃ (r : Addr) (xs : List V) (P : Nat → L2.St → Hp → Prop), v = .ref r ∧ SqT X.K H2 r xs ∧ P 0 σ H2 ∧ (∀ n σ' Hb, n ≤ xs.length → P n σ' Hb → SqT X.K Hb r xs) ∧
      (∀ n x σ' Hb, xs[n]? = some x → P n σ' Hb → RX X body { D with nx := UpS (P (n + 1)), ct := UpS (P (n + 1)), bk := semS X rest D } ((σ'.set i (some (.int (n : Int)))).set j (some x)) Hb) ∧ ∀ σ' Hb, P xs.length σ' Hb → RX X rest D σ' Hb)
    (hN : X.N.Nodup) (hi : X.N[i]? = some nx := by rfl) (hj : X.N[j]? = some ny := by rfl) (hlo : Loc X.env.scope nx := by first | exact Or.inl rfl | exact Or.inr rfl) (hlo2 : Loc X.env.scope ny := by first | exact Or.inl rfl | exact Or.inr rfl)
    (hf : X.fn nx = true ∨ X.env.scope.names.lookup nx = some .local := by first | exact .inl rfl | exact .inr rfl) (hf2 : X.fn ny = true ∨ X.env.scope.names.lookup ny = some .local := by first | exact .inl rfl | exact .inr rfl)
    (hst : starEach [l] X.env = (false, eval l X.env) :: starEach [] X.env := by rfl) :
    RX X (.For (.Tuple [.Name nx px, .Name ny py] kt p3) (.Call (.Name "enumerate" q1) [l] [] q2) body [] pos :: rest) D σ H :=
  rx_of (ps_for hp hc (pi_enumT hg hm (pa_cons pe_sem pa_nil hst) hst) (pg_tup hc (pgs_cons (pg_name hN hi hlo hf) (pgs_cons (pg_name hN hj hlo2 hf2) pgs_nil))) pss_sem) fun H1 e1 => sem_mono (hl H1 e1) fun v H2 ⟨e2, q⟩ => by
    obtain ⟨r, xs, P, rfl, hx, h0, hk, hs, hd⟩ := k v H2 (e1.trans e2) q
    exact ⟨r, xs, rfl, hx, for_it (D := { D with nx := semS X rest D }) (walk_enumT (K := X.K) (a := r) (xs := xs)) (fun n => UpS (P n)) ⟨H2, Ex.refl _, h0⟩ (fun n σ' H' hn ⟨Hb, e, p⟩ => ex_t e (hk n σ' Hb hn p))
      (fun n v σ' H' H'' hn ⟨Hb, e, p⟩ ⟨T, x, y, ev, hT, eh, fx, fy⟩ => by
        subst ev eh
        cases fx
        exact ⟨T, _, rfl, .inl (.inl upd_same), rfl, _, _, rfl, _, _, rfl, rfl, hs n y σ' Hb fy p _ (e.trans (Ex.new hT))⟩) fun σ' H' ⟨Hb, e, p⟩ => hd σ' Hb p H' e⟩
section
variable {elt tst : Expr} {xn yn yv : Str} {scope : Scope} {own : List (Str × Nat)} {kt : Nat}
/-- [.. for x in a tuple made on the way if ..] -/
theorem en_lcTNt (j : Nat) {l : Expr} (hc : X.calm = true) (hN : X.N.Nodup) (ok : BlkOk X.N X.env.scope scope own) (hl : EN X l σ H fun v H2 => ∃ r, v = .ref r ∧ SqT X.K H2 r xs) (hz : xs.length ≤ 100000)
    (hg : ∀ (s : Shared) (H : Hp) (C : Addr) (cl : List (Str × Addr)) (fp : List Addr), PG (X.blk s H scope (compEnvC scope cl C X.env) fp) (.Name xn px) (gName j))
    (hw : ∀ v, wipe ((wipe σ (own.map (·.2))).set j (some v)) (own.map (·.2)) = wipe σ (own.map (·.2)))
    (P : Nat → List V → Hp → Prop) (hP : ∀ n acc H1 H2, Tx H1 H2 → P n acc H1 → P n acc H2) (h0 : P 0 [] H)
    (hs : ∀ n x acc Hb (s : Shared) (H' : Hp) (C : Addr) (cl : List (Str × Addr)) (fp : List Addr), xs[n]? = some x → Ex H Hb → P n acc Hb →
      TD (X.blk s H' scope (compEnvC scope cl C X.env) fp) tst ((wipe σ (own.map (·.2))).set j (some x)) Hb fun b H3 => if b = true then
        ∀ (s : Shared) (H' : Hp) (C : Addr) (cl : List (Str × Addr)) (fp : List Addr), EN (X.blk s H' scope (compEnvC scope cl C X.env) fp) elt ((wipe σ (own.map (·.2))).set j (some x)) H3 fun v H2 => P (n + 1) (acc ++ [v]) H2 else P (n + 1) acc H3)
    (hfo : ∀ x, foldedSetIterable l X.env x = pure x := by intro _; rfl) :
    EN X (.ListComp elt [⟨.Name xn px, l, [tst], 0⟩] scope pos) σ H fun v H2 => ∃ D acc, v = .ref D ∧ H D = none ∧ H2 D = some (.lst acc) ∧ acc.length ≤ xs.length ∧ P xs.length acc H2 :=
  EN.of (pe_lc hc hN (pi_tup pe_sem) ok hg (fun s H' C cl fp => pts_one (pt_blk s H' C cl fp)) (fun s H' C cl fp => pe_blk s H' C cl fp) hfo) fun H1 e1 => sem_mono (hl H1 e1) fun v H2 ⟨e2, r, ev, hx⟩ => ⟨r, ev, ⟨xs, hx⟩, fun D hD =>
    lc_it (walk_tup (K := X.K) (a := r) (xs := xs)) (LcW H2 D P) ⟨[], Nat.le_refl _, hD, Ex.new hD, upd_same, hP _ _ _ _ (Tx.trans (e1.trans e2).tx (Ex.new hD).tx) h0⟩ (fun i H' _ p => let ⟨_, _, _, e, _, _⟩ := p; ex_t e hx)
      (fun i x H' H'' hi ⟨acc, q1, q2, q3, q4, q5⟩ ⟨eh, hx⟩ => by
        subst eh
        refine ⟨hw _, fun s H'' C cl fp => semT_mono (hs i x acc _ s H'' C cl fp hx ((e1.trans e2).trans q3) q5 _ (Ex.refl _)) fun b H3 ⟨e3, q6⟩ => ?_⟩
        cases b with
        | true =>
          rw [if_pos rfl] at q6 ⊢
          exact fun s H'' C cl fp => sem_mono (q6 s H'' C cl fp H3 (Ex.refl H3)) fun v H4 ⟨e4, q7⟩ =>
            LcW.push hP q1 q2 ((q3.trans e3).trans e4) ((e3.trans e4) D _ q4) (by omega) q7
        | false =>
          rw [if_neg Bool.false_ne_true] at q6 ⊢
          exact ⟨acc, Nat.le_succ_of_le q1, q2, q3.trans e3, e3 D _ q4, q6⟩)
      (fun H' ⟨acc, q1, q2, q3, q4, q5⟩ => ⟨e2.trans q3, D, acc, rfl, fresh_back (e1.trans e2) q2, q4, q1, q5⟩)⟩
/-- y = [.. for a, b in a tuple of pairs if ..] on one line -/
theorem rx_setTP (i j1 j2 : Nat) {l : Expr} (hc : X.calm = true) (hN : X.N.Nodup) (ok : BlkOk X.N X.env.scope scope own)
    (hl : EV X l σ H (.ref p)) (hx : SqT X.K H p xs) (hz : xs.length ≤ 100000) (hpr : ∀ x ∈ xs, ∃ q y z, x = .ref q ∧ H q = some (.tup [y, z]))
    (hg : ∀ (s : Shared) (H : Hp) (C : Addr) (cl : List (Str × Addr)) (fp : List Addr), PG (X.blk s H scope (compEnvC scope cl C X.env) fp) (.Tuple [.Name xn px, .Name yn py] kt p3) (gTup X.K 2 (gCons (gName j1) (gCons (gName j2) gNil))))
    (hw : ∀ v v', wipe (((wipe σ (own.map (·.2))).set j1 (some v)).set j2 (some v')) (own.map (·.2)) = wipe σ (own.map (·.2)))
    (P : Nat → List V → Prop) (h0 : P 0 [])
    (hs : ∀ (n : Nat) q y z acc Hb (s : Shared) (H' : Hp) (C : Addr) (cl : List (Str × Addr)) (fp : List Addr), xs[n]? = some (.ref q) → H q = some (.tup [y, z]) → Ex H Hb → P n acc →
      TD (X.blk s H' scope (compEnvC scope cl C X.env) fp) tst (((wipe σ (own.map (·.2))).set j1 (some y)).set j2 (some z)) Hb fun b H3 => if b = true then
        ∀ (s : Shared) (H' : Hp) (C : Addr) (cl : List (Str × Addr)) (fp : List Addr), EN (X.blk s H' scope (compEnvC scope cl C X.env) fp) elt (((wipe σ (own.map (·.2))).set j1 (some y)).set j2 (some z)) H3 fun v H2 => P (n + 1) (acc ++ [v]) else P (n + 1) acc)
    (k : ∀ (D' : Addr) (acc : List V) (H2 : Hp), Ex H H2 → H D' = none → H2 D' = some (.lst acc) → acc.length ≤ xs.length → P xs.length acc → RX X rest D (σ.set i (some (.ref D'))) H2)
    (hi : X.N[i]? = some yv := by rfl) (hyl : X.env.scope.names.lookup yv = some .local := by rfl)
    (hsw : swapsWith (.ListComp elt [⟨.Tuple [.Name xn px, .Name yn py] kt p3, l, [tst], 0⟩] scope pos) (some (.Name yv p1)) spos.line X.env = pure true := by rfl)
    (hfo : ∀ x, foldedSetIterable l X.env x = pure x := by intro _; rfl) :
    RX X (.Assign [.Name yv p1] (.ListComp elt [⟨.Tuple [.Name xn px, .Name yn py] kt p3, l, [tst], 0⟩] scope pos) spos :: rest) D σ H :=
  rx_of (ps_setLc hc hN hi hyl hsw (pi_tup pe_sem) ok hg (fun s H' C cl fp => pts_one (pt_blk s H' C cl fp)) (fun s H' C cl fp => pe_blk s H' C cl fp) hfo) fun H1 e1 => EV.ev hl H1 e1 _ fun H2 e2 => ⟨p, rfl, ⟨xs, ex_t (e1.trans e2) hx⟩, fun D' hD => by
    have e12 := e1.trans e2
    refine lc_it (walk_tup (K := X.K) (a := p) (xs := xs)) (LcW H2 D' fun n acc _ => P n acc) ⟨[], Nat.le_refl _, hD, Ex.new hD, upd_same, h0⟩ (fun i H' _ p => let ⟨_, _, _, e, _, _⟩ := p; ex_t (e12.trans e) hx) ?_ ?_
    · rintro n x H' H'' hn ⟨acc, q1, q2, q3, q4, q5⟩ ⟨eh, hxn⟩
      cases eh
      obtain ⟨q, y, z, ex, hq⟩ := hpr x (List.mem_of_getElem? hxn)
      subst ex
      refine ⟨q, [y, z], rfl, .inl (.inl ((e12.trans q3) _ _ hq)), rfl, y, [z], rfl, z, [], rfl, rfl, hw _ _, fun s H'' C cl fp => semT_mono (hs n q y z acc _ s H'' C cl fp hxn hq (e12.trans q3) q5 _ (Ex.refl _)) fun b H3 ⟨e3, q6⟩ => ?_⟩
      cases b with
      | true =>
        rw [if_pos rfl] at q6 ⊢
        exact fun s H'' C cl fp => sem_mono (q6 s H'' C cl fp H3 (Ex.refl H3)) fun v H4 ⟨e4, q7⟩ =>
          LcW.push (fun _ _ _ _ _ z => z) q1 q2 ((q3.trans e3).trans e4) ((e3.trans e4) D' _ q4) (by omega) q7
      | false =>
        rw [if_neg Bool.false_ne_true] at q6 ⊢
        exact ⟨acc, Nat.le_succ_of_le q1, q2, q3.trans e3, e3 D' _ q4, q6⟩
    · rintro H' ⟨acc, q1, q2, q3, q4, q5⟩
      exact k D' acc H' (e12.trans q3) (fresh_back e12 q2) q4 q1 q5 H' (Ex.refl H')⟩
end
end
end Y
set_option Elab.async false
set_option linter.all false
set_option maxRecDepth 100000
set_option maxHeartbeats 4000000
namespace Y
open PySem PySem.Spec PyProof.Rows L2 Evl
section
variable {X : Cx} {σ : L2.St} {H : Hp} {a b c : Expr} {pos : Pos} {D : Ends} {rest ss tt : List Stmt} {bb : Bool} {φ : V → Hp → Prop}
/-- both ways of an if lead to one place -/
theorem rx_ifJ (J : L2.St → Hp → Prop) (ht : TN X c σ H bb) (h1 : bb = true → RX X ss { D with nx := UpS J } σ H) (h2 : bb = false → RX X tt { D with nx := UpS J } σ H) (hj : ∀ σ' H', J σ' H' → RX X rest D σ' H') : RX X (.If c ss tt pos :: rest) D σ H :=
  rx_if ht (fun q => ⟨fun H1 e1 => semS_ends ((h1 q).run H1 e1) (fun σ' H' ⟨Hb, e, j⟩ => (hj σ' Hb j).run H' e) (fun _ _ z => z) (fun _ _ z => z) fun _ _ z => z⟩)
    fun q => ⟨fun H1 e1 => semS_ends ((h2 q).run H1 e1) (fun σ' H' ⟨Hb, e, j⟩ => (hj σ' Hb j).run H' e) (fun _ _ z => z) (fun _ _ z => z) fun _ _ z => z⟩
/-- (a,) -/
theorem en_tup1N {x1} (ha : EN X a σ H φ) (he : starEach [a] X.env = (false, eval a X.env) :: starEach [] X.env := by rfl) : EN X (.Tuple [a] x1 pos) σ H fun v H2 => ∃ (p : Addr) (u : V) (H3 : Hp), v = .ref p ∧ H2 p = some (.tup [u]) ∧ φ u H3 ∧ Ex H3 H2 :=
  EN.of (pe_tup (pa_cons pe_sem pa_nil he)) fun H1 e1 => sem_mono (ha H1 e1) fun u H2 ⟨e2, q⟩ => ⟨by show 1 ≤ sizeLine; decide, fun p hp => ⟨e2.trans (Ex.new hp), p, u, H2, rfl, upd_same, q, Ex.new hp⟩⟩
end
end Y
set_option Elab.async false
set_option linter.all false
set_option maxRecDepth 100000
set_option maxHeartbeats 4000000
/-! t[::-1] of a tuple. -/
namespace Y
open PySem PySem.Spec PyProof.Rows L2 Evl HT
section
variable {prog : Program} {w : World} {A : Around} {E : Value → Shared → Prop} {s : Shared}
theorem adjust_back (n : Nat) : Builtin.Slice.sliceAdjust none none (-1) (n : Int) = ((n : Int) - 1, -1) := by
  unfold Builtin.Slice.sliceAdjust
  simp
theorem places_back (n : Nat) : Builtin.Slice.slicePlaces ((n : Int) - 1) (-1) (-1) = n := by
  unfold Builtin.Slice.slicePlaces
  have h1 : ¬ ((-1 : Int) > 0) := by omega
  have e : (-(-1 : Int)) = 1 := by decide
  simp only [h1, if_false, e, Int.ediv_one]
  split <;> omega
theorem sliceApplied_back {sl : Addr} {vs : Value} {n : Nat} {Q : Int × Int × Nat → Shared → Prop} (hs : s.heap.IsSliceOf sl .none .none vs) (pv : IsPart vs (some (-1)))
    (h : Q ((n : Int) - 1, -1, n) s) : wpAny (model prog w) A (Builtin.Slice.sliceApplied (.ref sl) (pure (n : Int))) Q E s := by
  obtain ⟨os, hos, hcs, hds⟩ := id hs
  unfold Builtin.Slice.sliceApplied Builtin.Slice.sliceFields
  refine wpAny_bind (wpAny_bind (wpAny_field hos hds (x := .none) rfl (wpAny_bind (wpAny_field hos hds (x := .none) rfl (wpAny_bind (wpAny_field hos hds (x := vs) rfl (wpAny_pure ?_)))))))
  refine wpAny_bind (slicePart_ pv ?_)
  show wpAny _ _ (if ((-1 : Int) == 0) = true then _ else _) _ _ s
  rw [if_neg (by decide)]
  refine wpAny_bind (slicePart_none (wpAny_bind (slicePart_none (wpAny_bind (wpAny_pure ?_)))))
  show wpAny _ _ (match Builtin.Slice.sliceAdjust none none (-1) (n : Int) with | (lo, hi) => pure (lo, (-1 : Int), Builtin.Slice.slicePlaces lo hi (-1))) _ _ s
  rw [adjust_back n]
  show wpAny _ _ (pure ((n : Int) - 1, (-1 : Int), Builtin.Slice.slicePlaces ((n : Int) - 1) (-1) (-1))) _ _ s
  rw [places_back]
  exact wpAny_pure h
theorem fm_some {α β : Type} {f : α → Option β} {g : α → β} : ∀ l : List α, (∀ m ∈ l, f m = some (g m)) → l.filterMap f = l.map g
  | [], _ => rfl
  | x :: l, h => by rw [List.filterMap_cons, h x List.mem_cons_self, List.map_cons, fm_some l fun m hm => h m (List.mem_cons_of_mem _ hm)]
theorem pick_back (xs : Array Value) : ((List.range xs.size).filterMap fun (m : Nat) => xs[(((xs.size : Int) - 1) + (m : Int) * (-1)).toNat]?).toArray = xs.toList.reverse.toArray := by
  have e : (List.range xs.size).filterMap (fun (m : Nat) => xs[(((xs.size : Int) - 1) + (m : Int) * (-1)).toNat]?) = xs.toList.reverse := by
    refine List.ext_getElem? fun i => ?_
    have e1 : (List.range xs.size).filterMap (fun (m : Nat) => xs[(((xs.size : Int) - 1) + (m : Int) * (-1)).toNat]?) = (List.range xs.size).map (fun m => xs.getD (xs.size - 1 - m) .none) := by
      refine fm_some _ fun m hm => ?_
      have hm := List.mem_range.mp hm
      have : (((xs.size : Int) - 1) + (m : Int) * (-1)).toNat = xs.size - 1 - m := by omega
      rw [this]
      have hl : xs.size - 1 - m < xs.size := by omega
      show xs[xs.size - 1 - m]? = some (xs.getD (xs.size - 1 - m) .none)
      rw [Array.getD_eq_getD_getElem?, Array.getElem?_eq_getElem hl]; rfl
    rw [e1, List.getElem?_map]
    by_cases h : i < xs.size
    · rw [List.getElem?_range h, List.getElem?_reverse (by simpa using h)]
      have hl : xs.size - 1 - i < xs.size := by omega
      show some (xs.getD (xs.size - 1 - i) .none) = _
      rw [Array.getD_eq_getD_getElem?, Array.getElem?_eq_getElem hl, Array.length_toList, Array.getElem?_toList, Array.getElem?_eq_getElem hl]; rfl
    · rw [List.getElem?_eq_none (by simpa using h), List.getElem?_eq_none (by simpa using h)]; rfl
  rw [e]
theorem getItem_tuple_back {t sl : Addr} {items : Array Value} {vs : Value} {Q : Value → Shared → Prop} (ht : IsTup s.heap t items) (hs : s.heap.IsSliceOf sl .none .none vs) (pv : IsPart vs (some (-1)))
    (h : Q (.ref s.heap.objs.size) { s with heap := s.heap.push { cls := .type "tuple", data := .seq items.toList.reverse.toArray } }) (hsz : items.size ≤ sizeLine) : wpAny (model prog w) A (getItem (.ref t) (.ref sl)) Q E s := by
  have htake : sizeOk (.seq items.toList.reverse.toArray) := by
    show items.toList.reverse.toArray.size ≤ sizeLine
    rw [List.size_toArray, List.length_reverse, Array.length_toList]; exact hsz
  obtain ⟨os, hos, hcs, hds⟩ := id hs
  have hTs : s.TypeIs (.ref sl) "slice" := ⟨os, hos, hcs⟩
  unfold getItem
  try with_reducible refine wpAny_holding ?_
  first | refine wpAny_bind (wpAny_pure ?_) | skip
  refine wpAny_bind (wpAny_sequenceKey ht.typeIs (by decide) ?_)
  refine wpAny_bind (wpAny_callSpecial?_slot (name := Str.ofString "__getitem__") ht.typeIs PyProof.Rows.slot_tuple_getitem
    (wpAny_call_entry PyProof.Rows.slot_tuple_getitem ht.typeIs entry_tuple_getitem ?_ (args_tuple_getitem _ _)))
  show wpAny _ _ (Builtin.Tuple.tupleItemsOf (.ref t) >>= _) _ _ s
  refine wpAny_bind (tupleItemsOf_ ht ?_)
  refine wpAny_bind (wpAny_typeOf hTs ?_)
  rw [if_pos (by decide)]
  refine wpAny_bind (sliceApplied_back hs pv ?_)
  have hno : ¬ ((((items.size : Int) - 1) == 0 && (-1 : Int) == 1 && items.size == items.size) = true) := by
    intro q
    rw [Bool.and_eq_true, Bool.and_eq_true] at q
    exact absurd (eq_of_beq q.1.2) (by decide)
  show wpAny _ _ (if (((items.size : Int) - 1) == 0 && (-1 : Int) == 1 && items.size == items.size) = true then _ else _) _ _ s
  rw [if_neg hno, pick_back]
  first
    | exact wpAny_bind (m := Builtin.Tuple.tupleExact _) (wpAny_newObj_type (wpAny_pure ⟨_, rfl, wpAny_pure h⟩) htake)
    | exact wpAny_bind (m := Builtin.Tuple.tupleExact _) (wpAny_newObj_type (wpAny_bind (wpAny_pure (wpAny_pure ⟨_, rfl, wpAny_pure h⟩))) htake)
    | exact wpAny_bind (wpAny_bind (m := Builtin.Tuple.tupleExact _) (wpAny_newObj_type (wpAny_pure (wpAny_pure ⟨_, rfl, wpAny_pure h⟩)) htake))
    | exact wpAny_bind (wpAny_bind (m := Builtin.Tuple.tupleExact _) (wpAny_newObj_type (wpAny_pure ⟨_, rfl, wpAny_pure h⟩) htake))
end
section
variable {X : Cx} {σ : L2.St} {H H' : Hp} {p2 q1 q2 px py pt p1 p3 pos : Pos} {e : Expr}
def tRevT (K : PySem.W.Frag) (te : TE) : TE := fun σ H Q => te σ H fun x H1 => ∃ a xs, x = .ref a ∧ SqT K H1 a xs ∧ ∀ p, H1 p = none → Q (.ref p) (upd H1 p (.tup xs.reverse))
theorem pe_revT {te : TE} {k : Nat} (he : PE X e te) : PE X (.Subscript e (.Slice none none (some (.UnaryOp .USub (.Constant (.int 1) k p1) p2)) p3) pos) (tRevT X.K te) := by
  refine ⟨fun pins s σ H Q I h => ?_⟩
  refine Subscript_ (thn (he.run pins s σ H _ I h) fun v s1 ⟨x, H1, I1, r1, q1⟩ => ?_)
  obtain ⟨a, xs, ex, hx, q⟩ := q1
  subst ex
  cases r1
  have hst : PO X (some (.UnaryOp .USub (.Constant (.int 1) k p1) p2)) (tPart (tUn (rU fun i => .int (-i)) (tC (.int 1)))) := po_some (pe_un un_neg pe_int)
  refine wpAny_Slice (thn (po_none.run pins s1 σ H1 (fun o H2 => o = none ∧ H2 = H1) I1 ⟨rfl, rfl⟩) fun vl s2 ⟨l, H2, I2, pl, el, e2⟩ => ?_)
  subst el e2
  refine thn (po_none.run pins s2 σ H2 (fun o H3 => o = none ∧ H3 = H2) I2 ⟨rfl, rfl⟩) fun vu s3 ⟨u, H3, I3, pu, eu, e3⟩ => ?_
  subst eu e3
  refine thn (hst.run pins s3 σ H3 (fun o H4 => o = some (-1) ∧ H4 = H3) I3 ⟨1, rfl, -1, rfl, rfl, rfl⟩) fun vs s4 ⟨o, H4, I4, ps, eo, e4⟩ => ?_
  subst eo e4
  cases pl
  cases pu
  have I5 : Inv X pins σ H4 { s4 with heap := s4.heap.push { cls := .type "slice", data := .fields #[.none, .none, vs] } } := I4.kept (t' := s4.toks) fun b ob q => Heap.get?_push_of_some _ q
  obtain ⟨its, r, ht, hz⟩ := I5.tuple hx
  have hlen := r.length
  show wpAny (model X.prog X.w) X.A (subscriptTail e (.Slice none none (some (.UnaryOp .USub (.Constant (.int 1) k p1) p2)) p3) (.ref a) (.ref s4.heap.objs.size)) (EP X pins σ Q) X.xe { s4 with heap := s4.heap.push { cls := .type "slice", data := .fields #[.none, .none, vs] } }
  refine tail_any (ops := [.ref a, .ref s4.heap.objs.size]) ht.typeIs (PyProof.Rows.slot_tuple_getitem.lookup) ?_ (by with_unfolding_all rfl)
  refine getItem_tuple_back ht (Heap.IsSliceOf.new _ .none .none vs) ps ?_ (by rw [List.size_toArray]; omega)
  refine ⟨.ref _, _, I5.laid (t' := s4.toks) (o := .tup xs.reverse) (fun b ob q => Heap.get?_push_of_some _ q) (Nat.le_refl _) ?_, rfl, q _ (I5.hok.fresh (Nat.le_refl _))⟩
  exact ⟨by rw [List.length_reverse]; exact hz, _, r.reverse, IsTup.new _ _⟩
theorem en_revTP {xs : List V} {p : Addr} {k0 : Nat} (h : EV X e σ H (.ref p)) (hx : SqT X.K H p xs) : EN X (.Subscript e (.Slice none none (some (.UnaryOp .USub (.Constant (.int 1) k0 p1) p2)) p3) pos) σ H fun v H2 => ∃ q, v = .ref q ∧ H2 q = some (.tup xs.reverse) :=
  EN.of (pe_revT pe_sem) fun H1 e1 => EV.ev h H1 e1 _ fun H2 e2 => ⟨p, xs, rfl, ex_t (e1.trans e2) hx, fun q hq => ⟨e2.trans (Ex.new hq), q, rfl, upd_same⟩⟩
end
end Y
set_option Elab.async false
set_option linter.all false
set_option maxRecDepth 100000
set_option maxHeartbeats 4000000
/-! Data, how it lies in a heap, what is known of the slots: a heap is frozen in part (B), the lists and dicts of one's own stand outside of it. -/
namespace Z
open PySem PySem.Spec PyProof.Rows L2 Evl Y
inductive Dt where
  | non | bl (b : Bool) | int (n : Int) | str (s : Str)
  | tup (ds : List Dt) | lst (ds : List Dt)
  | dic (kvs : List (Key × Dt)) | dit (kvs : List (List Key × Dt))
  | obj (C : Addr) (fs : List (Str × Dt))
  | dk (a b : Addr) (f g : Heap → Prop)
  | tx (ds : List Dt)
  | tz (ds : List Dt)
/-- a tuple that has no dict -/
def TzAt (B : Hp) (a : Addr) (xs : List V) : Prop := ∃ o : Obj, B a = some (.frz o (.tup xs)) ∧ o.dict = none
theorem TzAt.st {K : PySem.W.Frag} {B : Hp} {a : Addr} {xs : List V} (h : TzAt B a xs) : SqT K B a xs := let ⟨o, h, _⟩ := h; .inl (.inr ⟨o, h⟩)
mutual
inductive Rp (K : PySem.W.Frag) (B : Hp) : V → Dt → Prop
  | non : Rp K B .non .non
  | bl (b : Bool) : Rp K B (.bl b) (.bl b)
  | int (n : Int) : Rp K B (.int n) (.int n)
  | str (s : Str) : Rp K B (.str s) (.str s)
  | tup {a : Addr} {xs : List V} {ds : List Dt} : SqT K B a xs → RpL K B xs ds → Rp K B (.ref a) (.tup ds)
  | lst {a : Addr} {xs : List V} {ds : List Dt} : SqL K B a xs → RpL K B xs ds → Rp K B (.ref a) (.lst ds)
  | dic {a : Addr} {ys : List (Key × V)} {kvs : List (Key × Dt)} : Rd B a (.dK ys) → RpK K B ys kvs → Rp K B (.ref a) (.dic kvs)
  | dit {a : Addr} {ys : List (List Key × V)} {kvs : List (List Key × Dt)} : Rd B a (.dT ys) → RpT K B ys kvs → Rp K B (.ref a) (.dit kvs)
  | obj {a C dx : Addr} {ys : List (Str × V)} {fs : List (Str × Dt)} : B a = some (.ins C dx ys) → RpF K B ys fs → Rp K B (.ref a) (.obj C fs)
  | dk {a b : Addr} {f g : Heap → Prop} : B a = some (.ext f) → B b = some (.ext g) → a ≠ b → Rp K B (.ref a) (.dk a b f g)
  | tx {a : Addr} {xs : List V} {ds : List Dt} : B a = some (.tup xs) → RpL K B xs ds → Rp K B (.ref a) (.tx ds)
  | tz {a : Addr} {xs : List V} {ds : List Dt} : TzAt B a xs → RpL K B xs ds → Rp K B (.ref a) (.tz ds)
inductive RpL (K : PySem.W.Frag) (B : Hp) : List V → List Dt → Prop
  | nil : RpL K B [] []
  | cons {v : V} {d : Dt} {vs : List V} {ds : List Dt} : Rp K B v d → RpL K B vs ds → RpL K B (v :: vs) (d :: ds)
inductive RpK (K : PySem.W.Frag) (B : Hp) : List (Key × V) → List (Key × Dt) → Prop
  | nil : RpK K B [] []
  | cons {k : Key} {v : V} {d : Dt} {vs : List (Key × V)} {ds : List (Key × Dt)} : Rp K B v d → RpK K B vs ds → RpK K B ((k, v) :: vs) ((k, d) :: ds)
inductive RpT (K : PySem.W.Frag) (B : Hp) : List (List Key × V) → List (List Key × Dt) → Prop
  | nil : RpT K B [] []
  | cons {k : List Key} {v : V} {d : Dt} {vs : List (List Key × V)} {ds : List (List Key × Dt)} : Rp K B v d → RpT K B vs ds → RpT K B ((k, v) :: vs) ((k, d) :: ds)
inductive RpF (K : PySem.W.Frag) (B : Hp) : List (Str × V) → List (Str × Dt) → Prop
  | nil : RpF K B [] []
  | cons {k : Str} {v : V} {d : Dt} {vs : List (Str × V)} {ds : List (Str × Dt)} : Rp K B v d → RpF K B vs ds → RpF K B ((k, v) :: vs) ((k, d) :: ds)
end
/-- what can be read there can be read here -/
structure Rds (K : PySem.W.Frag) (B B' : Hp) : Prop where
  t : ∀ a xs, SqT K B a xs → SqT K B' a xs
  l : ∀ a xs, SqL K B a xs → SqL K B' a xs
  d : ∀ a ys, Rd B a (.dK ys) → Rd B' a (.dK ys)
  dt : ∀ a ys, Rd B a (.dT ys) → Rd B' a (.dT ys)
  o : ∀ a C dx ys, B a = some (.ins C dx ys) → B' a = some (.ins C dx ys)
  x : ∀ a f, B a = some (.ext f) → B' a = some (.ext f)
  u : ∀ a xs, B a = some (.tup xs) → B' a = some (.tup xs)
  z : ∀ a xs, TzAt B a xs → TzAt B' a xs
theorem rds_ex {K : PySem.W.Frag} {B B' : Hp} (e : Ex B B') : Rds K B B' := ⟨fun _ _ => ex_t e, fun _ _ => ex_l e, fun _ _ h => rd_mono h e, fun _ _ h => rd_mono h e, fun _ _ _ _ h => e _ _ h, fun _ _ h => e _ _ h, fun _ _ h => e _ _ h, fun _ _ ⟨o, h, d⟩ => ⟨o, e _ _ h, d⟩⟩
section
variable {K : PySem.W.Frag} {B B' H H' : Hp}
mutual
theorem Rp.rds (m : Rds K B B') : ∀ {v : V} {d : Dt}, Rp K B v d → Rp K B' v d
  | _, _, .non => .non
  | _, _, .bl b => .bl b
  | _, _, .int n => .int n
  | _, _, .str s => .str s
  | _, _, .tup a h => .tup (m.t _ _ a) (RpL.rds m h)
  | _, _, .lst a h => .lst (m.l _ _ a) (RpL.rds m h)
  | _, _, .dic a h => .dic (m.d _ _ a) (RpK.rds m h)
  | _, _, .dit a h => .dit (m.dt _ _ a) (RpT.rds m h)
  | _, _, .obj a h => .obj (m.o _ _ _ _ a) (RpF.rds m h)
  | _, _, .dk a b n => .dk (m.x _ _ a) (m.x _ _ b) n
  | _, _, .tx a h => .tx (m.u _ _ a) (RpL.rds m h)
  | _, _, .tz a h => .tz (m.z _ _ a) (RpL.rds m h)
theorem RpL.rds (m : Rds K B B') : ∀ {v : List V} {d : List Dt}, RpL K B v d → RpL K B' v d
  | _, _, .nil => .nil
  | _, _, .cons a b => .cons (Rp.rds m a) (RpL.rds m b)
theorem RpK.rds (m : Rds K B B') : ∀ {v : List (Key × V)} {d : List (Key × Dt)}, RpK K B v d → RpK K B' v d
  | _, _, .nil => .nil
  | _, _, .cons a b => .cons (Rp.rds m a) (RpK.rds m b)
theorem RpT.rds (m : Rds K B B') : ∀ {v : List (List Key × V)} {d : List (List Key × Dt)}, RpT K B v d → RpT K B' v d
  | _, _, .nil => .nil
  | _, _, .cons a b => .cons (Rp.rds m a) (RpT.rds m b)
theorem RpF.rds (m : Rds K B B') : ∀ {v : List (Str × V)} {d : List (Str × Dt)}, RpF K B v d → RpF K B' v d
  | _, _, .nil => .nil
  | _, _, .cons a b => .cons (Rp.rds m a) (RpF.rds m b)
end
theorem Rp.ex {v : V} {d : Dt} (h : Rp K B v d) (e : Ex B B') : Rp K B' v d := h.rds (rds_ex e)
theorem RpL.ex {v : List V} {d : List Dt} (h : RpL K B v d) (e : Ex B B') : RpL K B' v d := h.rds (rds_ex e)
theorem RpK.ex {v : List (Key × V)} {d : List (Key × Dt)} (h : RpK K B v d) (e : Ex B B') : RpK K B' v d := h.rds (rds_ex e)
theorem RpT.ex {v : List (List Key × V)} {d : List (List Key × Dt)} (h : RpT K B v d) (e : Ex B B') : RpT K B' v d := h.rds (rds_ex e)
theorem RpL.all2 : ∀ {vs : List V} {ds : List Dt}, RpL K B vs ds → All2 (Rp K B) vs ds
  | _, _, .nil => True.intro
  | _, _, .cons a b => ⟨a, RpL.all2 b⟩
theorem RpL.of : ∀ {vs : List V} {ds : List Dt}, All2 (Rp K B) vs ds → RpL K B vs ds
  | [], [], _ => .nil
  | _ :: _, _ :: _, ⟨a, b⟩ => .cons a (RpL.of b)
  | [], _ :: _, h => h.elim
  | _ :: _, [], h => h.elim
theorem RpL.len {vs : List V} {ds : List Dt} (h : RpL K B vs ds) : vs.length = ds.length := h.all2.len
theorem RpL.app {vs ws : List V} {ds es : List Dt} (h : RpL K B vs ds) (g : RpL K B ws es) : RpL K B (vs ++ ws) (ds ++ es) := .of (h.all2.app g.all2)
theorem RpL.at' {vs : List V} {ds : List Dt} (h : RpL K B vs ds) {i : Nat} {d : Dt} (e : ds[i]? = some d) : ∃ v, vs[i]? = some v ∧ Rp K B v d := h.all2.at' e
theorem RpL.at {vs : List V} {ds : List Dt} (h : RpL K B vs ds) {i : Nat} {v : V} (e : vs[i]? = some v) : ∃ d, ds[i]? = some d ∧ Rp K B v d := h.all2.at e
theorem RpL.take {vs : List V} {ds : List Dt} (h : RpL K B vs ds) (n : Nat) : RpL K B (vs.take n) (ds.take n) := .of (h.all2.take n)
theorem RpL.drop {vs : List V} {ds : List Dt} (h : RpL K B vs ds) (n : Nat) : RpL K B (vs.drop n) (ds.drop n) := .of (h.all2.drop n)
theorem RpL.rev : ∀ {vs : List V} {ds : List Dt}, RpL K B vs ds → RpL K B vs.reverse ds.reverse
  | _, _, .nil => .nil
  | _, _, .cons a b => by
    rw [List.reverse_cons, List.reverse_cons]
    exact (RpL.rev b).app (.cons a .nil)
end
/-! ### data of ints, texts, truth values, None and tuples of such -/
mutual
def imm : Dt → Bool
  | .non => true | .bl _ => true | .int _ => true | .str _ => true
  | .tup ds => immL ds
  | .tz ds => immL ds
  | _ => false
def immL : List Dt → Bool
  | [] => true
  | d :: ds => imm d && immL ds
end
theorem imm_lst {ds : List Dt} (h : imm (.lst ds) = true) : False := by simp [imm] at h
theorem imm_dic {ds} (h : imm (.dic ds) = true) : False := by simp [imm] at h
theorem imm_dit {ds} (h : imm (.dit ds) = true) : False := by simp [imm] at h
theorem imm_tx {ds} (h : imm (.tx ds) = true) : False := by simp [imm] at h
theorem imm_dk {a b f g} (h : imm (.dk a b f g) = true) : False := by simp [imm] at h
theorem imm_obj {C ds} (h : imm (.obj C ds) = true) : False := by simp [imm] at h
theorem imm_tup {ds : List Dt} (h : imm (.tup ds) = true) : immL ds = true := by simpa [imm] using h
theorem immL_cons {d : Dt} {ds : List Dt} (h : immL (d :: ds) = true) : imm d = true ∧ immL ds = true := by simpa [immL] using h
theorem imm_tz {ds : List Dt} (h : imm (.tz ds) = true) : immL ds = true := by simpa [imm] using h
structure Flt (K : PySem.W.Frag) (B B' : Hp) : Prop where
  t : ∀ a xs, SqT K B a xs → SqT K B' a xs
  z : ∀ a xs, TzAt B a xs → TzAt B' a xs
mutual
theorem Rp.flat {K : PySem.W.Frag} {B B' : Hp} (m : Flt K B B') : ∀ {v : V} {d : Dt}, Rp K B v d → imm d = true → Rp K B' v d
  | _, _, .non, _ => .non
  | _, _, .bl b, _ => .bl b
  | _, _, .int n, _ => .int n
  | _, _, .str s, _ => .str s
  | _, _, .tup a h, i => .tup (m.t _ _ a) (RpL.flat m h (imm_tup i))
  | _, _, .tz a h, i => .tz (m.z _ _ a) (RpL.flat m h (imm_tz i))
  | _, _, .lst _ _, i => (imm_lst i).elim
  | _, _, .dic _ _, i => (imm_dic i).elim
  | _, _, .dit _ _, i => (imm_dit i).elim
  | _, _, .obj _ _, i => (imm_obj i).elim
  | _, _, .dk _ _ _, i => (imm_dk i).elim
  | _, _, .tx _ _, i => (imm_tx i).elim
theorem RpL.flat {K : PySem.W.Frag} {B B' : Hp} (m : Flt K B B') : ∀ {v : List V} {d : List Dt}, RpL K B v d → immL d = true → RpL K B' v d
  | _, _, .nil, _ => .nil
  | _, _, .cons a b, i => .cons (Rp.flat m a (immL_cons i).1) (RpL.flat m b (immL_cons i).2)
end
/-! ### heaps that grow -/
def mutO : HO → Bool
  | .tup _ => false
  | .frz _ (.tup _) => false
  | _ => true
/-- the frozen part grows by what is new, and by tuples -/
structure Gr (B H B2 H2 : Hp) : Prop where
  b : Ex B B2
  h : Ex H H2
  s : Ex B2 H2
  o : ∀ a u, H a = some u → mutO u = true → B a = none → B2 a = none
theorem Gr.refl {B H : Hp} (s : Ex B H) : Gr B H B H := ⟨Ex.refl _, Ex.refl _, s, fun _ _ _ _ h => h⟩
theorem Gr.trans {B H B2 H2 B3 H3 : Hp} (a : Gr B H B2 H2) (b : Gr B2 H2 B3 H3) : Gr B H B3 H3 := ⟨a.b.trans b.b, a.h.trans b.h, b.s, fun x u h m q => b.o x u (a.h _ _ h) m (a.o x u h m q)⟩
/-- what is known more of the heap -/
theorem Gr.more {B H H2 : Hp} (s : Ex B H) (e : Ex H H2) : Gr B H B H2 := ⟨Ex.refl _, e, s.trans e, fun _ _ _ _ h => h⟩
theorem Gr.new {B H : Hp} {p : Addr} {o : HO} (s : Ex B H) (h : H p = none) : Gr B H (upd B p o) (upd H p o) := by
  have hb := fresh_back s h
  refine ⟨Ex.new hb, Ex.new h, ex_upd s, fun a u e _ q => ?_⟩
  by_cases z : a = p
  · subst z; rw [h] at e; cases e
  · rw [upd_ne z]; exact q
/-- the tuples of H too -/
noncomputable def wT (B H : Hp) : Hp := fun a => match H a with
  | some (.tup xs) => some (.tup xs)
  | some (.frz o (.tup xs)) => some (.frz o (.tup xs))
  | _ => B a
theorem wT_ex {B H : Hp} (s : Ex B H) : Ex B (wT B H) := fun a o h => by
  have h2 := s a o h
  unfold wT
  rw [h2]
  split
  · rename_i q; cases q; rfl
  · rename_i q; cases q; rfl
  · exact h
theorem wT_sub {B H : Hp} (s : Ex B H) : Ex (wT B H) H := fun a o h => by
  unfold wT at h
  split at h
  · rename_i q; cases h; exact q
  · rename_i q; cases h; exact q
  · exact s a o h
theorem Gr.tups {B H : Hp} (s : Ex B H) : Gr B H (wT B H) H := ⟨wT_ex s, Ex.refl _, wT_sub s, fun a u h m q => by
  unfold wT
  split
  · rename_i z; rw [h] at z; cases z; cases m
  · rename_i z; rw [h] at z; cases z; cases m
  · exact q⟩
theorem wT_t0 {K : PySem.W.Frag} {B H : Hp} (a : Addr) (xs : List V) (h : SqT K H a xs) : SqT K (wT B H) a xs := by
  rcases h with h | h
  · refine .inl ?_
    rcases h with h | ⟨o, h⟩
    · exact .inl (by unfold wT; rw [h])
    · exact .inr ⟨o, by unfold wT; rw [h]⟩
  · exact .inr h
theorem wT_t {K : PySem.W.Frag} {B H : Hp} : Flt K H (wT B H) := ⟨wT_t0, fun a xs ⟨o, h, d⟩ => ⟨o, by unfold wT; rw [h], d⟩⟩
/-! ### what is known of the slots -/
inductive Sl where
  | un | fr (d : Dt) | ow (d : Dt)
/-- an object of one's own -/
def Od (K : PySem.W.Frag) (B H : Hp) (p : Addr) : Dt → Prop
  | .lst ds => ∃ xs, H p = some (.lst xs) ∧ RpL K B xs ds
  | .dic kvs => ∃ ys, H p = some (.dK ys) ∧ RpK K B ys kvs
  | .dit kvs => ∃ ys, H p = some (.dT ys) ∧ RpT K B ys kvs
  | _ => False
theorem Od.mut {K : PySem.W.Frag} {B H : Hp} {p : Addr} {d : Dt} (h : Od K B H p d) : ∃ u, H p = some u ∧ mutO u = true := by
  cases d with
  | lst ds => obtain ⟨xs, h, _⟩ := h; exact ⟨_, h, rfl⟩
  | dic ds => obtain ⟨xs, h, _⟩ := h; exact ⟨_, h, rfl⟩
  | dit ds => obtain ⟨xs, h, _⟩ := h; exact ⟨_, h, rfl⟩
  | _ => exact h.elim
theorem Od.ex {K : PySem.W.Frag} {B H B2 H2 : Hp} {p : Addr} {d : Dt} (h : Od K B H p d) (b : Ex B B2) (e : H2 p = H p) : Od K B2 H2 p d := by
  cases d with
  | lst ds => obtain ⟨xs, h, r⟩ := h; exact ⟨xs, e.trans h, r.ex b⟩
  | dic ds => obtain ⟨xs, h, r⟩ := h; exact ⟨xs, e.trans h, r.ex b⟩
  | dit ds => obtain ⟨xs, h, r⟩ := h; exact ⟨xs, e.trans h, r.ex b⟩
  | _ => exact h.elim
/-- an object of one's own, read in a heap in which it stands -/
theorem Od.rp {K : PySem.W.Frag} {B H : Hp} {p : Addr} {d : Dt} (h : Od K B H p d) (s : Ex B H) : Rp K H (.ref p) d := by
  cases d with
  | lst ds => obtain ⟨xs, h, r⟩ := h; exact .lst (sq_of h) (r.ex s)
  | dic ds => obtain ⟨xs, h, r⟩ := h; exact .dic (.inl h) (r.ex s)
  | dit ds => obtain ⟨xs, h, r⟩ := h; exact .dit (.inl h) (r.ex s)
  | _ => exact h.elim
structure En (K : PySem.W.Frag) (H0 B : Hp) (ρ : List Sl) (σ : L2.St) (H : Hp) : Prop where
  ex : Ex B H
  len : σ.length = ρ.length
  fr : ∀ (i : Nat) (d : Dt), ρ[i]? = some (Sl.fr d) → ∃ v : V, σ[i]? = some (some v) ∧ Rp K B v d
  ow : ∀ (i : Nat) (d : Dt), ρ[i]? = some (Sl.ow d) → ∃ p : Addr, σ[i]? = some (some (V.ref p)) ∧ B p = none ∧ H0 p = none ∧ Od K B H p d
  sep : ∀ (i j : Nat) (d d' : Dt) (p : Addr), i ≠ j → ρ[i]? = some (Sl.ow d) → ρ[j]? = some (Sl.ow d') → σ[i]? = some (some (V.ref p)) → σ[j]? = some (some (V.ref p)) → False
section
variable {K : PySem.W.Frag} {H0 B B2 H H2 : Hp} {ρ : List Sl} {σ : L2.St} {i : Nat} {d : Dt} {v : V}
theorem En.gr (E : En K H0 B ρ σ H) (g : Gr B H B2 H2) : En K H0 B2 ρ σ H2 := ⟨g.s, E.len, fun i d h => let ⟨v, a, r⟩ := E.fr i d h; ⟨v, a, r.ex g.b⟩, fun i d h => by
  obtain ⟨p, a, b, c, o⟩ := E.ow i d h
  obtain ⟨u, hu, m⟩ := o.mut
  exact ⟨p, a, g.o p u hu m b, c, o.ex g.b ((g.h _ _ hu).trans hu.symm)⟩, E.sep⟩
/-- a slot is set to frozen data -/
theorem En.set (E : En K H0 B ρ σ H) (r : Rp K B v d) : En K H0 B (ρ.set i (Sl.fr d)) (σ.set i (some v)) H := by
  refine ⟨E.ex, by rw [List.length_set, List.length_set]; exact E.len, fun j e h => ?_, fun j e h => ?_, fun j k e e' p n h1 h2 h3 h4 => ?_⟩
  · by_cases z : i = j
    · subst z
      have hl : i < ρ.length := by
        have := (List.getElem?_eq_some_iff.mp h).1
        rwa [List.length_set] at this
      rw [List.getElem?_set_self hl] at h
      cases h
      exact ⟨v, by rw [List.getElem?_set_self (by rw [E.len]; exact hl)], r⟩
    · rw [List.getElem?_set_ne z] at h ⊢
      exact E.fr j e h
  · by_cases z : i = j
    · subst z
      have hl : i < ρ.length := by
        have := (List.getElem?_eq_some_iff.mp h).1
        rwa [List.length_set] at this
      rw [List.getElem?_set_self hl] at h
      cases h
    · rw [List.getElem?_set_ne z] at h ⊢
      exact E.ow j e h
  · have g : ∀ (m : Nat) (e : Dt), (ρ.set i (Sl.fr d))[m]? = some (Sl.ow e) → i ≠ m := fun m e h z => by
      subst z
      have hl : i < ρ.length := by
        have := (List.getElem?_eq_some_iff.mp h).1
        rwa [List.length_set] at this
      rw [List.getElem?_set_self hl] at h
      cases h
    have z1 := g _ _ h1
    have z2 := g _ _ h2
    rw [List.getElem?_set_ne z1] at h1 h3
    rw [List.getElem?_set_ne z2] at h2 h4
    exact E.sep j k e e' p n h1 h2 h3 h4
/-- a slot is set to an object of one's own that no slot has -/
theorem En.setO {p : Addr} (E : En K H0 B ρ σ H) (hb : B p = none) (h0 : H0 p = none) (o : Od K B H p d) (hn : ∀ (j : Nat) (e : Dt), ρ[j]? = some (Sl.ow e) → σ[j]? = some (some (V.ref p)) → j = i) : En K H0 B (ρ.set i (Sl.ow d)) (σ.set i (some (V.ref p))) H := by
  have g : ∀ (m : Nat) (e : Dt), (ρ.set i (Sl.ow d))[m]? = some (Sl.ow e) → (i = m ∧ e = d ∧ (σ.set i (some (V.ref p)))[m]? = some (some (V.ref p))) ∨ (i ≠ m ∧ ρ[m]? = some (Sl.ow e) ∧ (σ.set i (some (V.ref p)))[m]? = σ[m]?) := fun m e h => by
    by_cases z : i = m
    · subst z
      have hl : i < ρ.length := by
        have := (List.getElem?_eq_some_iff.mp h).1
        rwa [List.length_set] at this
      rw [List.getElem?_set_self hl] at h
      cases h
      exact .inl ⟨rfl, rfl, by rw [List.getElem?_set_self (by rw [E.len]; exact hl)]⟩
    · rw [List.getElem?_set_ne z] at h
      exact .inr ⟨z, h, List.getElem?_set_ne z⟩
  refine ⟨E.ex, by rw [List.length_set, List.length_set]; exact E.len, fun j e h => ?_, fun j e h => ?_, fun j k e e' q n h1 h2 h3 h4 => ?_⟩
  · by_cases z : i = j
    · subst z
      have hl : i < ρ.length := by
        have := (List.getElem?_eq_some_iff.mp h).1
        rwa [List.length_set] at this
      rw [List.getElem?_set_self hl] at h
      cases h
    · rw [List.getElem?_set_ne z] at h ⊢
      exact E.fr j e h
  · rcases g j e h with ⟨rfl, rfl, q⟩ | ⟨z, h', q⟩
    · exact ⟨p, q, hb, h0, o⟩
    · rw [q]; exact E.ow j e h'
  · rcases g j e h1 with ⟨rfl, rfl, q1⟩ | ⟨z, h', q1⟩
    · rcases g k e' h2 with ⟨rfl, rfl, q2⟩ | ⟨z2, h2', q2⟩
      · exact n rfl
      · rw [q1] at h3
        cases h3
        rw [q2] at h4
        exact z2 (hn k e' h2' h4).symm
    · rcases g k e' h2 with ⟨rfl, rfl, q2⟩ | ⟨z2, h2', q2⟩
      · rw [q2] at h4
        cases h4
        rw [q1] at h3
        exact z (hn j e h' h3).symm
      · rw [q1] at h3; rw [q2] at h4
        exact E.sep j k e e' q n h' h2' h3 h4
/-- the object of one's own at a slot changes -/
theorem En.put {p : Addr} {o : HO} {d' : Dt} (E : En K H0 B ρ σ H) (hi : ρ[i]? = some (.ow d)) (hp : σ[i]? = some (some (V.ref p))) (od : Od K B (upd H p o) p d') : En K H0 B (ρ.set i (Sl.ow d')) σ (upd H p o) := by
  obtain ⟨p', a, b, c, _⟩ := E.ow i d hi
  have e : p' = p := by rw [hp] at a; cases a; rfl
  subst e
  have hl := (List.getElem?_eq_some_iff.mp hi).1
  have E1 : En K H0 B (ρ.set i (Sl.fr .non)) (σ.set i (some .non)) H := E.set .non
  have hs : (σ.set i (some V.non)).set i (some (.ref p')) = σ := by
    rw [List.set_set]
    refine List.ext_getElem? fun j => ?_
    by_cases z : i = j
    · subst z; rw [List.getElem?_set_self (by rw [E.len]; exact hl), hp]
    · rw [List.getElem?_set_ne z]
  have E2 : En K H0 B (ρ.set i (Sl.fr .non)) (σ.set i (some .non)) (L2.upd H p' o) := by
    refine ⟨Ex.mut E1.ex b, E1.len, E1.fr, fun j e h => ?_, E1.sep⟩
    obtain ⟨q, q1, q2, q3, q4⟩ := E1.ow j e h
    have nq : q ≠ p' := fun z => by
      subst z
      by_cases z : i = j
      · subst z
        rw [List.getElem?_set_self hl] at h; cases h
      · rw [List.getElem?_set_ne z] at h q1
        exact E.sep i j d e q z hi h hp q1
    exact ⟨q, q1, q2, q3, q4.ex (Ex.refl _) (upd_ne nq)⟩
  have := E2.setO (i := i) (p := p') (d := d') b c od fun j e h1 h2 => by
    by_cases z : i = j
    · exact z.symm
    · rw [List.getElem?_set_ne z] at h1 h2
      exact (E.sep i j d e p' z hi h1 hp h2).elim
  rw [List.set_set, hs] at this
  exact this
/-- an object of one's own is frozen -/
theorem En.freeze (E : En K H0 B ρ σ H) (hi : ρ[i]? = some (.ow d)) : ∃ B2, En K H0 B2 (ρ.set i (Sl.fr d)) σ H ∧ ∀ B0, Gr B0 H0 B H → Gr B0 H0 B2 H := by
  obtain ⟨p, a, b, c, o⟩ := E.ow i d hi
  have hl := (List.getElem?_eq_some_iff.mp hi).1
  obtain ⟨u, hu, m⟩ := o.mut
  have sub : Ex (L2.upd B p u) H := fun x w h => by
    by_cases z : x = p
    · subst z; rw [upd_same] at h; cases h; exact hu
    · rw [upd_ne z] at h; exact E.ex _ _ h
  have eb : Ex B (L2.upd B p u) := Ex.new b
  refine ⟨L2.upd B p u, ⟨sub, by rw [List.length_set]; exact E.len, fun j e h => ?_, fun j e h => ?_, fun j k e e' q n h1 h2 h3 h4 => ?_⟩, fun B0 g => ⟨g.b.trans eb, g.h, sub, fun x w h m' q => ?_⟩⟩
  · by_cases z : i = j
    · subst z
      rw [List.getElem?_set_self hl] at h
      cases h
      exact ⟨_, a, by
        cases d with
        | lst ds => obtain ⟨xs, h, r⟩ := o; rw [h] at hu; cases hu; exact .lst (sq_of upd_same) (r.ex eb)
        | dic ds => obtain ⟨xs, h, r⟩ := o; rw [h] at hu; cases hu; exact .dic (.inl upd_same) (r.ex eb)
        | dit ds => obtain ⟨xs, h, r⟩ := o; rw [h] at hu; cases hu; exact .dit (.inl upd_same) (r.ex eb)
        | _ => exact o.elim⟩
    · rw [List.getElem?_set_ne z] at h
      obtain ⟨v, q, r⟩ := E.fr j e h
      exact ⟨v, q, r.ex eb⟩
  · by_cases z : i = j
    · subst z
      rw [List.getElem?_set_self hl] at h; cases h
    · rw [List.getElem?_set_ne z] at h
      obtain ⟨q, q1, q2, q3, q4⟩ := E.ow j e h
      have nq : q ≠ p := fun y => by subst y; exact E.sep i j d e q z hi h a q1
      exact ⟨q, q1, by rw [upd_ne nq]; exact q2, q3, q4.ex eb rfl⟩
  · have g : ∀ (m : Nat) (e : Dt), (ρ.set i (Sl.fr d))[m]? = some (Sl.ow e) → i ≠ m := fun m e h z => by
      subst z
      rw [List.getElem?_set_self hl] at h; cases h
    have z1 := g _ _ h1
    have z2 := g _ _ h2
    rw [List.getElem?_set_ne z1] at h1
    rw [List.getElem?_set_ne z2] at h2
    exact E.sep j k e e' q n h1 h2 h3 h4
  · have nx : x ≠ p := fun y => by subst y; rw [c] at h; cases h
    rw [upd_ne nx]
    exact g.o x w h m' q
/-- less is known of a slot -/
theorem En.forget (E : En K H0 B ρ σ H) : En K H0 B (ρ.set i Sl.un) σ H := by
  have g : ∀ (m : Nat) (s : Sl), s ≠ Sl.un → (ρ.set i Sl.un)[m]? = some s → ρ[m]? = some s := fun m s n h => by
    by_cases z : i = m
    · subst z
      have hl : i < ρ.length := by
        have := (List.getElem?_eq_some_iff.mp h).1
        rwa [List.length_set] at this
      rw [List.getElem?_set_self hl] at h
      cases h; exact absurd rfl n
    · rwa [List.getElem?_set_ne z] at h
  exact ⟨E.ex, by rw [List.length_set]; exact E.len, fun j e h => E.fr j e (g _ _ (fun z => nomatch z) h), fun j e h => E.ow j e (g _ _ (fun z => nomatch z) h), fun j k e e' q n h1 h2 => E.sep j k e e' q n (g _ _ (fun z => nomatch z) h1) (g _ _ (fun z => nomatch z) h2)⟩
end
end Z
set_option Elab.async false
set_option linter.all false
set_option maxRecDepth 100000
set_option maxHeartbeats 4000000
/-! What an expression comes to, in data. -/
namespace Z
open PySem PySem.Spec PyProof.Rows L2 Evl Y
/-- e comes to data of which Q is true -/
structure DE (X : Cx) (ρ : List Sl) (e : Expr) (Q : Dt → Prop) : Prop where
  run : ∀ H0 B σ H, En X.K H0 B ρ σ H → semE X e σ H fun v H2 => ∃ B2 d, Gr B H B2 H2 ∧ Rp X.K B2 v d ∧ Q d
/-- .. that may be an object of one's own: it is only read -/
structure DA (X : Cx) (ρ : List Sl) (e : Expr) (Q : Dt → Prop) : Prop where
  run : ∀ H0 B σ H, En X.K H0 B ρ σ H → semE X e σ H fun v H2 => ∃ B2 d, Gr B H B2 H2 ∧ Rp X.K H2 v d ∧ Q d
/-- .. that is new -/
structure DN (X : Cx) (ρ : List Sl) (e : Expr) (Q : Dt → Prop) : Prop where
  run : ∀ H0 B σ H, En X.K H0 B ρ σ H → semE X e σ H fun v H2 => ∃ B2 p d, Gr B H B2 H2 ∧ v = .ref p ∧ H p = none ∧ B2 p = none ∧ Od X.K B2 H2 p d ∧ Q d
structure DT (X : Cx) (ρ : List Sl) (e : Expr) (Q : Bool → Prop) : Prop where
  run : ∀ H0 B σ H, En X.K H0 B ρ σ H → semT X e σ H fun b H2 => ∃ B2, Gr B H B2 H2 ∧ Q b
structure DL (X : Cx) (ρ : List Sl) (es : List Expr) (Q : List Dt → Prop) : Prop where
  run : ∀ H0 B σ H, En X.K H0 B ρ σ H → semA X es σ H fun vs H2 => ∃ B2 ds, Gr B H B2 H2 ∧ RpL X.K B2 vs ds ∧ Q ds
section
variable {X : Cx} {ρ : List Sl} {e a b c : Expr} {es : List Expr} {Q Q' : Dt → Prop} {H0 B B2 H H2 : Hp} {σ : L2.St} {i : Nat} {d : Dt} {pos : Pos}
theorem DE.go (h : DE X ρ e Q) (E : En X.K H0 B ρ σ H) {R : VK} (k : ∀ B2 v d H2, Gr B H B2 H2 → En X.K H0 B2 ρ σ H2 → Rp X.K B2 v d → Q d → R v H2) : semE X e σ H R :=
  sem_mono (h.run _ _ _ _ E) fun v H2 ⟨B2, d, g, r, q⟩ => k B2 v d H2 g (E.gr g) r q
theorem DA.go (h : DA X ρ e Q) (E : En X.K H0 B ρ σ H) {R : VK} (k : ∀ B2 v d H2, Gr B H B2 H2 → En X.K H0 B2 ρ σ H2 → Rp X.K H2 v d → Q d → R v H2) : semE X e σ H R :=
  sem_mono (h.run _ _ _ _ E) fun v H2 ⟨B2, d, g, r, q⟩ => k B2 v d H2 g (E.gr g) r q
theorem DN.go (h : DN X ρ e Q) (E : En X.K H0 B ρ σ H) {R : VK} (k : ∀ B2 p d H2, Gr B H B2 H2 → En X.K H0 B2 ρ σ H2 → H p = none → B2 p = none → Od X.K B2 H2 p d → Q d → R (.ref p) H2) : semE X e σ H R :=
  sem_mono (h.run _ _ _ _ E) fun v H2 ⟨B2, p, d, g, ev, hp, hb, o, q⟩ => by subst ev; exact k B2 p d H2 g (E.gr g) hp hb o q
theorem DT.go {Q : Bool → Prop} (h : DT X ρ e Q) (E : En X.K H0 B ρ σ H) {R : Bool → Hp → Prop} (k : ∀ B2 b H2, Gr B H B2 H2 → En X.K H0 B2 ρ σ H2 → Q b → R b H2) : semT X e σ H R :=
  semT_mono (h.run _ _ _ _ E) fun b H2 ⟨B2, g, q⟩ => k B2 b H2 g (E.gr g) q
theorem DL.go {Q : List Dt → Prop} (h : DL X ρ es Q) (E : En X.K H0 B ρ σ H) {R : List V → Hp → Prop} (k : ∀ B2 vs ds H2, Gr B H B2 H2 → En X.K H0 B2 ρ σ H2 → RpL X.K B2 vs ds → Q ds → R vs H2) : semA X es σ H R :=
  semA_mono (h.run _ _ _ _ E) fun vs H2 ⟨B2, ds, g, r, q⟩ => k B2 vs ds H2 g (E.gr g) r q
theorem DE.weak (h : DE X ρ e Q) (k : ∀ d, Q d → Q' d) : DE X ρ e Q' := ⟨fun H0 B σ H E => h.go E fun B2 v d H2 g _ r q => ⟨B2, d, g, r, k d q⟩⟩
theorem DA.weak (h : DA X ρ e Q) (k : ∀ d, Q d → Q' d) : DA X ρ e Q' := ⟨fun H0 B σ H E => h.go E fun B2 v d H2 g _ r q => ⟨B2, d, g, r, k d q⟩⟩
theorem DN.weak (h : DN X ρ e Q) (k : ∀ d, Q d → Q' d) : DN X ρ e Q' := ⟨fun H0 B σ H E => h.go E fun B2 p d H2 g _ hp hb o q => ⟨B2, p, d, g, rfl, hp, hb, o, k d q⟩⟩
theorem DT.weak {Q Q' : Bool → Prop} (h : DT X ρ e Q) (k : ∀ d, Q d → Q' d) : DT X ρ e Q' := ⟨fun H0 B σ H E => h.go E fun B2 b H2 g _ q => ⟨B2, g, k b q⟩⟩
theorem DE.da (h : DE X ρ e Q) : DA X ρ e Q := ⟨fun H0 B σ H E => h.go E fun B2 v d H2 g E2 r q => ⟨B2, d, g, r.ex E2.ex, q⟩⟩
/-- read and made of tuples alone -/
theorem DA.de (h : DA X ρ e fun d => imm d = true ∧ Q d) : DE X ρ e Q := ⟨fun H0 B σ H E => h.go E fun B2 v d H2 g E2 r q => ⟨wT B2 H2, d, g.trans (Gr.tups E2.ex), r.flat wT_t q.1, q.2⟩⟩
/-- what is new, frozen -/
theorem Od.put {K : PySem.W.Frag} {B H : Hp} {p : Addr} {d : Dt} (o : Od K B H p d) (s : Ex B H) (hb : B p = none) : ∃ B2, Ex B B2 ∧ Ex B2 H ∧ Rp K B2 (.ref p) d ∧ ∀ a, a ≠ p → B2 a = B a := by
  obtain ⟨u, hu, m⟩ := o.mut
  refine ⟨upd B p u, Ex.new hb, fun x w h => ?_, ?_, fun a n => upd_ne n⟩
  · by_cases z : x = p
    · subst z; rw [upd_same] at h; cases h; exact hu
    · rw [upd_ne z] at h; exact s _ _ h
  · have eb : Ex B (upd B p u) := Ex.new hb
    cases d with
    | lst ds => obtain ⟨xs, h, r⟩ := o; rw [h] at hu; cases hu; exact .lst (sq_of upd_same) (r.ex eb)
    | dic ds => obtain ⟨xs, h, r⟩ := o; rw [h] at hu; cases hu; exact .dic (.inl upd_same) (r.ex eb)
    | dit ds => obtain ⟨xs, h, r⟩ := o; rw [h] at hu; cases hu; exact .dit (.inl upd_same) (r.ex eb)
    | _ => exact o.elim
theorem DN.de (h : DN X ρ e Q) : DE X ρ e Q := ⟨fun H0 B σ H E => h.go E fun B2 p d H2 g E2 hp hb o q => by
  obtain ⟨B3, e1, e2, r, ne⟩ := Od.put o E2.ex hb
  refine ⟨B3, d, ⟨g.b.trans e1, g.h, e2, fun a u h m z => ?_⟩, r, q⟩
  have na : a ≠ p := fun y => by subst y; rw [hp] at h; cases h
  rw [ne a na]
  exact g.o a u h m z⟩
theorem DN.da (h : DN X ρ e Q) : DA X ρ e Q := h.de.da
theorem DA.of (h : DE X ρ e Q) : DA X ρ e Q := h.da
theorem DA.ofN (h : DN X ρ e Q) : DA X ρ e Q := h.da
theorem DE.ofN (h : DN X ρ e Q) : DE X ρ e Q := h.de
theorem DE.ofA (h : DA X ρ e fun d => imm d = true ∧ Q d) : DE X ρ e Q := h.de
/-! ### names, constants -/
theorem d_nm (i : Nat) {x : Str} {d : Dt} (h : ρ[i]? = some (.fr d)) (q : Q d) (hN : X.N[i]? = some x := by rfl) (hv : Vis X.env.scope x := by first | exact Or.inl rfl | exact Or.inr (Or.inl rfl) | exact Or.inr (Or.inr rfl))
    (hd : (x == ("__debug__" : Str)) = false := by decide) (hcd : (x == ("__classdict__" : Str)) = false := by decide) : DE X ρ (.Name x pos) Q :=
  ⟨fun H0 B σ H E => by
    obtain ⟨v, hs, r⟩ := E.fr i d h
    exact sem_of (pe_var hN hv hd hcd) ⟨v, hs, B, d, Gr.refl E.ex, r, q⟩⟩
theorem d_nmO (i : Nat) {x : Str} {d : Dt} (h : ρ[i]? = some (.ow d)) (q : Q d) (hN : X.N[i]? = some x := by rfl) (hv : Vis X.env.scope x := by first | exact Or.inl rfl | exact Or.inr (Or.inl rfl) | exact Or.inr (Or.inr rfl))
    (hd : (x == ("__debug__" : Str)) = false := by decide) (hcd : (x == ("__classdict__" : Str)) = false := by decide) : DA X ρ (.Name x pos) Q :=
  ⟨fun H0 B σ H E => by
    obtain ⟨p, hs, _, _, o⟩ := E.ow i d h
    exact sem_of (pe_var hN hv hd hcd) ⟨.ref p, hs, B, d, Gr.refl E.ex, o.rp E.ex, q⟩⟩
theorem d_glob {u : Value} {nm : Str} {v : V} {d : Dt} (q : Q d) (hg : Gl X nm) (hm : X.mg nm = some u) (r : RelV v u) (hr : ∀ B, Rp X.K B v d) (hd : (nm == ("__debug__" : Str)) = false := by decide) : DE X ρ (.Name nm pos) Q :=
  ⟨fun H0 B σ H E => sem_of (pe_glob hg hm r hd) ⟨B, d, Gr.refl E.ex, hr B, q⟩⟩
theorem d_int {n : Int} {j} (q : Q (.int n)) : DE X ρ (.Constant (.int n) j pos) Q := ⟨fun H0 B σ H E => sem_of pe_int ⟨B, _, Gr.refl E.ex, .int n, q⟩⟩
theorem d_bl {n : Bool} {j} (q : Q (.bl n)) : DE X ρ (.Constant (.bool n) j pos) Q := ⟨fun H0 B σ H E => sem_of pe_bl ⟨B, _, Gr.refl E.ex, .bl n, q⟩⟩
theorem d_non {j} (q : Q .non) : DE X ρ (.Constant .none j pos) Q := ⟨fun H0 B σ H E => sem_of pe_non ⟨B, _, Gr.refl E.ex, .non, q⟩⟩
theorem d_str {n : Str} {j} (q : Q (.str n)) : DE X ρ (.Constant (.str n) j pos) Q := ⟨fun H0 B σ H E => sem_of pe_str ⟨B, _, Gr.refl E.ex, .str n, q⟩⟩
/-! ### operators -/
/-- what two values come to, by an operator's reading r, in data W -/
def WR (K : PySem.W.Frag) (r : R2) (W : Dt → Dt → (Dt → Prop) → Prop) : Prop := ∀ B H x y d1 d2 (Q : Dt → Prop) (R : VK), Ex B H → Rp K B x d1 → Rp K B y d2 → W d1 d2 Q → (∀ B2 v d H2, Gr B H B2 H2 → Rp K B2 v d → Q d → R v H2) → r x y H R
theorem d_op {op : Operator} {r : R2} {W : Dt → Dt → (Dt → Prop) → Prop} (ho : OpR X (binaryOp op) r) (hw : WR X.K r W) (h : DE X ρ a fun d1 => DE X ρ b fun d2 => W d1 d2 Q) : DE X ρ (.BinOp a op b pos) Q :=
  ⟨fun H0 B σ H E => sem_of (pe_op ho pe_sem pe_sem) (h.go E fun B2 v d H2 g E2 r q => q.go E2 fun B3 w d' H3 g3 E3 r3 q3 =>
    hw B3 H3 v w d d' Q _ E3.ex (r.ex g3.b) r3 q3 fun B4 z e H4 g4 r4 q4 => ⟨B4, e, (g.trans g3).trans g4, r4, q4⟩)⟩
/-- the numbers of data -/
def isI : Dt → Option Int | .int n => some n | _ => none
abbrev addQ (x y : Dt) (Q : Dt → Prop) : Prop := match x, y with
  | .int n, .int m => Q (.int (n + m))
  | .str s, .str t => s.length + t.length ≤ sizeLine ∧ Q (.str (s ++ t))
  | .tup xs, .tup ys => xs.length + ys.length ≤ sizeLine ∧ Q (.tup (xs ++ ys))
  | _, _ => False
theorem d_add (h : DE X ρ a fun d1 => DE X ρ b fun d2 => addQ d1 d2 Q) : DE X ρ (.BinOp a .Add b pos) Q :=
  d_op (OpR.or op_add (OpR.or op_add_str op_catA)) (W := addQ) (fun B H x y d1 d2 Q R s rx ry w k => by
    cases rx with
    | int n =>
      cases ry with
      | int m => exact .inl ⟨n, m, rfl, rfl, k B _ _ H (Gr.refl s) (.int _) w⟩
      | _ => exact w.elim
    | str n =>
      cases ry with
      | str m => exact .inr (.inl ⟨n, m, rfl, rfl, w.1, k B _ _ H (Gr.refl s) (.str _) w.2⟩)
      | _ => exact w.elim
    | tup ha hx =>
      cases ry with
      | tup hb hy =>
        refine .inr (.inr ⟨_, _, _, _, rfl, rfl, ex_t s ha, ex_t s hb, by rw [hx.len, hy.len]; exact w.1, fun z => ?_, fun z1 z2 => ?_, fun z1 z2 p hp => ?_⟩)
        · subst z; cases hx
          exact k B _ _ H (Gr.refl s) (.tup hb hy) w.2
        · subst z2; cases hy
          have w2 := w.2
          rw [List.append_nil] at w2
          exact k B _ _ H (Gr.refl s) (.tup ha hx) w2
        · exact k _ _ _ _ (Gr.new s hp) (.tup (st_of upd_same) ((hx.app hy).ex (Gr.new s hp).b)) w.2
      | _ => exact w.elim
    | _ => cases ry <;> exact w.elim) h
abbrev intQ (f : Int → Int → Int) (C : Int → Int → Prop) (x y : Dt) (Q : Dt → Prop) : Prop := match x, y with
  | .int n, .int m => C n m ∧ Q (.int (f n m))
  | _, _ => False
theorem wr_int {f : Int → Int → Int} {C : Int → Int → Prop} {K : PySem.W.Frag} : WR K (rI C fun n m => .int (f n m)) (intQ f C) := fun B H x y d1 d2 Q R s rx ry w k => by
  cases rx with
  | int n =>
    cases ry with
    | int m => exact ⟨n, m, rfl, rfl, w.1, k B _ _ H (Gr.refl s) (.int _) w.2⟩
    | _ => exact w.elim
  | _ => cases ry <;> exact w.elim
theorem wr_int0 {f : Int → Int → Int} {K : PySem.W.Frag} : WR K (rI0 fun n m => .int (f n m)) (intQ f fun _ _ => True) := fun B H x y d1 d2 Q R s rx ry w k => by
  cases rx with
  | int n =>
    cases ry with
    | int m => exact ⟨n, m, rfl, rfl, k B _ _ H (Gr.refl s) (.int _) w.2⟩
    | _ => exact w.elim
  | _ => cases ry <;> exact w.elim
theorem d_sub (h : DE X ρ a fun d1 => DE X ρ b fun d2 => intQ (· - ·) (fun _ _ => True) d1 d2 Q) : DE X ρ (.BinOp a .Sub b pos) Q := d_op op_sub wr_int0 h
theorem d_mul (h : DE X ρ a fun d1 => DE X ρ b fun d2 => intQ (· * ·) CMul d1 d2 Q) : DE X ρ (.BinOp a .Mult b pos) Q := d_op op_mul wr_int h
theorem d_mod (h : DE X ρ a fun d1 => DE X ρ b fun d2 => intQ (· % ·) (fun _ m => 0 < m) d1 d2 Q) : DE X ρ (.BinOp a .Mod b pos) Q := d_op op_mod wr_int h
theorem d_fdiv (h : DE X ρ a fun d1 => DE X ρ b fun d2 => intQ (fun n m => n.fdiv m) CDivN d1 d2 Q) : DE X ρ (.BinOp a .FloorDiv b pos) Q := d_op op_fdivN wr_int h
abbrev negQ (x : Dt) (Q : Dt → Prop) : Prop := match x with
  | .int n => Q (.int (-n))
  | _ => False
theorem d_neg (h : DE X ρ a fun d => negQ d Q) : DE X ρ (.UnaryOp .USub a pos) Q :=
  ⟨fun H0 B σ H E => sem_of (pe_un un_neg pe_sem) (h.go E fun B2 v d H2 g E2 r q => by
    cases r with
    | int n => exact ⟨n, rfl, B2, _, g, .int _, q⟩
    | _ => exact q.elim)⟩
/-! ### comparisons -/
mutual
def toP : Dt → PyData
  | .non => .none
  | .bl b => .bool b
  | .int n => .int n
  | .str s => .str s
  | .tup ds => .tuple (toPL ds)
  | .tz ds => .tuple (toPL ds)
  | .lst ds => .list (toPL ds)
  | _ => .dict []
def toPL : List Dt → List PyData
  | [] => []
  | d :: ds => toP d :: toPL ds
end
mutual
/-- data without dicts, objects -/
def isP : Dt → Bool
  | .non => true | .bl _ => true | .int _ => true | .str _ => true
  | .tup ds => isPL ds
  | .tz ds => isPL ds
  | .lst ds => isPL ds
  | _ => false
def isPL : List Dt → Bool
  | [] => true
  | d :: ds => isP d && isPL ds
end
theorem isP_dic {ds} (h : isP (.dic ds) = true) : False := by simp [isP] at h
theorem isP_dit {ds} (h : isP (.dit ds) = true) : False := by simp [isP] at h
theorem isP_tx {ds} (h : isP (.tx ds) = true) : False := by simp [isP] at h
theorem isP_dk {a b f g} (h : isP (.dk a b f g) = true) : False := by simp [isP] at h
theorem isP_obj {C ds} (h : isP (.obj C ds) = true) : False := by simp [isP] at h
theorem isP_tz {ds : List Dt} (h : isP (.tz ds) = true) : isPL ds = true := by simpa [isP] using h
theorem toP_tz {ds : List Dt} : toP (.tz ds) = .tuple (toPL ds) := by simp [toP]
theorem isP_tup {ds : List Dt} (h : isP (.tup ds) = true) : isPL ds = true := by simpa [isP] using h
theorem isP_lst {ds : List Dt} (h : isP (.lst ds) = true) : isPL ds = true := by simpa [isP] using h
theorem isPL_cons {d : Dt} {ds : List Dt} (h : isPL (d :: ds) = true) : isP d = true ∧ isPL ds = true := by simpa [isPL] using h
theorem toP_tup {ds : List Dt} : toP (.tup ds) = .tuple (toPL ds) := by simp [toP]
theorem toP_lst {ds : List Dt} : toP (.lst ds) = .list (toPL ds) := by simp [toP]
theorem toPL_cons {d : Dt} {ds : List Dt} : toPL (d :: ds) = toP d :: toPL ds := by simp [toPL]
theorem toPL_nil : toPL [] = [] := by simp [toPL]
mutual
theorem Rp.dp {K : PySem.W.Frag} {B : Hp} : ∀ {v : V} {d : Dt}, Rp K B v d → isP d = true → Dp K B v (toP d)
  | _, _, .non, _ => .non
  | _, _, .bl b, _ => .bl b
  | _, _, .int n, _ => .int n
  | _, _, .str s, _ => .str s
  | _, _, .tup a h, i => toP_tup ▸ .tup a (RpL.dp h (isP_tup i))
  | _, _, .tz a h, i => toP_tz ▸ .tup a.st (RpL.dp h (isP_tz i))
  | _, _, .lst a h, i => toP_lst ▸ .lst a (RpL.dp h (isP_lst i))
  | _, _, .dic _ _, i => (isP_dic i).elim
  | _, _, .dit _ _, i => (isP_dit i).elim
  | _, _, .obj _ _, i => (isP_obj i).elim
  | _, _, .dk _ _ _, i => (isP_dk i).elim
  | _, _, .tx _ _, i => (isP_tx i).elim
theorem RpL.dp {K : PySem.W.Frag} {B : Hp} : ∀ {v : List V} {d : List Dt}, RpL K B v d → isPL d = true → DpAll K B v (toPL d)
  | _, _, .nil, _ => toPL_nil ▸ .nil
  | _, _, .cons a b, i => toPL_cons ▸ .cons (Rp.dp a (isPL_cons i).1) (RpL.dp b (isPL_cons i).2)
end
/-- what == says -/
abbrev eqQ (f : Bool → Bool) (x y : Dt) (Q : Bool → Prop) : Prop := match x, y with
  | .int n, .int m => Q (f (decide (n = m)))
  | .str n, .str m => Q (f (decide (n = m)))
  | .bl n, .bl m => Q (f (decide (n = m)))
  | x, y => (isP x = true ∧ isP y = true ∧ SeqAt.shaped (toP x) = true ∧ SeqAt.shaped (toP y) = true) ∧ Q (f (PyData.eqv (toP x) (toP y)))
/-- what a comparison comes to -/
def WC (K : PySem.W.Frag) (r : R2) (W : Dt → Dt → (Bool → Prop) → Prop) : Prop := ∀ B H x y d1 d2 (Q : Bool → Prop) (R : VK), Ex B H → Rp K B x d1 → Rp K B y d2 → W d1 d2 Q → (∀ b, Q b → R (.bl b) H) → r x y H R
theorem WC.wr {K : PySem.W.Frag} {r : R2} {W : Dt → Dt → (Bool → Prop) → Prop} (h : WC K r W) : WR K r fun x y Q => W x y fun b => Q (.bl b) := fun B H x y d1 d2 Q R s rx ry w k => h B H x y d1 d2 _ R s rx ry w fun b q => k B _ _ H (Gr.refl s) (.bl b) q
theorem d_cmp {op : CmpOp} {r : R2} {W : Dt → Dt → (Bool → Prop) → Prop} (ho : OpR X (compareOp op) r) (hw : WC X.K r W) (h : DA X ρ a fun d1 => DA X ρ b fun d2 => W d1 d2 fun b => Q (.bl b)) (hm : behindInMarks op b = false := by rfl) : DE X ρ (.Compare a [op] [b] pos) Q :=
  ⟨fun H0 B σ H E => sem_of (pe_cmpR ho pe_sem pe_sem hm) (h.go E fun B2 v d H2 g E2 r q => q.go E2 fun B3 w d' H3 g3 E3 r3 q3 =>
    hw H3 H3 v w d d' _ _ (Ex.refl _) (r.ex g3.h) r3 q3 fun b q4 => ⟨B3, .bl b, g.trans g3, .bl b, q4⟩)⟩
theorem t_cmp {op : CmpOp} {r : R2} {W : Dt → Dt → (Bool → Prop) → Prop} {Q : Bool → Prop} (ho : OpR X (compareOp op) r) (hw : WC X.K r W) (h : DA X ρ a fun d1 => DA X ρ b fun d2 => W d1 d2 Q) (hm : behindInMarks op b = false := by rfl) : DT X ρ (.Compare a [op] [b] pos) Q :=
  ⟨fun H0 B σ H E => semT_of (pt_cmpR ho pe_sem pe_sem hm) (h.go E fun B2 v d H2 g E2 r q => q.go E2 fun B3 w d' H3 g3 E3 r3 q3 =>
    hw H3 H3 v w d d' _ _ (Ex.refl _) (r.ex g3.h) r3 q3 fun b q4 => ⟨b, rfl, B3, g.trans g3, q4⟩)⟩
theorem wc_eq {K : PySem.W.Frag} : WC K (fun x y H Q => rEq x y H Q ∨ rEqD K x y H Q) (eqQ id) := fun B H x y d1 d2 Q R s rx ry w k => by
  have gen : ((isP d1 = true ∧ isP d2 = true ∧ SeqAt.shaped (toP d1) = true ∧ SeqAt.shaped (toP d2) = true) ∧ Q (id (PyData.eqv (toP d1) (toP d2)))) → rEqD K x y H R := fun w => ⟨_, _, (rx.ex s).dp w.1.1, (ry.ex s).dp w.1.2.1, w.1.2.2.1, w.1.2.2.2, k _ w.2⟩
  unfold eqQ at w
  split at w
  · cases rx; cases ry; exact .inl ⟨rfl, k _ (by simpa using w)⟩
  · cases rx; cases ry; exact .inl ⟨rfl, k _ (by simpa using w)⟩
  · cases rx; cases ry; exact .inl ⟨rfl, k _ (by simpa using w)⟩
  · exact .inr (gen w)
theorem wc_ne {K : PySem.W.Frag} : WC K (fun x y H Q => rNe x y H Q ∨ rNeD K x y H Q) (eqQ not) := fun B H x y d1 d2 Q R s rx ry w k => by
  have gen : ((isP d1 = true ∧ isP d2 = true ∧ SeqAt.shaped (toP d1) = true ∧ SeqAt.shaped (toP d2) = true) ∧ Q (not (PyData.eqv (toP d1) (toP d2)))) → rNeD K x y H R := fun w => ⟨_, _, (rx.ex s).dp w.1.1, (ry.ex s).dp w.1.2.1, w.1.2.2.1, w.1.2.2.2, k _ w.2⟩
  unfold eqQ at w
  split at w
  · cases rx; cases ry; exact .inl ⟨rfl, k _ (by simpa using w)⟩
  · cases rx; cases ry; exact .inl ⟨rfl, k _ (by simpa using w)⟩
  · cases rx; cases ry; exact .inl ⟨rfl, k _ (by simpa using w)⟩
  · exact .inr (gen w)
abbrev ordQ (f : Int → Int → Bool) (x y : Dt) (Q : Bool → Prop) : Prop := match x, y with
  | .int n, .int m => Q (f n m)
  | _, _ => False
theorem wc_ord {f : Int → Int → Bool} {K : PySem.W.Frag} : WC K (rI0 fun n m => .bl (f n m)) (ordQ f) := fun B H x y d1 d2 Q R s rx ry w k => by
  cases rx with
  | int n =>
    cases ry with
    | int m => exact ⟨n, m, rfl, rfl, k _ w⟩
    | _ => exact w.elim
  | _ => cases ry <;> exact w.elim
theorem d_lt (h : DA X ρ a fun d1 => DA X ρ b fun d2 => ordQ (fun n m => decide (n < m)) d1 d2 fun b => Q (.bl b)) : DE X ρ (.Compare a [.Lt] [b] pos) Q := d_cmp op_lt wc_ord h (nomark _)
theorem d_gt (h : DA X ρ a fun d1 => DA X ρ b fun d2 => ordQ (fun n m => decide (m < n)) d1 d2 fun b => Q (.bl b)) : DE X ρ (.Compare a [.Gt] [b] pos) Q := d_cmp op_gt wc_ord h (nomark _)
theorem d_le (h : DA X ρ a fun d1 => DA X ρ b fun d2 => ordQ (fun n m => decide (n ≤ m)) d1 d2 fun b => Q (.bl b)) : DE X ρ (.Compare a [.LtE] [b] pos) Q := d_cmp op_le wc_ord h (nomark _)
theorem d_ge (h : DA X ρ a fun d1 => DA X ρ b fun d2 => ordQ (fun n m => decide (m ≤ n)) d1 d2 fun b => Q (.bl b)) : DE X ρ (.Compare a [.GtE] [b] pos) Q := d_cmp op_ge wc_ord h (nomark _)
theorem t_lt {Q : Bool → Prop} (h : DA X ρ a fun d1 => DA X ρ b fun d2 => ordQ (fun n m => decide (n < m)) d1 d2 Q) : DT X ρ (.Compare a [.Lt] [b] pos) Q := t_cmp op_lt wc_ord h (nomark _)
theorem t_gt {Q : Bool → Prop} (h : DA X ρ a fun d1 => DA X ρ b fun d2 => ordQ (fun n m => decide (m < n)) d1 d2 Q) : DT X ρ (.Compare a [.Gt] [b] pos) Q := t_cmp op_gt wc_ord h (nomark _)
theorem t_le {Q : Bool → Prop} (h : DA X ρ a fun d1 => DA X ρ b fun d2 => ordQ (fun n m => decide (n ≤ m)) d1 d2 Q) : DT X ρ (.Compare a [.LtE] [b] pos) Q := t_cmp op_le wc_ord h (nomark _)
theorem t_ge {Q : Bool → Prop} (h : DA X ρ a fun d1 => DA X ρ b fun d2 => ordQ (fun n m => decide (m ≤ n)) d1 d2 Q) : DT X ρ (.Compare a [.GtE] [b] pos) Q := t_cmp op_ge wc_ord h (nomark _)
theorem d_eq (hu : X.A.units + 64 < cLine) (h : DA X ρ a fun d1 => DA X ρ b fun d2 => eqQ id d1 d2 fun b => Q (.bl b)) : DE X ρ (.Compare a [.Eq] [b] pos) Q := d_cmp (OpR.or op_eq (op_eqD hu)) wc_eq h (nomark _)
theorem d_ne (hu : X.A.units + 64 < cLine) (h : DA X ρ a fun d1 => DA X ρ b fun d2 => eqQ not d1 d2 fun b => Q (.bl b)) : DE X ρ (.Compare a [.NotEq] [b] pos) Q := d_cmp (OpR.or op_ne (op_neD hu)) wc_ne h (nomark _)
theorem t_eq {Q : Bool → Prop} (hu : X.A.units + 64 < cLine) (h : DA X ρ a fun d1 => DA X ρ b fun d2 => eqQ id d1 d2 Q) : DT X ρ (.Compare a [.Eq] [b] pos) Q := t_cmp (OpR.or op_eq (op_eqD hu)) wc_eq h (nomark _)
theorem t_ne {Q : Bool → Prop} (hu : X.A.units + 64 < cLine) (h : DA X ρ a fun d1 => DA X ρ b fun d2 => eqQ not d1 d2 Q) : DT X ρ (.Compare a [.NotEq] [b] pos) Q := t_cmp (OpR.or op_ne (op_neD hu)) wc_ne h (nomark _)
/-! ### tests -/
theorem t_not {Q : Bool → Prop} (h : DT X ρ a fun b => Q (!b)) : DT X ρ (.UnaryOp .Not a pos) Q := ⟨fun H0 B σ H E => semT_of (pt_not pt_sem) (h.go E fun B2 b H2 g _ q => ⟨B2, g, q⟩)⟩
/-- the truth of data -/
abbrev truQ (x : Dt) (Q : Bool → Prop) : Prop := match x with
  | .non => Q false
  | .bl b => Q b
  | .int n => Q (n != 0)
  | .str s => s.length ≤ sizeLine ∧ Q ((s.length : Int) != 0)
  | .tup ds => Q (!ds.isEmpty)
  | .lst ds => Q (!ds.isEmpty)
  | _ => False
theorem emp_eq {α β : Type} {R : α → β → Prop} {as : List α} {bs : List β} (h : All2 R as bs) : as.isEmpty = bs.isEmpty := by
  have := h.len
  cases as <;> cases bs <;> simp_all
theorem t_v {Q : Bool → Prop} (h : DA X ρ e fun d => truQ d Q) (he : ∀ whole, isTrue e X.env whole = (do let v ← whole; standAt e.pos; holding [v] (truthy v)) := by intro _; rfl) : DT X ρ e Q :=
  ⟨fun H0 B σ H E => semT_of (pt_truth pe_sem he) (h.go E fun B2 v d H2 g E2 r q => by
    cases r with
    | non => exact ⟨_, rfl, B2, g, q⟩
    | bl b => exact ⟨_, rfl, B2, g, q⟩
    | int n => exact ⟨_, rfl, B2, g, q⟩
    | str n => exact ⟨_, ⟨q.1, rfl⟩, B2, g, q.2⟩
    | tup a r => exact ⟨_, .inr (.inl ⟨_, a, rfl⟩), B2, g, by rw [emp_eq r.all2]; exact q⟩
    | lst a r => exact ⟨_, .inl ⟨_, a, rfl⟩, B2, g, by rw [emp_eq r.all2]; exact q⟩
    | _ => exact q.elim)⟩
end
end Z
set_option Elab.async false
set_option linter.all false
set_option maxRecDepth 100000
set_option maxHeartbeats 4000000
namespace Z
open PySem PySem.Spec PyProof.Rows L2 Evl Y
section
variable {X : Cx} {ρ : List Sl} {e a b c o : Expr} {es : List Expr} {Q Q' : Dt → Prop} {H0 B B2 H H2 : Hp} {σ : L2.St} {i : Nat} {d : Dt} {pos p2 q1 q2 apos cpos : Pos}
theorem two_t {A B' : Prop} (h : A) : (true = true → A) ∧ (true = false → B') := ⟨fun _ => h, fun z => Bool.noConfusion z⟩
theorem two_f {A B' : Prop} (h : B') : (false = true → A) ∧ (false = false → B') := ⟨fun z => Bool.noConfusion z, fun _ => h⟩
/-! ### and, or, if .. else -/
structure DW (X : Cx) (ρ : List Sl) (e : Expr) (Q : Bool → Prop) : Prop where
  run : ∀ H0 B σ H, En X.K H0 B ρ σ H → semW X e σ H fun b H2 => ∃ B2, Gr B H B2 H2 ∧ Q b
theorem DW.dt {Q : Bool → Prop} (h : DW X ρ e Q) : DT X ρ e Q := ⟨fun H0 B σ H E => semT_of (PW.pt pw_sem) (h.run _ _ _ _ E)⟩
theorem w_and1 {Q : Bool → Prop} (h : DT X ρ a Q) : DW X ρ (.BoolOp .And [a] pos) Q := ⟨fun H0 B σ H E => semW_of (pw_and1 pt_sem) (h.run _ _ _ _ E)⟩
theorem w_or1 {Q : Bool → Prop} (h : DT X ρ a Q) : DW X ρ (.BoolOp .Or [a] pos) Q := ⟨fun H0 B σ H E => semW_of (pw_or1 pt_sem) (h.run _ _ _ _ E)⟩
theorem w_and {Q : Bool → Prop} (h : DT X ρ a fun x => (x = true → DW X ρ (.BoolOp .And (b :: es) pos) Q) ∧ (x = false → Q false)) : DW X ρ (.BoolOp .And (a :: b :: es) pos) Q :=
  ⟨fun H0 B σ H E => semW_of (pw_and pt_sem pw_sem) (h.go E fun B2 x H2 g E2 q => by
    cases x with
    | true => exact semW_mono ((q.1 rfl).run _ _ _ _ E2) fun y H3 ⟨B3, g3, q3⟩ => ⟨B3, g.trans g3, q3⟩
    | false => exact ⟨B2, g, q.2 rfl⟩)⟩
theorem w_or {Q : Bool → Prop} (h : DT X ρ a fun x => (x = true → Q true) ∧ (x = false → DW X ρ (.BoolOp .Or (b :: es) pos) Q)) : DW X ρ (.BoolOp .Or (a :: b :: es) pos) Q :=
  ⟨fun H0 B σ H E => semW_of (pw_or pt_sem pw_sem) (h.go E fun B2 x H2 g E2 q => by
    cases x with
    | true => exact ⟨B2, g, q.1 rfl⟩
    | false => exact semW_mono ((q.2 rfl).run _ _ _ _ E2) fun y H3 ⟨B3, g3, q3⟩ => ⟨B3, g.trans g3, q3⟩)⟩
theorem t_and {Q : Bool → Prop} (h : DT X ρ a fun x => (x = true → DT X ρ b Q) ∧ (x = false → Q false)) : DT X ρ (.BoolOp .And [a, b] pos) Q := (w_and (h.weak fun _ q => ⟨fun z => w_and1 (q.1 z), q.2⟩)).dt
theorem t_or {Q : Bool → Prop} (h : DT X ρ a fun x => (x = true → Q true) ∧ (x = false → DT X ρ b Q)) : DT X ρ (.BoolOp .Or [a, b] pos) Q := (w_or (h.weak fun _ q => ⟨q.1, fun z => w_or1 (q.2 z)⟩)).dt
/-- a truth value -/
abbrev blQ (d : Dt) (f : Bool → Prop) : Prop := match d with
  | .bl x => f x
  | _ => False
theorem d_one {op} (h : DE X ρ a Q) : DE X ρ (.BoolOp op [a] pos) Q := ⟨fun H0 B σ H E => sem_of (pe_one pe_sem) (h.run _ _ _ _ E)⟩
theorem d_andN (h : DE X ρ a fun d => blQ d fun x => (x = true → DE X ρ (.BoolOp .And (b :: es) pos) Q) ∧ (x = false → Q (.bl false))) : DE X ρ (.BoolOp .And (a :: b :: es) pos) Q :=
  ⟨fun H0 B σ H E => sem_of (pe_and pe_sem pe_sem) (h.go E fun B2 v d H2 g E2 r q => by
    cases r with
    | bl x =>
      refine ⟨x, rfl, ?_⟩
      cases x with
      | true => exact (q.1 rfl).go E2 fun B3 w d' H3 g3 _ r3 q3 => ⟨B3, d', g.trans g3, r3, q3⟩
      | false => exact ⟨B2, _, g, .bl false, q.2 rfl⟩
    | _ => exact q.elim)⟩
theorem d_orN (h : DE X ρ a fun d => blQ d fun x => (x = true → Q (.bl true)) ∧ (x = false → DE X ρ (.BoolOp .Or (b :: es) pos) Q)) : DE X ρ (.BoolOp .Or (a :: b :: es) pos) Q :=
  ⟨fun H0 B σ H E => sem_of (pe_or pe_sem pe_sem) (h.go E fun B2 v d H2 g E2 r q => by
    cases r with
    | bl x =>
      refine ⟨x, rfl, ?_⟩
      cases x with
      | true => exact ⟨B2, _, g, .bl true, q.1 rfl⟩
      | false => exact (q.2 rfl).go E2 fun B3 w d' H3 g3 _ r3 q3 => ⟨B3, d', g.trans g3, r3, q3⟩
    | _ => exact q.elim)⟩
theorem d_and (h : DE X ρ a fun d => blQ d fun x => (x = true → DE X ρ b Q) ∧ (x = false → Q (.bl false))) : DE X ρ (.BoolOp .And [a, b] pos) Q := d_andN (h.weak fun d q => by
  cases d with
  | bl x => exact ⟨fun z => d_one (q.1 z), q.2⟩
  | _ => exact q)
theorem d_or (h : DE X ρ a fun d => blQ d fun x => (x = true → Q (.bl true)) ∧ (x = false → DE X ρ b Q)) : DE X ρ (.BoolOp .Or [a, b] pos) Q := d_orN (h.weak fun d q => by
  cases d with
  | bl x => exact ⟨q.1, fun z => d_one (q.2 z)⟩
  | _ => exact q)
theorem d_not (h : DE X ρ a fun d => blQ d fun x => Q (.bl (!x))) : DE X ρ (.UnaryOp .Not a pos) Q :=
  ⟨fun H0 B σ H E => sem_of (pe_not pe_sem) (h.go E fun B2 v d H2 g E2 r q => by
    cases r with
    | bl x => exact ⟨x, rfl, B2, _, g, .bl _, q⟩
    | _ => exact q.elim)⟩
theorem d_if (h : DT X ρ c fun x => (x = true → DE X ρ a Q) ∧ (x = false → DE X ρ b Q)) : DE X ρ (.IfExp c a b pos) Q :=
  ⟨fun H0 B σ H E => sem_of (pe_ifExp pt_sem pe_sem pe_sem) (h.go E fun B2 x H2 g E2 q => by
    cases x with
    | true => exact (q.1 rfl).go E2 fun B3 w d' H3 g3 _ r3 q3 => ⟨B3, d', g.trans g3, r3, q3⟩
    | false => exact (q.2 rfl).go E2 fun B3 w d' H3 g3 _ r3 q3 => ⟨B3, d', g.trans g3, r3, q3⟩)⟩
/-! ### arguments, displays -/
theorem l_nil {Q : List Dt → Prop} (q : Q []) : DL X ρ [] Q := ⟨fun H0 B σ H E => semA_of pa_nil ⟨B, [], Gr.refl E.ex, .nil, q⟩⟩
theorem l_cons {Q : List Dt → Prop} (h : DE X ρ e fun d => DL X ρ es fun ds => Q (d :: ds)) (hs : starEach (e :: es) X.env = (false, eval e X.env) :: starEach es X.env := by rfl) : DL X ρ (e :: es) Q :=
  ⟨fun H0 B σ H E => semA_of (pa_cons pe_sem pa_sem hs) (h.go E fun B2 v d H2 g E2 r q => q.go E2 fun B3 vs ds H3 g3 E3 rs q3 => ⟨B3, _, g.trans g3, .cons (r.ex g3.b) rs, q3⟩)⟩
theorem d_tup {x1} (h : DL X ρ es fun ds => ds.length ≤ 100000 ∧ Q (.tup ds)) : DE X ρ (.Tuple es x1 pos) Q :=
  ⟨fun H0 B σ H E => sem_of (pe_tup pa_sem) (h.go E fun B2 vs ds H2 g E2 rs q => ⟨sz_of (by rw [rs.len]; exact q.1), fun p hp => ⟨_, _, g.trans (Gr.new E2.ex hp), .tup (st_of upd_same) (rs.ex (Gr.new E2.ex hp).b), q.2⟩⟩)⟩
theorem n_lst (h : DL X ρ es fun ds => ds.length ≤ 100000 ∧ Q (.lst ds)) : DN X ρ (.List es pos) Q :=
  ⟨fun H0 B σ H E => sem_of (pe_lst pa_sem) (h.go E fun B2 vs ds H2 g E2 rs q => ⟨sz_of (by rw [rs.len]; exact q.1), fun p hp => by
    have hb : B2 p = none := fresh_back E2.ex hp
    exact ⟨B2, p, .lst ds, ⟨g.b, g.h.trans (Ex.new hp), Ex.mut E2.ex hb, g.o⟩, rfl, fresh_back g.h hp, hb, ⟨vs, upd_same, rs⟩, q.2⟩⟩)⟩
/-! ### items, slices -/
theorem ixN_lt {n : Nat} {i : Int} {j : Nat} (h : ixN n i = some j) : True := True.intro
theorem RpL.ix {K : PySem.W.Frag} {vs : List V} {ds : List Dt} {n : Int} {d : Dt} (r : RpL K B vs ds) (h : atI ds n = some d) : ∃ v, atI vs n = some v ∧ Rp K B v d := by
  unfold atI at h ⊢
  rw [r.len]
  cases e : ixN ds.length n with
  | none => rw [e] at h; cases h
  | some j =>
    rw [e] at h
    obtain ⟨v, h1, h2⟩ := r.at' (show ds[j]? = some d from h)
    exact ⟨v, h1, h2⟩
abbrev ixQ (x y : Dt) (Q : Dt → Prop) : Prop := match x, y with
  | .tup ds, .int n => ∃ d, atI ds n = some d ∧ Q d
  | .lst ds, .int n => ∃ d, atI ds n = some d ∧ Q d
  | .str s, .int n => s.length ≤ 100000 ∧ ∃ k, atI s.cps.toList n = some k ∧ Q (.str ⟨#[k]⟩)
  | _, _ => False
theorem d_ix (h : DE X ρ a fun x => DE X ρ b fun y => ixQ x y Q) (hs : PlainIx b := by exact fun _ _ => rfl) : DE X ρ (.Subscript a b pos) Q :=
  ⟨fun H0 B σ H E => sem_of (pe_ix (IxR.or ix_list (IxR.or ix_tup ix_str)) pe_sem pe_sem hs) (h.go E fun B2 v d H2 g E2 r q => q.go E2 fun B3 w d' H3 g3 E3 r3 q3 => by
    have r := r.ex g3.b
    cases r3 with
    | int n =>
      cases r with
      | tup ha hx =>
        obtain ⟨z, hz, q4⟩ := q3
        obtain ⟨u, hu, ru⟩ := hx.ix hz
        exact .inr (.inl ⟨_, _, n, u, rfl, rfl, ex_t E3.ex ha, hu, B3, z, g.trans g3, ru, q4⟩)
      | lst ha hx =>
        obtain ⟨z, hz, q4⟩ := q3
        obtain ⟨u, hu, ru⟩ := hx.ix hz
        exact .inl ⟨_, _, n, u, rfl, rfl, ex_l E3.ex ha, hu, B3, z, g.trans g3, ru, q4⟩
      | str s =>
        obtain ⟨hl, k, hk, q4⟩ := q3
        exact .inr (.inr ⟨s, n, k, rfl, rfl, sz_of hl, hk, B3, _, g.trans g3, .str _, q4⟩)
      | _ => exact q3.elim
    | _ => cases r <;> exact q3.elim)⟩
/-- .. of what may be one's own -/
theorem d_ixA (h : DA X ρ a fun x => DE X ρ b fun y => ixQ x y fun d => imm d = true ∧ Q d) (hs : PlainIx b := by exact fun _ _ => rfl) : DE X ρ (.Subscript a b pos) Q := DA.de ⟨fun H0 B σ H E => sem_of (pe_ix (IxR.or ix_list (IxR.or ix_tup ix_str)) pe_sem pe_sem hs) (h.go E fun B2 v d H2 g E2 r q => q.go E2 fun B3 w d' H3 g3 E3 r3 q3 => by
    have r := r.ex g3.h
    cases r3 with
    | int n =>
      cases r with
      | tup ha hx =>
        obtain ⟨z, hz, q4⟩ := q3
        obtain ⟨u, hu, ru⟩ := hx.ix hz
        exact .inr (.inl ⟨_, _, n, u, rfl, rfl, ha, hu, B3, z, g.trans g3, ru, q4⟩)
      | lst ha hx =>
        obtain ⟨z, hz, q4⟩ := q3
        obtain ⟨u, hu, ru⟩ := hx.ix hz
        exact .inl ⟨_, _, n, u, rfl, rfl, ha, hu, B3, z, g.trans g3, ru, q4⟩
      | str s =>
        obtain ⟨hl, k, hk, q4⟩ := q3
        exact .inr (.inr ⟨s, n, k, rfl, rfl, sz_of hl, hk, B3, _, g.trans g3, .str _, q4⟩)
      | _ => exact q3.elim
    | _ => cases r <;> exact q3.elim)⟩
/-- keys of dicts -/
abbrev keyD : Dt → Option Key
  | .int n => some (.inl n)
  | .str s => some (.inr s)
  | _ => none
theorem Rp.key {K : PySem.W.Frag} {v : V} {d : Dt} {k : Key} (r : Rp K B v d) (h : keyD d = some k) : v = kV k := by
  cases r with
  | int n => cases h; rfl
  | str s => cases h; rfl
  | _ => cases h
def valD (kvs : List (Key × Dt)) (k : Key) : Option Dt := (kvs.find? fun kv => decide (kv.1 = k)).map (·.2)
theorem RpK.val {K : PySem.W.Frag} {k : Key} : ∀ {ys : List (Key × V)} {kvs : List (Key × Dt)}, RpK K B ys kvs → (valV ys k = none ∧ valD kvs k = none) ∨ ∃ v d, valV ys k = some v ∧ valD kvs k = some d ∧ Rp K B v d
  | _, _, .nil => .inl ⟨rfl, rfl⟩
  | _, _, .cons (k := k') (v := v) (d := d) (vs := vs) (ds := ds) r t => by
    by_cases z : k' = k
    · refine .inr ⟨v, d, ?_, ?_, r⟩
      · unfold valV; rw [List.find?_cons_of_pos (by simpa using z)]; rfl
      · unfold valD; rw [List.find?_cons_of_pos (by simpa using z)]; rfl
    · have e1 : valV ((k', v) :: vs) k = valV vs k := by unfold valV; rw [List.find?_cons_of_neg (by simpa using z)]
      have e2 : valD ((k', d) :: ds) k = valD ds k := by unfold valD; rw [List.find?_cons_of_neg (by simpa using z)]
      rw [e1, e2]
      exact RpK.val t
abbrev getQ (x y : Dt) (Q : Dt → Prop) : Prop := match x with
  | .dic kvs => ∃ k d, keyD y = some k ∧ valD kvs k = some d ∧ Q d
  | _ => False
theorem d_dget (hu : X.A.units + 1 < cLine) (h : DE X ρ a fun x => DE X ρ b fun y => getQ x y Q) (hs : NoSl b := by exact fun _ _ => rfl) : DE X ρ (.Subscript a b pos) Q :=
  ⟨fun H0 B σ H E => sem_of (pe_dget hu pe_sem pe_sem hs) (h.go E fun B2 v d H2 g E2 r q => q.go E2 fun B3 w d' H3 g3 E3 r3 q3 => by
    have r := r.ex g3.b
    cases r with
    | dic ha hx =>
      obtain ⟨k, z, hk, hz, q4⟩ := q3
      rcases hx.val (k := k) with ⟨_, h2⟩ | ⟨u, z', h1, h2, ru⟩
      · rw [hz] at h2; cases h2
      · rw [hz] at h2; cases h2
        refine ⟨_, u, rfl, ?_, B3, z, g.trans g3, ru, q4⟩
        rw [← h1, r3.key hk]
        exact rd_get (rd_mono ha E3.ex)
    | _ => exact q3.elim)⟩
theorem d_dgetA (hu : X.A.units + 1 < cLine) (h : DA X ρ a fun x => DE X ρ b fun y => getQ x y fun d => imm d = true ∧ Q d) (hs : NoSl b := by exact fun _ _ => rfl) : DE X ρ (.Subscript a b pos) Q :=
  DA.de ⟨fun H0 B σ H E => sem_of (pe_dget hu pe_sem pe_sem hs) (h.go E fun B2 v d H2 g E2 r q => q.go E2 fun B3 w d' H3 g3 E3 r3 q3 => by
    have r := r.ex g3.h
    cases r with
    | dic ha hx =>
      obtain ⟨k, z, hk, hz, q4⟩ := q3
      rcases hx.val (k := k) with ⟨_, h2⟩ | ⟨u, z', h1, h2, ru⟩
      · rw [hz] at h2; cases h2
      · rw [hz] at h2; cases h2
        refine ⟨_, u, rfl, ?_, B3, z, g.trans g3, ru, q4⟩
        rw [← h1, r3.key hk]
        exact rd_get ha
    | _ => exact q3.elim)⟩
/-- y in d, y not in d -/
abbrev dinQ (f : Bool → Bool) (y x : Dt) (Q : Bool → Prop) : Prop := match x with
  | .dic kvs => ∃ k, keyD y = some k ∧ Q (f (valD kvs k).isSome)
  | _ => False
theorem RpK.valS {K : PySem.W.Frag} {k : Key} {ys : List (Key × V)} {kvs : List (Key × Dt)} (h : RpK K B ys kvs) : (valV ys k).isSome = (valD kvs k).isSome := by
  rcases h.val (k := k) with ⟨h1, h2⟩ | ⟨u, z', h1, h2, ru⟩ <;> rw [h1, h2] <;> rfl
theorem t_din {Q : Bool → Prop} (hu : X.A.units + 1 < cLine) (h : DE X ρ a fun y => DA X ρ b fun x => dinQ id y x Q) (hm : behindInMarks .In b = false := by rfl) : DT X ρ (.Compare a [.In] [b] pos) Q :=
  ⟨fun H0 B σ H E => semT_of (pt_cmp (pc_din hu pe_sem pe_sem) hm) (h.go E fun B2 v d H2 g E2 r q => q.go E2 fun B3 w d' H3 g3 E3 r3 q3 => by
    cases r3 with
    | dic ha hx =>
      obtain ⟨k, hk, q4⟩ := q3
      exact ⟨_, _, rfl, by rw [(r.ex g3.b).key hk]; exact rd_get ha, _, rfl, B3, g.trans g3, by rw [hx.valS]; exact q4⟩
    | _ => exact q3.elim)⟩
theorem t_dnin {Q : Bool → Prop} (hu : X.A.units + 1 < cLine) (h : DE X ρ a fun y => DA X ρ b fun x => dinQ not y x Q) (hm : behindInMarks .NotIn b = false := by rfl) : DT X ρ (.Compare a [.NotIn] [b] pos) Q :=
  ⟨fun H0 B σ H E => semT_of (pt_cmp (pc_dnotin hu pe_sem pe_sem) hm) (h.go E fun B2 v d H2 g E2 r q => q.go E2 fun B3 w d' H3 g3 E3 r3 q3 => by
    cases r3 with
    | dic ha hx =>
      obtain ⟨k, hk, q4⟩ := q3
      exact ⟨_, _, rfl, by rw [(r.ex g3.b).key hk]; exact rd_get ha, _, rfl, B3, g.trans g3, by rw [hx.valS]; exact q4⟩
    | _ => exact q3.elim)⟩
theorem d_din (hu : X.A.units + 1 < cLine) (h : DE X ρ a fun y => DA X ρ b fun x => dinQ id y x fun z => Q (.bl z)) (hm : behindInMarks .In b = false := by rfl) : DE X ρ (.Compare a [.In] [b] pos) Q :=
  ⟨fun H0 B σ H E => sem_of (pe_cmp (pc_din hu pe_sem pe_sem) hm) (h.go E fun B2 v d H2 g E2 r q => q.go E2 fun B3 w d' H3 g3 E3 r3 q3 => by
    cases r3 with
    | dic ha hx =>
      obtain ⟨k, hk, q4⟩ := q3
      exact ⟨_, _, rfl, by rw [(r.ex g3.b).key hk]; exact rd_get ha, B3, _, g.trans g3, .bl _, by rw [hx.valS]; exact q4⟩
    | _ => exact q3.elim)⟩
theorem d_dnin (hu : X.A.units + 1 < cLine) (h : DE X ρ a fun y => DA X ρ b fun x => dinQ not y x fun z => Q (.bl z)) (hm : behindInMarks .NotIn b = false := by rfl) : DE X ρ (.Compare a [.NotIn] [b] pos) Q :=
  ⟨fun H0 B σ H E => sem_of (pe_cmp (pc_dnotin hu pe_sem pe_sem) hm) (h.go E fun B2 v d H2 g E2 r q => q.go E2 fun B3 w d' H3 g3 E3 r3 q3 => by
    cases r3 with
    | dic ha hx =>
      obtain ⟨k, hk, q4⟩ := q3
      exact ⟨_, _, rfl, by rw [(r.ex g3.b).key hk]; exact rd_get ha, B3, _, g.trans g3, .bl _, by rw [hx.valS]; exact q4⟩
    | _ => exact q3.elim)⟩
/-- slices -/
def cutD (xs : List Dt) (lo hi : Option Int) : List Dt := (xs.drop (HT.sIx xs.length 0 lo)).take (HT.sIx xs.length xs.length hi - HT.sIx xs.length 0 lo)
theorem RpL.cut {K : PySem.W.Frag} {vs : List V} {ds : List Dt} (r : RpL K B vs ds) (lo hi : Option Int) : RpL K B (cutV vs lo hi) (cutD ds lo hi) := by
  unfold cutV cutD
  rw [r.len]
  exact (r.drop _).take _
/-- a part of a slice -/
abbrev intOQ (d : Dt) (Q : Option Int → Prop) : Prop := match d with
  | .int n => Q (some n)
  | _ => False
def DO (X : Cx) (ρ : List Sl) : Option Expr → (Option Int → Prop) → Prop
  | none, Q => Q none
  | some e, Q => DE X ρ e fun d => intOQ d Q
abbrev slQ (x : Dt) (lo hi : Option Int) (Q : Dt → Prop) : Prop := match x with
  | .tup ds => Q (.tup (cutD ds lo hi))
  | .str s => s.length ≤ 100000 ∧ Q (.str (cutS s lo hi))
  | _ => False
theorem SlR.or {r r' : V → Option Int → Option Int → Hp → VK → Prop} (h : SlR X r) (h' : SlR X r') : SlR X (fun x l u H Q => r x l u H Q ∨ r' x l u H Q) := by
  intro pins s σ H x v vl vu lo hi sl Q I rx hs pl pu q
  rcases q with q | q
  · exact h pins s σ H x v vl vu lo hi sl Q I rx hs pl pu q
  · exact h' pins s σ H x v vl vu lo hi sl Q I rx hs pl pu q
theorem cutD_all {K : PySem.W.Frag} {vs : List V} {ds : List Dt} {lo hi : Option Int} (r : RpL K B vs ds) (h1 : HT.sIx vs.length 0 lo = 0) (h2 : HT.sIx vs.length vs.length hi = vs.length) : cutD ds lo hi = ds := by
  unfold cutD
  rw [r.len] at h1 h2
  rw [h1, h2, List.drop_zero, Nat.sub_zero, List.take_length]
/-- the reading of a part, whatever is wanted of it -/
theorem po_any (lo : Option Expr) : ∃ t, PO X lo t ∧ ∀ (ρ : List Sl) (Q : Option Int → Prop) H0 B σ H (R : Option Int → Hp → Prop), DO X ρ lo Q → En X.K H0 B ρ σ H → (∀ B2 n H2, Gr B H B2 H2 → En X.K H0 B2 ρ σ H2 → Q n → R n H2) → t σ H R := by
  cases lo with
  | none => exact ⟨_, po_none, fun ρ Q H0 B σ H R h E k => k B none H (Gr.refl E.ex) E h⟩
  | some e => exact ⟨_, po_some pe_sem, fun ρ Q H0 B σ H R h E k => DE.go h E fun B2 v d H2 g E2 r q => by
      cases r with
      | int n => exact ⟨n, rfl, k B2 (some n) H2 g E2 q⟩
      | _ => exact q.elim⟩
theorem d_sl {lo hi : Option Expr} (h : DE X ρ a fun x => DO X ρ lo fun l => DO X ρ hi fun u => slQ x l u Q) : DE X ρ (.Subscript a (.Slice lo hi none p2) pos) Q := by
  obtain ⟨tl, hl, kl⟩ := po_any (X := X) lo
  obtain ⟨th, hh, kh⟩ := po_any (X := X) hi
  exact ⟨fun H0 B σ H E => sem_of (pe_slice (SlR.or sl_tupA sl_str) pe_sem hl hh) (h.go E fun B2 v d H2 g E2 r q => kl ρ _ H0 _ _ _ _ q E2 fun B3 l H3 g3 E3 q3 => kh ρ _ H0 _ _ _ _ q3 E3 fun B4 u H4 g4 E4 q4 => by
    have r := (r.ex g3.b).ex g4.b
    have gg := (g.trans g3).trans g4
    cases r with
    | tup ha hx =>
      refine .inl ⟨_, _, rfl, ex_t E4.ex ha, fun z => ?_, fun z p hp => ?_⟩
      · have q5 : Q (.tup (cutD _ l u)) := q4
        rw [cutD_all hx z.1 z.2] at q5
        exact ⟨B4, _, gg, .tup ha hx, q5⟩
      · exact ⟨_, _, gg.trans (Gr.new E4.ex hp), .tup (st_of upd_same) ((hx.cut l u).ex (Gr.new E4.ex hp).b), q4⟩
    | str s => exact .inr ⟨s, rfl, sz_of q4.1, B4, _, gg, .str _, q4.2⟩
    | _ => exact q4.elim)⟩
/-- a slice of a list -/
abbrev slLQ (x : Dt) (lo hi : Option Int) (Q : Dt → Prop) : Prop := match x with
  | .lst ds => Q (.lst (cutD ds lo hi))
  | _ => False
theorem n_sl {lo hi : Option Expr} (h : DE X ρ a fun x => DO X ρ lo fun l => DO X ρ hi fun u => slLQ x l u Q) : DN X ρ (.Subscript a (.Slice lo hi none p2) pos) Q := by
  obtain ⟨tl, hl, kl⟩ := po_any (X := X) lo
  obtain ⟨th, hh, kh⟩ := po_any (X := X) hi
  exact ⟨fun H0 B σ H E => sem_of (pe_slice sl_list pe_sem hl hh) (h.go E fun B2 v d H2 g E2 r q => kl ρ _ H0 _ _ _ _ q E2 fun B3 l H3 g3 E3 q3 => kh ρ _ H0 _ _ _ _ q3 E3 fun B4 u H4 g4 E4 q4 => by
    have r := (r.ex g3.b).ex g4.b
    have gg := (g.trans g3).trans g4
    cases r with
    | lst ha hx =>
      refine ⟨_, _, rfl, ex_l E4.ex ha, fun p hp => ?_⟩
      have hb := fresh_back E4.ex hp
      exact ⟨B4, p, .lst (cutD _ l u), ⟨gg.b, gg.h.trans (Ex.new hp), Ex.mut E4.ex hb, gg.o⟩, rfl, fresh_back gg.h hp, hb, ⟨_, upd_same, hx.cut l u⟩, q4⟩
    | _ => exact q4.elim)⟩
end
end Z
set_option Elab.async false
set_option linter.all false
set_option maxRecDepth 100000
set_option maxHeartbeats 4000000
namespace Z
open PySem PySem.Spec PyProof.Rows L2 Evl Y
section
variable {X : Cx} {ρ : List Sl} {e a b c o : Expr} {es : List Expr} {Q Q' : Dt → Prop} {H0 B B2 H H2 : Hp} {σ : L2.St} {i : Nat} {d : Dt} {pos p2 q1 q2 apos cpos : Pos}
/-! ### fields -/
abbrev fldQ (K : PySem.W.Frag) (nm : Str) (x : Dt) (Q : Dt → Prop) : Prop := match x with
  | .obj C fs => Cls K C ∧ NoAttr K C nm ∧ ∃ d, fs.lookup nm = some d ∧ Q d
  | _ => False
theorem RpF.look {K : PySem.W.Frag} {nm : Str} {d : Dt} : ∀ {ys : List (Str × V)} {fs : List (Str × Dt)}, RpF K B ys fs → fs.lookup nm = some d → ∃ v, ys.lookup nm = some v ∧ Rp K B v d
  | _, _, .nil, h => by cases h
  | _, _, .cons (k := k) r t, h => by
    rw [List.lookup_cons] at h ⊢
    split at h
    · cases h; exact ⟨_, rfl, r⟩
    · exact RpF.look t h
theorem d_fld {nm : Str} (h : DE X ρ a fun x => fldQ X.K nm x Q) (hb : attributeBase a nm X.env (eval a X.env) = eval a X.env := by rfl) : DE X ρ (.Attribute a nm pos) Q :=
  ⟨fun H0 B σ H E => sem_of (pe_fld pe_sem hb) (h.go E fun B2 v d H2 g E2 r q => by
    cases r with
    | obj ha hf =>
      obtain ⟨c1, c2, z, hz, q⟩ := q
      obtain ⟨u, hu, ru⟩ := hf.look hz
      exact ⟨_, _, _, _, u, rfl, E2.ex _ _ ha, c1, c2, hu, B2, z, g, ru, q⟩
    | _ => exact q.elim)⟩
/-! ### in, is -/
abbrev flatD : Dt → Bool
  | .non => true | .bl _ => true | .int _ => true | .str _ => true
  | _ => false
def eqF : Dt → Dt → Bool
  | .non, .non => true
  | .bl a, .bl b => a == b
  | .bl a, .int b => (if a then 1 else 0) == b
  | .int a, .bl b => a == (if b then 1 else 0)
  | .int a, .int b => a == b
  | .str a, .str b => a == b
  | _, _ => false
def inD (x : Dt) (ds : List Dt) : Bool := ds.any fun y => eqF y x
theorem Rp.flatV {K : PySem.W.Frag} {v : V} {d : Dt} (r : Rp K B v d) (h : flatD d = true) : L2.flatV v = true := by cases r <;> first | rfl | cases h
theorem Rp.eqF {K : PySem.W.Frag} {v w : V} {d e : Dt} (r : Rp K B v d) (r' : Rp K B w e) (h : flatD d = true) (h' : flatD e = true) : eqV v w = Z.eqF d e := by
  cases r <;> cases r' <;> first | rfl | exact absurd h Bool.false_ne_true | exact absurd h' Bool.false_ne_true
theorem RpL.inD {K : PySem.W.Frag} {x : V} {d : Dt} (r : Rp K B x d) (h : flatD d = true) : ∀ {vs : List V} {ds : List Dt}, RpL K B vs ds → ds.all flatD = true → vs.all L2.flatV = true ∧ inV x vs = Z.inD d ds
  | _, _, .nil, _ => ⟨rfl, rfl⟩
  | _, _, .cons a t, f => by
    rw [List.all_cons, Bool.and_eq_true] at f
    obtain ⟨h1, h2⟩ := RpL.inD r h t f.2
    refine ⟨by rw [List.all_cons, a.flatV f.1, h1]; rfl, ?_⟩
    unfold inV Z.inD at h2 ⊢
    rw [List.any_cons, List.any_cons, h2, a.eqF r f.1 h]
abbrev inQ (f : Bool → Bool) (y x : Dt) (Q : Bool → Prop) : Prop := match x with
  | .tup ds => (flatD y = true ∧ ds.all flatD = true) ∧ Q (f (inD y ds))
  | .lst ds => (flatD y = true ∧ ds.all flatD = true) ∧ Q (f (inD y ds))
  | _ => False
theorem wc_in {K : PySem.W.Frag} : WC K (rIn K false) (inQ id) := fun B H x y d1 d2 Q R s rx ry w k => by
  have rx := rx.ex s
  have ry := ry.ex s
  cases ry with
  | tup ha hx =>
    obtain ⟨h1, h2⟩ := RpL.inD rx w.1.1 hx w.1.2
    exact ⟨_, _, rfl, .inr ha, rx.flatV w.1.1, h1, by rw [if_neg Bool.false_ne_true, h2]; exact k _ w.2⟩
  | lst ha hx =>
    obtain ⟨h1, h2⟩ := RpL.inD rx w.1.1 hx w.1.2
    exact ⟨_, _, rfl, .inl ha, rx.flatV w.1.1, h1, by rw [if_neg Bool.false_ne_true, h2]; exact k _ w.2⟩
  | _ => exact w.elim
theorem wc_nin {K : PySem.W.Frag} : WC K (rIn K true) (inQ not) := fun B H x y d1 d2 Q R s rx ry w k => by
  have rx := rx.ex s
  have ry := ry.ex s
  cases ry with
  | tup ha hx =>
    obtain ⟨h1, h2⟩ := RpL.inD rx w.1.1 hx w.1.2
    exact ⟨_, _, rfl, .inr ha, rx.flatV w.1.1, h1, by rw [if_pos rfl, h2]; exact k _ w.2⟩
  | lst ha hx =>
    obtain ⟨h1, h2⟩ := RpL.inD rx w.1.1 hx w.1.2
    exact ⟨_, _, rfl, .inl ha, rx.flatV w.1.1, h1, by rw [if_pos rfl, h2]; exact k _ w.2⟩
  | _ => exact w.elim
theorem d_in (h : DA X ρ a fun d1 => DA X ρ b fun d2 => inQ id d1 d2 fun b => Q (.bl b)) (hm : behindInMarks .In b = false := by rfl) : DE X ρ (.Compare a [.In] [b] pos) Q := d_cmp op_in_seq wc_in h hm
theorem d_nin (h : DA X ρ a fun d1 => DA X ρ b fun d2 => inQ not d1 d2 fun b => Q (.bl b)) (hm : behindInMarks .NotIn b = false := by rfl) : DE X ρ (.Compare a [.NotIn] [b] pos) Q := d_cmp op_notIn_seq wc_nin h hm
theorem t_in {Q : Bool → Prop} (h : DA X ρ a fun d1 => DA X ρ b fun d2 => inQ id d1 d2 Q) (hm : behindInMarks .In b = false := by rfl) : DT X ρ (.Compare a [.In] [b] pos) Q := t_cmp op_in_seq wc_in h hm
theorem t_nin {Q : Bool → Prop} (h : DA X ρ a fun d1 => DA X ρ b fun d2 => inQ not d1 d2 Q) (hm : behindInMarks .NotIn b = false := by rfl) : DT X ρ (.Compare a [.NotIn] [b] pos) Q := t_cmp op_notIn_seq wc_nin h hm
abbrev isNon : Dt → Bool
  | .non => true
  | _ => false
theorem Rp.non? {K : PySem.W.Frag} {v : V} {d : Dt} (r : Rp K B v d) : decide (v = .non) = isNon d := by cases r <;> rfl
theorem wc_isN {K : PySem.W.Frag} : WC K (fun x y H Q => y = .non ∧ Q (.bl (decide (x = .non))) H) fun x y Q => isNon y = true ∧ Q (isNon x) := fun B H x y d1 d2 Q R s rx ry w k => by
  refine ⟨?_, ?_⟩
  · cases ry <;> first | rfl | cases w.1
  · rw [rx.non?]; exact k _ w.2
theorem wc_notN {K : PySem.W.Frag} : WC K (fun x y H Q => y = .non ∧ Q (.bl (!decide (x = .non))) H) fun x y Q => isNon y = true ∧ Q (!isNon x) := fun B H x y d1 d2 Q R s rx ry w k => by
  refine ⟨?_, ?_⟩
  · cases ry <;> first | rfl | cases w.1
  · rw [rx.non?]; exact k _ w.2
theorem t_isN {Q : Bool → Prop} {j} {q : Pos} (h : DA X ρ a fun d => Q (isNon d)) : DT X ρ (.Compare a [.Is] [.Constant .none j q] pos) Q := t_cmp op_isN wc_isN (h.weak fun d z => (d_non ⟨rfl, z⟩).da) (nomark _)
theorem t_notN {Q : Bool → Prop} {j} {q : Pos} (h : DA X ρ a fun d => Q (!isNon d)) : DT X ρ (.Compare a [.IsNot] [.Constant .none j q] pos) Q := t_cmp op_notN wc_notN (h.weak fun d z => (d_non ⟨rfl, z⟩).da) (nomark _)
theorem d_isN {j} {q : Pos} (h : DA X ρ a fun d => Q (.bl (isNon d))) : DE X ρ (.Compare a [.Is] [.Constant .none j q] pos) Q := d_cmp op_isN wc_isN (h.weak fun d z => (d_non ⟨rfl, z⟩).da) (nomark _)
theorem d_notN {j} {q : Pos} (h : DA X ρ a fun d => Q (.bl (!isNon d))) : DE X ρ (.Compare a [.IsNot] [.Constant .none j q] pos) Q := d_cmp op_notN wc_notN (h.weak fun d z => (d_non ⟨rfl, z⟩).da) (nomark _)
/-! ### built-in calls of one argument -/
/-- what a call comes to: r of [x] leads to W of the data -/
def WU (K : PySem.W.Frag) (r : List V → Hp → VK → Prop) (W : Dt → (Dt → Prop) → Prop) : Prop := ∀ B H x d (Q : Dt → Prop) (R : VK), Ex B H → Rp K B x d → W d Q → (∀ B2 v d H2, Gr B H B2 H2 → Rp K B2 v d → Q d → R v H2) → r [x] H R
theorem d_callB {id : String} {r : List V → Hp → VK → Prop} {W : Dt → (Dt → Prop) → Prop} {nm : Str} (hr : CallR X (.builtin id) r) (hw : WU X.K r W) (hg : Gl X nm) (hm : X.mg nm = none) (hv : bootBuiltins nm = some (.builtin id)) (h : DE X ρ a fun d => W d Q)
    (hn : nm ≠ "__name__" := by decide) (hdb : (nm == ("__debug__" : Str)) = false := by decide) (hst : starEach [a] X.env = (false, eval a X.env) :: starEach [] X.env := by rfl) : DE X ρ (.Call (.Name nm q1) [a] [] q2) Q :=
  ⟨fun H0 B σ H E => sem_of (pe_callB hr hg hm hv (pa_cons pe_sem pa_nil hst) hn hdb (he := hst)) (h.go E fun B2 v d H2 g E2 r q => hw B2 H2 v d Q _ E2.ex r q fun B3 w e H3 g3 r3 q3 => ⟨B3, e, g.trans g3, r3, q3⟩)⟩
theorem d_callT {T : String} {r : List V → Hp → VK → Prop} {W : Dt → (Dt → Prop) → Prop} {nm : Str} (hr : CallR X (.type T) r) (hw : WU X.K r W) (hg : Gl X nm) (hm : X.mg nm = none) (hv : bootBuiltins nm = some (.type T)) (h : DE X ρ a fun d => W d Q)
    (hn : nm ≠ "__name__" := by decide) (hdb : (nm == ("__debug__" : Str)) = false := by decide) (hst : starEach [a] X.env = (false, eval a X.env) :: starEach [] X.env := by rfl) : DE X ρ (.Call (.Name nm q1) [a] [] q2) Q :=
  ⟨fun H0 B σ H E => sem_of (pe_callTy hr hg hm hv (pa_cons pe_sem pa_nil hst) hn hdb (he := hst)) (h.go E fun B2 v d H2 g E2 r q => hw B2 H2 v d Q _ E2.ex r q fun B3 w e H3 g3 r3 q3 => ⟨B3, e, g.trans g3, r3, q3⟩)⟩
/-- .. of what may be one's own: what comes is made of tuples alone -/
theorem d_callBA {id : String} {r : List V → Hp → VK → Prop} {W : Dt → (Dt → Prop) → Prop} {nm : Str} (hr : CallR X (.builtin id) r) (hw : WU X.K r W) (hg : Gl X nm) (hm : X.mg nm = none) (hv : bootBuiltins nm = some (.builtin id)) (h : DA X ρ a fun d => W d fun z => imm z = true ∧ Q z)
    (hn : nm ≠ "__name__" := by decide) (hdb : (nm == ("__debug__" : Str)) = false := by decide) (hst : starEach [a] X.env = (false, eval a X.env) :: starEach [] X.env := by rfl) : DE X ρ (.Call (.Name nm q1) [a] [] q2) Q :=
  DA.de ⟨fun H0 B σ H E => sem_of (pe_callB hr hg hm hv (pa_cons pe_sem pa_nil hst) hn hdb (he := hst)) (h.go E fun B2 v d H2 g E2 r q => hw H2 H2 v d _ _ (Ex.refl _) r q fun B3 w e H3 g3 r3 q3 => ⟨B2, e, g.trans (Gr.more E2.ex g3.h), r3.ex g3.s, q3⟩)⟩
theorem d_callTA {T : String} {r : List V → Hp → VK → Prop} {W : Dt → (Dt → Prop) → Prop} {nm : Str} (hr : CallR X (.type T) r) (hw : WU X.K r W) (hg : Gl X nm) (hm : X.mg nm = none) (hv : bootBuiltins nm = some (.type T)) (h : DA X ρ a fun d => W d fun z => imm z = true ∧ Q z)
    (hn : nm ≠ "__name__" := by decide) (hdb : (nm == ("__debug__" : Str)) = false := by decide) (hst : starEach [a] X.env = (false, eval a X.env) :: starEach [] X.env := by rfl) : DE X ρ (.Call (.Name nm q1) [a] [] q2) Q :=
  DA.de ⟨fun H0 B σ H E => sem_of (pe_callTy hr hg hm hv (pa_cons pe_sem pa_nil hst) hn hdb (he := hst)) (h.go E fun B2 v d H2 g E2 r q => hw H2 H2 v d _ _ (Ex.refl _) r q fun B3 w e H3 g3 r3 q3 => ⟨B2, e, g.trans (Gr.more E2.ex g3.h), r3.ex g3.s, q3⟩)⟩
abbrev lenQ (x : Dt) (Q : Dt → Prop) : Prop := match x with
  | .tup ds => Q (.int ds.length)
  | .lst ds => Q (.int ds.length)
  | .str s => s.length ≤ sizeLine ∧ Q (.int s.length)
  | _ => False
theorem wu_len {K : PySem.W.Frag} : WU K (fun xs H Q => (∃ p ys, xs = [.ref p] ∧ (SqL K H p ys ∨ SqT K H p ys) ∧ Q (.int ys.length) H) ∨ ∃ z, xs = [.str z] ∧ z.length ≤ sizeLine ∧ Q (.int z.length) H) lenQ := fun B H x d Q R s r w k => by
  cases r with
  | tup ha hx => exact .inl ⟨_, _, rfl, .inr (ex_t s ha), by rw [hx.len]; exact k B _ _ H (Gr.refl s) (.int _) w⟩
  | lst ha hx => exact .inl ⟨_, _, rfl, .inl (ex_l s ha), by rw [hx.len]; exact k B _ _ H (Gr.refl s) (.int _) w⟩
  | str z => exact .inr ⟨z, rfl, w.1, k B _ _ H (Gr.refl s) (.int _) w.2⟩
  | _ => exact w.elim
theorem d_len (hg : Gl X "len") (hm : X.mg "len" = none) (h : DA X ρ a fun d => lenQ d Q) (hst : starEach [a] X.env = (false, eval a X.env) :: starEach [] X.env := by rfl) : DE X ρ (.Call (.Name "len" q1) [a] [] q2) Q :=
  d_callBA (CallR.or call_len_seq call_len_str) wu_len hg hm PySem.boot_len (h.weak fun d w => by
    cases d with
    | tup ds => exact ⟨rfl, w⟩
    | lst ds => exact ⟨rfl, w⟩
    | str s => exact ⟨w.1, rfl, w.2⟩
    | _ => exact w) (hst := hst)
/-- tuple(..) -/
abbrev tupQ (x : Dt) (Q : Dt → Prop) : Prop := match x with
  | .tup ds => Q (.tup ds)
  | .lst ds => Q (.tup ds)
  | _ => False
theorem wu_tup {K : PySem.W.Frag} : WU K (fun xs H Q => ∃ p ys, xs = [.ref p] ∧ ((SqL K H p ys ∧ ∀ l, H l = none → Q (.ref l) (upd H l (.tup ys))) ∨ (SqT K H p ys ∧ Q (.ref p) H))) tupQ := fun B H x d Q R s r w k => by
  cases r with
  | tup ha hx => exact ⟨_, _, rfl, .inr ⟨ex_t s ha, k B _ _ H (Gr.refl s) (.tup ha hx) w⟩⟩
  | lst ha hx => exact ⟨_, _, rfl, .inl ⟨ex_l s ha, fun p hp => k _ _ _ _ (Gr.new s hp) (.tup (st_of upd_same) (hx.ex (Gr.new s hp).b)) w⟩⟩
  | _ => exact w.elim
theorem d_tuple (hg : Gl X "tuple") (hm : X.mg "tuple" = none) (h : DE X ρ a fun d => tupQ d Q) (hst : starEach [a] X.env = (false, eval a X.env) :: starEach [] X.env := by rfl) : DE X ρ (.Call (.Name "tuple" q1) [a] [] q2) Q :=
  d_callT call_tuple_of wu_tup hg hm (by decide +kernel) h (hst := hst)
theorem d_tupleA (hg : Gl X "tuple") (hm : X.mg "tuple" = none) (h : DA X ρ a fun d => tupQ d fun z => imm z = true ∧ Q z) (hst : starEach [a] X.env = (false, eval a X.env) :: starEach [] X.env := by rfl) : DE X ρ (.Call (.Name "tuple" q1) [a] [] q2) Q :=
  d_callTA call_tuple_of wu_tup hg hm (by decide +kernel) h (hst := hst)
/-- all, any, sum of lists -/
abbrev blL (x : Dt) (f : List Bool → Prop) : Prop := ∃ bs : List Bool, x = .lst (bs.map Dt.bl) ∧ f bs
theorem RpL.bls {K : PySem.W.Frag} : ∀ {vs : List V} {bs : List Bool}, RpL K B vs (bs.map Dt.bl) → vs = bs.map V.bl
  | [], [], _ => rfl
  | _, _ :: _, .cons (.bl _) t => by rw [List.map_cons, ← RpL.bls t]
  | _ :: _, [], h => by cases h
theorem RpL.ints {K : PySem.W.Frag} : ∀ {vs : List V} {bs : List Int}, RpL K B vs (bs.map Dt.int) → vs = bs.map V.int
  | [], [], _ => rfl
  | _, _ :: _, .cons (.int _) t => by rw [List.map_cons, ← RpL.ints t]
  | _ :: _, [], h => by cases h
theorem RpL.strs {K : PySem.W.Frag} : ∀ {vs : List V} {bs : List Str}, RpL K B vs (bs.map Dt.str) → vs = bs.map V.str
  | [], [], _ => rfl
  | _, _ :: _, .cons (.str _) t => by rw [List.map_cons, ← RpL.strs t]
  | _ :: _, [], h => by cases h
theorem wu_all {K : PySem.W.Frag} : WU K (rAll K) fun x Q => blL x fun bs => Q (.bl (bs.all id)) := fun B H x d Q R s r w k => by
  obtain ⟨bs, rfl, w⟩ := w
  cases r with
  | lst ha hx => exact ⟨_, bs, rfl, by rw [← hx.bls]; exact ex_l s ha, k B _ _ H (Gr.refl s) (.bl _) w⟩
theorem wu_any {K : PySem.W.Frag} : WU K (rAny K) fun x Q => blL x fun bs => Q (.bl (bs.any id)) := fun B H x d Q R s r w k => by
  obtain ⟨bs, rfl, w⟩ := w
  cases r with
  | lst ha hx => exact ⟨_, bs, rfl, by rw [← hx.bls]; exact ex_l s ha, k B _ _ H (Gr.refl s) (.bl _) w⟩
theorem wu_sum {K : PySem.W.Frag} : WU K (rSum K) fun x Q => ∃ bs : List Int, x = .lst (bs.map Dt.int) ∧ Q (.int bs.sum) := fun B H x d Q R s r w k => by
  obtain ⟨bs, rfl, w⟩ := w
  cases r with
  | lst ha hx => exact ⟨_, bs, rfl, by rw [← hx.ints]; exact ex_l s ha, k B _ _ H (Gr.refl s) (.int _) w⟩
theorem d_all (hc : X.calm = true) (hg : Gl X "all") (hm : X.mg "all" = none) (h : DE X ρ a fun d => blL d fun bs => Q (.bl (bs.all id))) (hst : starEach [a] X.env = (false, eval a X.env) :: starEach [] X.env := by rfl) : DE X ρ (.Call (.Name "all" q1) [a] [] q2) Q :=
  d_callB (cr_all hc) wu_all hg hm (by decide +kernel) h (hst := hst)
theorem d_any (hc : X.calm = true) (hg : Gl X "any") (hm : X.mg "any" = none) (h : DE X ρ a fun d => blL d fun bs => Q (.bl (bs.any id))) (hst : starEach [a] X.env = (false, eval a X.env) :: starEach [] X.env := by rfl) : DE X ρ (.Call (.Name "any" q1) [a] [] q2) Q :=
  d_callB (cr_any hc) wu_any hg hm (by decide +kernel) h (hst := hst)
theorem d_sum (hc : X.calm = true) (hg : Gl X "sum") (hm : X.mg "sum" = none) (h : DE X ρ a fun d => ∃ bs : List Int, d = .lst (bs.map Dt.int) ∧ Q (.int bs.sum)) (hst : starEach [a] X.env = (false, eval a X.env) :: starEach [] X.env := by rfl) : DE X ρ (.Call (.Name "sum" q1) [a] [] q2) Q :=
  d_callB (cr_sum hc) wu_sum hg hm (by decide +kernel) h (hst := hst)
/-- int(n) -/
theorem d_intI {nm : Str} (hx : nm = ("int" : Str)) (hg : Gl X "int") (hm : X.mg "int" = none) (h : DE X ρ a fun d => ∃ n, d = .int n ∧ Q (.int n)) (hst : starEach [a] X.env = (false, eval a X.env) :: starEach [] X.env := by rfl) : DE X ρ (.Call (.Name nm q1) [a] [] q2) Q := by
  subst hx
  exact ⟨fun H0 B σ H E => sem_of (pe_callTy call_int1 hg hm (by decide +kernel) (pa_cons pe_sem pa_nil hst) (he := hst)) (h.go E fun B2 v d H2 g E2 r q => by
    obtain ⟨n, rfl, q⟩ := q
    cases r
    exact .inl ⟨n, rfl, B2, _, g, .int n, q⟩)⟩
/-- list(..): a new list -/
theorem n_list (hg : Gl X "list") (hm : X.mg "list" = none) (h : DE X ρ a fun d => ∃ ds, (d = .lst ds ∨ d = .tup ds) ∧ Q (.lst ds)) (hst : starEach [a] X.env = (false, eval a X.env) :: starEach [] X.env := by rfl) : DN X ρ (.Call (.Name "list" q1) [a] [] q2) Q :=
  ⟨fun H0 B σ H E => sem_of (pe_callTy call_list_of hg hm (by decide +kernel) (pa_cons pe_sem pa_nil hst) (he := hst)) (h.go E fun B2 v d H2 g E2 r q => by
    obtain ⟨ds, hd, q⟩ := q
    obtain ⟨p, ys, rfl, hs, rs⟩ : ∃ p ys, v = .ref p ∧ (SqL X.K H2 p ys ∨ SqT X.K H2 p ys) ∧ RpL X.K B2 ys ds := by
      rcases hd with rfl | rfl
      · cases r with
        | lst ha hx => exact ⟨_, _, rfl, .inl (ex_l E2.ex ha), hx⟩
      · cases r with
        | tup ha hx => exact ⟨_, _, rfl, .inr (ex_t E2.ex ha), hx⟩
    refine ⟨p, ys, rfl, hs, fun l hl => ?_⟩
    have hb := fresh_back E2.ex hl
    exact ⟨B2, l, .lst ds, ⟨g.b, g.h.trans (Ex.new hl), Ex.mut E2.ex hb, g.o⟩, rfl, fresh_back g.h hl, hb, ⟨_, upd_same, rs⟩, q⟩)⟩
/-! ### isinstance -/
abbrev tyD : Dt → String
  | .non => "NoneType" | .bl _ => "bool" | .int _ => "int" | .str _ => "str"
  | .tup _ => "tuple" | .tz _ => "tuple" | .lst _ => "list" | .dic _ => "dict" | _ => "dict"
theorem Rp.ty {K : PySem.W.Frag} {v : V} {d : Dt} (r : Rp K B v d) (h : ∀ C fs, d ≠ .obj C fs) (h2 : ∀ kvs, d ≠ .dit kvs) (h3 : ∀ a b f g, d ≠ .dk a b f g) (h4 : ∀ ds, d ≠ .tx ds) : TyX K B v (.type (tyD d)) := by
  cases r with
  | non => exact .base .non
  | bl x => exact .base (.bl x)
  | int x => exact .base (.int x)
  | str x => exact .base (.str x)
  | tup ha _ =>
    rcases ha with (ha | ⟨o, ha⟩) | ⟨o, its, n, h1, h2, _⟩
    · exact .base (.tup ha)
    · exact .fTuple ha
    · exact .kTuple h1 h2
  | lst ha _ =>
    rcases ha with (ha | ⟨o, ha⟩) | ⟨o, its, n, h1, h2, _⟩
    · exact .base (.lst ha)
    · exact .base (.frz ha)
    · exact .kList h1 h2
  | dic ha _ =>
    rcases ha with ha | ⟨o, ha⟩
    · exact .base (.dK ha)
    · exact .fDict ha
  | dit ha _ => exact absurd rfl (h2 _)
  | obj ha _ => exact absurd rfl (h _ _)
  | dk _ _ _ => exact absurd rfl (h3 _ _ _ _)
  | tx _ _ => exact absurd rfl (h4 _)
  | tz ha _ =>
    obtain ⟨o, ha, _⟩ := ha
    exact .fTuple ha
/-! what isinstance says of the kinds -/
theorem kb_NoneType_int : kitB "NoneType" "int" = some false := by decide +kernel
theorem kb_NoneType_bool : kitB "NoneType" "bool" = some false := by decide +kernel
theorem kb_NoneType_str : kitB "NoneType" "str" = some false := by decide +kernel
theorem kb_NoneType_tuple : kitB "NoneType" "tuple" = some false := by decide +kernel
theorem kb_NoneType_list : kitB "NoneType" "list" = some false := by decide +kernel
theorem kb_NoneType_dict : kitB "NoneType" "dict" = some false := by decide +kernel
theorem kb_bool_int : kitB "bool" "int" = some true := by decide +kernel
theorem kb_bool_bool : kitB "bool" "bool" = some true := by decide +kernel
theorem kb_bool_str : kitB "bool" "str" = some false := by decide +kernel
theorem kb_bool_tuple : kitB "bool" "tuple" = some false := by decide +kernel
theorem kb_bool_list : kitB "bool" "list" = some false := by decide +kernel
theorem kb_bool_dict : kitB "bool" "dict" = some false := by decide +kernel
theorem kb_int_int : kitB "int" "int" = some true := by decide +kernel
theorem kb_int_bool : kitB "int" "bool" = some false := by decide +kernel
theorem kb_int_str : kitB "int" "str" = some false := by decide +kernel
theorem kb_int_tuple : kitB "int" "tuple" = some false := by decide +kernel
theorem kb_int_list : kitB "int" "list" = some false := by decide +kernel
theorem kb_int_dict : kitB "int" "dict" = some false := by decide +kernel
theorem kb_str_int : kitB "str" "int" = some false := by decide +kernel
theorem kb_str_bool : kitB "str" "bool" = some false := by decide +kernel
theorem kb_str_str : kitB "str" "str" = some true := by decide +kernel
theorem kb_str_tuple : kitB "str" "tuple" = some false := by decide +kernel
theorem kb_str_list : kitB "str" "list" = some false := by decide +kernel
theorem kb_str_dict : kitB "str" "dict" = some false := by decide +kernel
theorem kb_tuple_int : kitB "tuple" "int" = some false := by decide +kernel
theorem kb_tuple_bool : kitB "tuple" "bool" = some false := by decide +kernel
theorem kb_tuple_str : kitB "tuple" "str" = some false := by decide +kernel
theorem kb_tuple_tuple : kitB "tuple" "tuple" = some true := by decide +kernel
theorem kb_tuple_list : kitB "tuple" "list" = some false := by decide +kernel
theorem kb_tuple_dict : kitB "tuple" "dict" = some false := by decide +kernel
theorem kb_list_int : kitB "list" "int" = some false := by decide +kernel
theorem kb_list_bool : kitB "list" "bool" = some false := by decide +kernel
theorem kb_list_str : kitB "list" "str" = some false := by decide +kernel
theorem kb_list_tuple : kitB "list" "tuple" = some false := by decide +kernel
theorem kb_list_list : kitB "list" "list" = some true := by decide +kernel
theorem kb_list_dict : kitB "list" "dict" = some false := by decide +kernel
theorem kb_dict_int : kitB "dict" "int" = some false := by decide +kernel
theorem kb_dict_bool : kitB "dict" "bool" = some false := by decide +kernel
theorem kb_dict_str : kitB "dict" "str" = some false := by decide +kernel
theorem kb_dict_tuple : kitB "dict" "tuple" = some false := by decide +kernel
theorem kb_dict_list : kitB "dict" "list" = some false := by decide +kernel
theorem kb_dict_dict : kitB "dict" "dict" = some true := by decide +kernel
abbrev plainD : Dt → Bool
  | .dit _ => false | .obj _ _ => false | .dk _ _ _ _ => false | .tx _ => false | _ => true
theorem d_isi {T : String} {nm : Str} (hg : Gl X "isinstance") (hm : X.mg "isinstance" = none) (hgt : Gl X nm) (hmt : X.mg nm = none) (hv : bootBuiltins nm = some (.type T)) (h : DA X ρ a fun d => plainD d = true ∧ ∃ r, kitB (tyD d) T = some r ∧ Q (.bl r))
    (hn : nm ≠ "__name__" := by decide) (hd : (nm == ("__debug__" : Str)) = false := by decide) (he : starEach [a, .Name nm pos] X.env = (false, eval a X.env) :: starEach [.Name nm pos] X.env := by rfl) (he2 : starEach [.Name nm pos] X.env = (false, eval (.Name nm pos) X.env) :: starEach [] X.env := by rfl) (hpl : (backTo q2 (starEach [.Name nm pos] X.env)).any (·.1) = false := by rfl) :
    DE X ρ (.Call (.Name "isinstance" q1) [a, .Name nm pos] [] q2) Q :=
  ⟨fun H0 B σ H E => sem_of (pe_callB call_isi hg hm (by decide +kernel) (pa_cons pe_sem (pa_cons (pe_bltn hgt hmt hv (show RelV (.ty T) (.type T) from rfl) hn hd) pa_nil he2) he) (he := he) (hpl := hpl)) (h.go E fun B2 v d H2 g E2 r q => by
    obtain ⟨q0, z, hz, q⟩ := q
    exact ⟨v, .ty T, .type (tyD d), .type T, z, rfl, .ty T, r.ty (fun C fs e => by subst e; cases q0) (fun kvs e => by subst e; cases q0) (fun _ _ _ _ e => by subst e; cases q0) (fun _ e => by subst e; cases q0), kit_ty hz, B2, _, g, .bl z, q⟩)⟩
end
end Z
set_option Elab.async false
set_option linter.all false
set_option maxRecDepth 100000
set_option maxHeartbeats 4000000
namespace Z
open PySem PySem.Spec PyProof.Rows L2 Evl Y
/-! ### own defs, by data -/
/-- a promise in data -/
def spD (K : PySem.W.Frag) (S : List Dt → (Dt → Prop) → Prop) : Sp := fun vs H Q _ => ∃ B ds, Ex B H ∧ RpL K B vs ds ∧ S ds fun d => ∀ B2 v H2, Gr B H B2 H2 → Rp K B2 v d → Q v H2
structure OwnD (P : Program) (w : World) (K : PySem.W.Frag) (mg : Str → Option Value) (base : Heap) (nm : Str) (ps : List Str) (lv : Nat) (S : List Dt → (Dt → Prop) → Prop) : Prop where
  own : Own P w K mg base nm ps lv (spD K S)
  mono : ∀ ds (Q Q' : Dt → Prop), (∀ d, Q d → Q' d) → S ds Q → S ds Q'
structure DLA (X : Cx) (ρ : List Sl) (es : List Expr) (Q : List Dt → Prop) : Prop where
  run : ∀ H0 B σ H, En X.K H0 B ρ σ H → semA X es σ H fun vs H2 => ∃ B2 ds, Gr B H B2 H2 ∧ RpL X.K H2 vs ds ∧ Q ds
section
variable {X : Cx} {ρ : List Sl} {e a b c o elt iter tg : Expr} {es : List Expr} {Q Q' : Dt → Prop} {H0 B B2 H H2 : Hp} {σ : L2.St} {i : Nat} {d : Dt} {pos p2 q1 q2 apos cpos : Pos} {nm : Str} {ps : List Str} {lv : Nat} {S : List Dt → (Dt → Prop) → Prop}
theorem DLA.go {Q : List Dt → Prop} (h : DLA X ρ es Q) (E : En X.K H0 B ρ σ H) {R : List V → Hp → Prop} (k : ∀ B2 vs ds H2, Gr B H B2 H2 → En X.K H0 B2 ρ σ H2 → RpL X.K H2 vs ds → Q ds → R vs H2) : semA X es σ H R :=
  semA_mono (h.run _ _ _ _ E) fun vs H2 ⟨B2, ds, g, r, q⟩ => k B2 vs ds H2 g (E.gr g) r q
theorem la_nil {Q : List Dt → Prop} (q : Q []) : DLA X ρ [] Q := ⟨fun H0 B σ H E => semA_of pa_nil ⟨B, [], Gr.refl E.ex, .nil, q⟩⟩
theorem la_cons {Q : List Dt → Prop} (h : DA X ρ e fun d => DLA X ρ es fun ds => Q (d :: ds)) (hs : starEach (e :: es) X.env = (false, eval e X.env) :: starEach es X.env := by rfl) : DLA X ρ (e :: es) Q :=
  ⟨fun H0 B σ H E => semA_of (pa_cons pe_sem pa_sem hs) (h.go E fun B2 v d H2 g E2 r q => q.go E2 fun B3 vs ds H3 g3 E3 rs q3 => ⟨B3, _, g.trans g3, .cons (r.ex g3.h) rs, q3⟩)⟩
theorem d_own (O : OwnD X.prog X.w X.K X.mg X.base nm ps lv S) (hr : Room lv X.A) (hg : Gl X nm) (h : DL X ρ (e :: es) fun ds => S ds Q)
    (hdb : (nm == ("__debug__" : Str)) = false := by decide) (he : starEach (e :: es) X.env = (false, eval e X.env) :: starEach es X.env := by rfl) (hpl : (backTo q2 (starEach es X.env)).any (·.1) = false := by rfl) : DE X ρ (.Call (.Name nm q1) (e :: es) [] q2) Q := by
  obtain ⟨g, fd, F, hk, hb, hm⟩ := O.own.ex
  exact ⟨fun H0 B σ H E => sem_of (pe_call F hr hg hm hk hb .nil pass0 pa_sem hdb he hpl) (h.go E fun B2 vs ds H2 g2 E2 rs q => by
    rw [List.append_nil]
    exact ⟨B2, ds, E2.ex, rs, O.mono _ _ _ (fun d q B3 v H3 g3 r => ⟨B3, d, g2.trans g3, r, q⟩) q⟩)⟩
/-- .. of what may be one's own: what comes is made of tuples alone -/
theorem d_ownA (O : OwnD X.prog X.w X.K X.mg X.base nm ps lv S) (hr : Room lv X.A) (hg : Gl X nm) (h : DLA X ρ (e :: es) fun ds => S ds fun d => imm d = true ∧ Q d)
    (hdb : (nm == ("__debug__" : Str)) = false := by decide) (he : starEach (e :: es) X.env = (false, eval e X.env) :: starEach es X.env := by rfl) (hpl : (backTo q2 (starEach es X.env)).any (·.1) = false := by rfl) : DE X ρ (.Call (.Name nm q1) (e :: es) [] q2) Q := by
  obtain ⟨g, fd, F, hk, hb, hm⟩ := O.own.ex
  exact DA.de ⟨fun H0 B σ H E => sem_of (pe_call F hr hg hm hk hb .nil pass0 pa_sem hdb he hpl) (h.go E fun B2 vs ds H2 g2 E2 rs q => by
    rw [List.append_nil]
    exact ⟨H2, ds, Ex.refl _, rs, O.mono _ _ _ (fun d q B3 v H3 g3 r => ⟨B2, d, g2.trans (Gr.more E2.ex g3.h), r.ex g3.s, q⟩) q⟩)⟩
/-! ### slots forgotten -/
def wipeD (ρ : List Sl) : List Nat → List Sl
  | [] => ρ
  | v :: vs => (wipeD ρ vs).set v .un
theorem wipe_at {σ : L2.St} {j : Nat} : ∀ {vs : List Nat}, j ∉ vs → (wipe σ vs)[j]? = σ[j]?
  | [], _ => rfl
  | v :: vs, h => by
    unfold wipe
    rw [List.getElem?_set_ne (fun z => h (by rw [z]; exact List.mem_cons_self)), wipe_at fun z => h (List.mem_cons_of_mem _ z)]
theorem wipeD_at {ρ : List Sl} {j : Nat} {s : Sl} : ∀ {vs : List Nat}, s ≠ .un → (wipeD ρ vs)[j]? = some s → ρ[j]? = some s ∧ j ∉ vs
  | [], _, h => ⟨h, by simp⟩
  | v :: vs, n, h => by
    unfold wipeD at h
    by_cases z : v = j
    · subst z
      by_cases hl : v < (wipeD ρ vs).length
      · rw [List.getElem?_set_self hl] at h; cases h; exact absurd rfl n
      · rw [List.getElem?_eq_none (by simpa using hl)] at h; cases h
    · rw [List.getElem?_set_ne z] at h
      obtain ⟨a, b⟩ := wipeD_at n h
      exact ⟨a, by simp only [List.mem_cons, not_or]; exact ⟨fun y => z y.symm, b⟩⟩
theorem wipeD_len {ρ : List Sl} : ∀ {vs : List Nat}, (wipeD ρ vs).length = ρ.length
  | [] => rfl
  | v :: vs => by unfold wipeD; rw [List.length_set, wipeD_len]
theorem En.wipe {K : PySem.W.Frag} (E : En K H0 B ρ σ H) (vs : List Nat) : En K H0 B (wipeD ρ vs) (L2.wipe σ vs) H := by
  refine ⟨E.ex, by rw [wipe_length, wipeD_len]; exact E.len, fun j d h => ?_, fun j d h => ?_, fun j k d d' p n h1 h2 h3 h4 => ?_⟩
  · obtain ⟨h1, h2⟩ := wipeD_at (s := .fr d) nofun h
    rw [wipe_at h2]; exact E.fr j d h1
  · obtain ⟨h1, h2⟩ := wipeD_at (s := .ow d) nofun h
    rw [wipe_at h2]; exact E.ow j d h1
  · obtain ⟨a1, a2⟩ := wipeD_at (s := .ow d) nofun h1
    obtain ⟨b1, b2⟩ := wipeD_at (s := .ow d') nofun h2
    rw [wipe_at a2] at h3
    rw [wipe_at b2] at h4
    exact E.sep j k d d' p n a1 b1 h3 h4
theorem wipe_set {σ : L2.St} {j : Nat} {v : Option V} : ∀ {vs : List Nat}, j ∈ vs → L2.wipe (σ.set j v) vs = L2.wipe σ vs := fun {vs} h => by
  refine List.ext_getElem? fun k => ?_
  by_cases hk : k ∈ vs
  · have gen : ∀ (τ : L2.St), τ.length = σ.length → (L2.wipe τ vs)[k]? = if k < σ.length then some none else none := fun τ hl => by
      have hw := wipe_length τ vs
      by_cases z : k < σ.length
      · rw [if_pos z]
        cases e : (L2.wipe τ vs)[k]? with
        | none => rw [List.getElem?_eq_none_iff, hw, hl] at e; omega
        | some o =>
          cases o with
          | none => rfl
          | some x => exact absurd hk (wipe_some e).2
      · rw [if_neg z, List.getElem?_eq_none_iff, hw, hl]; omega
    rw [gen _ (List.length_set ..), gen _ rfl]
  · rw [wipe_at hk, wipe_at hk, List.getElem?_set_ne (fun z => hk (by rw [← z]; exact h))]
theorem wipe_idem {σ : L2.St} {vs : List Nat} : L2.wipe (L2.wipe σ vs) vs = L2.wipe σ vs := by
  refine List.ext_getElem? fun k => ?_
  by_cases hk : k ∈ vs
  · have gen : ∀ (τ : L2.St), τ.length = σ.length → (L2.wipe τ vs)[k]? = if k < σ.length then some none else none := fun τ hl => by
      have hw := wipe_length τ vs
      by_cases z : k < σ.length
      · rw [if_pos z]
        cases e : (L2.wipe τ vs)[k]? with
        | none => rw [List.getElem?_eq_none_iff, hw, hl] at e; omega
        | some o =>
          cases o with
          | none => rfl
          | some x => exact absurd hk (wipe_some e).2
      · rw [if_neg z, List.getElem?_eq_none_iff, hw, hl]; omega
    rw [gen _ (wipe_length ..), gen _ rfl]
  · rw [wipe_at hk]
/-! ### targets -/
/-- what a target does to what is known of the slots -/
structure DG (X : Cx) (tg : Expr) (js : List Nat) (f : List Sl → Dt → Option (List Sl)) : Prop where
  ex : ∃ g, PG X tg g ∧ ∀ H0 B ρ σ H x d ρ' (R : L2.St → Hp → Prop), En X.K H0 B ρ σ H → Rp X.K B x d → f ρ d = some ρ' → (∀ σ', En X.K H0 B ρ' σ' H → (∀ vs : List Nat, (∀ j ∈ js, j ∈ vs) → L2.wipe σ' vs = L2.wipe σ vs) → R σ' H) → g x σ H R
abbrev fNm (i : Nat) : List Sl → Dt → Option (List Sl) := fun ρ d => some (ρ.set i (.fr d))
theorem g_nm (i : Nat) {x : Str} (hN : X.N.Nodup) (hi : X.N[i]? = some x := by rfl) (hx : Loc X.env.scope x := by first | exact Or.inl rfl | exact Or.inr rfl) (hf : X.fn x = true ∨ X.env.scope.names.lookup x = some .local := by first | exact .inl rfl | exact .inr rfl) : DG X (.Name x pos) [i] (fNm i) :=
  ⟨gName i, pg_name hN hi hx hf, fun H0 B ρ σ H x d ρ' R E r hf k => by cases hf; exact k _ (E.set r) fun vs h => wipe_set (h i List.mem_cons_self)⟩
abbrev fTup2 (i j : Nat) : List Sl → Dt → Option (List Sl) := fun ρ d => match d with
  | .tup [x, y] => some ((ρ.set i (.fr x)).set j (.fr y))
  | _ => none
theorem g_tup2 (i j : Nat) {x y : Str} {kt : Nat} {px py : Pos} (hc : X.calm = true) (hN : X.N.Nodup) (hi : X.N[i]? = some x := by rfl) (hj : X.N[j]? = some y := by rfl) (hx : Loc X.env.scope x := by first | exact Or.inl rfl | exact Or.inr rfl) (hy : Loc X.env.scope y := by first | exact Or.inl rfl | exact Or.inr rfl)
    (hf : X.fn x = true ∨ X.env.scope.names.lookup x = some .local := by first | exact .inl rfl | exact .inr rfl) (hf2 : X.fn y = true ∨ X.env.scope.names.lookup y = some .local := by first | exact .inl rfl | exact .inr rfl) : DG X (.Tuple [.Name x px, .Name y py] kt pos) [i, j] (fTup2 i j) :=
  ⟨_, pg_tup hc (pgs_cons (pg_name hN hi hx hf) (pgs_cons (pg_name hN hj hy hf2) pgs_nil)), fun H0 B ρ σ H v d ρ' R E r hf k => by
    cases r with
    | tup ha hv =>
      unfold fTup2 at hf
      split at hf
      · rename_i q
        cases q
        cases hf
        cases hv with
        | cons r1 t => cases t with
          | cons r2 t => cases t; exact ⟨_, _, rfl, ex_t E.ex ha, rfl, _, _, rfl, _, _, rfl, rfl, k _ ((E.set r1).set r2) fun vs h => by rw [wipe_set (h j (by simp)), wipe_set (h i (by simp))]⟩
      · cases hf
    | _ => cases hf⟩
abbrev fTup3 (i j l : Nat) : List Sl → Dt → Option (List Sl) := fun ρ d => match d with
  | .tup [x, y, z] => some (((ρ.set i (.fr x)).set j (.fr y)).set l (.fr z))
  | _ => none
theorem g_tup3 (i j l : Nat) {x y z : Str} {kt : Nat} {px py pz : Pos} (hc : X.calm = true) (hN : X.N.Nodup) (hi : X.N[i]? = some x := by rfl) (hj : X.N[j]? = some y := by rfl) (hl : X.N[l]? = some z := by rfl) (hx : Loc X.env.scope x := by first | exact Or.inl rfl | exact Or.inr rfl) (hy : Loc X.env.scope y := by first | exact Or.inl rfl | exact Or.inr rfl) (hz : Loc X.env.scope z := by first | exact Or.inl rfl | exact Or.inr rfl)
    (hf : X.fn x = true ∨ X.env.scope.names.lookup x = some .local := by first | exact .inl rfl | exact .inr rfl) (hf2 : X.fn y = true ∨ X.env.scope.names.lookup y = some .local := by first | exact .inl rfl | exact .inr rfl) (hf3 : X.fn z = true ∨ X.env.scope.names.lookup z = some .local := by first | exact .inl rfl | exact .inr rfl) : DG X (.Tuple [.Name x px, .Name y py, .Name z pz] kt pos) [i, j, l] (fTup3 i j l) :=
  ⟨_, pg_tup hc (pgs_cons (pg_name hN hi hx hf) (pgs_cons (pg_name hN hj hy hf2) (pgs_cons (pg_name hN hl hz hf3) pgs_nil))), fun H0 B ρ σ H v d ρ' R E r hf k => by
    cases r with
    | tup ha hv =>
      unfold fTup3 at hf
      split at hf
      · rename_i q
        cases q
        cases hf
        cases hv with
        | cons r1 t => cases t with
          | cons r2 t => cases t with
            | cons r3 t => cases t; exact ⟨_, _, rfl, ex_t E.ex ha, rfl, _, _, rfl, _, _, rfl, _, _, rfl, rfl, k _ (((E.set r1).set r2).set r3) fun vs h => by rw [wipe_set (h l (by simp)), wipe_set (h j (by simp)), wipe_set (h i (by simp))]⟩
      · cases hf
    | _ => cases hf⟩
/-! ### what is walked -/
def DWalk (K : PySem.W.Frag) (J : It) (B : Hp) (ds : List Dt) : Prop := ∃ (G : Hp → Prop) (Y : Nat → Hp → V → Hp → Prop), Walk J ds.length G Y ∧ (∀ H', Ex B H' → G H') ∧
  ∀ i H' x H'' Bn, i < ds.length → Ex B Bn → Ex Bn H' → Y i H' x H'' → ∃ Bn' d, Gr Bn H' Bn' H'' ∧ ds[i]? = some d ∧ Rp K Bn' x d
structure DI (X : Cx) (ρ : List Sl) (tg iter : Expr) (Q : List Dt → Prop) : Prop where
  ex : ∃ wi, PI X tg iter wi ∧ ∀ H0 B σ H (R : It → Hp → Prop), En X.K H0 B ρ σ H → (∀ B2 H2 J ds, Gr B H B2 H2 → En X.K H0 B2 ρ σ H2 → DWalk X.K J B2 ds → Q ds → R J H2) → wi σ H R
  fo : ∀ x, foldedSetIterable iter X.env x = pure x
abbrev lstQ (d : Dt) (Q : List Dt → Prop) : Prop := match d with
  | .lst ds => Q ds
  | _ => False
abbrev tuQ (d : Dt) (Q : List Dt → Prop) : Prop := match d with
  | .tup ds => Q ds
  | _ => False
theorem yat {K : PySem.W.Frag} {xs : List V} {ds : List Dt} (r : RpL K B xs ds) : ∀ i H' x H'' Bn, i < ds.length → Ex B Bn → Ex Bn H' → YAt xs i H' x H'' → ∃ Bn' d, Gr Bn H' Bn' H'' ∧ ds[i]? = some d ∧ Rp K Bn' x d := fun i H' x H'' Bn hi e1 e2 y => by
  obtain ⟨rfl, hx⟩ := y
  obtain ⟨d, hd, rd⟩ := r.at hx
  exact ⟨Bn, d, Gr.refl e2, hd, rd.ex e1⟩
theorem i_lst {Q : List Dt → Prop} (h : DE X ρ e fun d => lstQ d Q) (fo : ∀ x, foldedSetIterable e X.env x = pure x := by intro _; rfl) : DI X ρ tg e Q :=
  ⟨⟨_, pi_list pe_sem, fun H0 B σ H R E k => h.go E fun B2 v d H2 g E2 r q => by
    cases r with
    | lst ha hx => exact ⟨_, rfl, ⟨_, ex_l E2.ex ha⟩, k B2 H2 _ _ g E2 ⟨_, _, by rw [← hx.len]; exact walk_list, fun H' e' => ex_l e' ha, yat hx⟩ q⟩
    | _ => exact q.elim⟩, fo⟩
theorem i_tup {Q : List Dt → Prop} (h : DE X ρ e fun d => tuQ d Q) (fo : ∀ x, foldedSetIterable e X.env x = pure x := by intro _; rfl) : DI X ρ tg e Q :=
  ⟨⟨_, pi_tup pe_sem, fun H0 B σ H R E k => h.go E fun B2 v d H2 g E2 r q => by
    cases r with
    | tup ha hx => exact ⟨_, rfl, ⟨_, ex_t E2.ex ha⟩, k B2 H2 _ _ g E2 ⟨_, _, by rw [← hx.len]; exact walk_tup, fun H' e' => ex_t e' ha, yat hx⟩ q⟩
    | _ => exact q.elim⟩, fo⟩
def rngD (lo : Int) (n : Nat) : List Dt := (List.range n).map fun (k : Nat) => Dt.int (lo + (k : Int))
theorem rngD_len {lo : Int} {n : Nat} : (rngD lo n).length = n := by unfold rngD; rw [List.length_map, List.length_range]
theorem walk_rng {K : PySem.W.Frag} {lo : Int} {n : Nat} : DWalk K (Itr lo n) B (rngD lo n) := ⟨_, _, by rw [rngD_len]; exact walk_range, fun _ _ => True.intro, fun i H' x H'' Bn hi e1 e2 y => by
  obtain ⟨rfl, rfl⟩ := y
  rw [rngD_len] at hi
  refine ⟨Bn, .int (lo + (i : Int)), Gr.refl e2, ?_, .int _⟩
  unfold rngD
  rw [List.getElem?_map, List.getElem?_range hi]; rfl⟩
abbrev rngQ (d : Dt) (Q : List Dt → Prop) : Prop := match d with
  | .int n => (-(2 ^ 62) ≤ n ∧ n < 2 ^ 62) ∧ Q (rngD 0 n.toNat)
  | _ => False
theorem i_rng {Q : List Dt → Prop} {p : Pos} (hg : Gl X "range") (hm : X.mg "range" = none) (h : DE X ρ a fun d => rngQ d Q) (hs : starEach [a] X.env = (false, eval a X.env) :: starEach [] X.env := by rfl) (fo : ∀ x, foldedSetIterable (.Call (.Name "range" p) [a] [] pos) X.env x = pure x := by intro _; rfl) : DI X ρ tg (.Call (.Name "range" p) [a] [] pos) Q :=
  ⟨⟨_, pi_range1 hg hm (pa_cons pe_sem pa_nil hs) hs, fun H0 B σ H R E k => h.go E fun B2 v d H2 g E2 r q => by
    cases r with
    | int n => exact ⟨n, rfl, q.1.1, q.1.2, k B2 H2 _ _ g E2 walk_rng q.2⟩
    | _ => exact q.elim⟩, fo⟩
abbrev rng2Q (d d' : Dt) (Q : List Dt → Prop) : Prop := match d, d' with
  | .int l, .int n => (-(2 ^ 62) ≤ l ∧ l < 2 ^ 62 ∧ -(2 ^ 62) ≤ n ∧ n < 2 ^ 62) ∧ Q (rngD l (n - l).toNat)
  | _, _ => False
theorem i_rng2 {Q : List Dt → Prop} {p : Pos} (hg : Gl X "range") (hm : X.mg "range" = none) (h : DE X ρ a fun d => DE X ρ b fun d' => rng2Q d d' Q) (hs : starEach [a, b] X.env = (false, eval a X.env) :: starEach [b] X.env := by rfl) (hs2 : starEach [b] X.env = (false, eval b X.env) :: starEach [] X.env := by rfl) (fo : ∀ x, foldedSetIterable (.Call (.Name "range" p) [a, b] [] pos) X.env x = pure x := by intro _; rfl) : DI X ρ tg (.Call (.Name "range" p) [a, b] [] pos) Q :=
  ⟨⟨_, pi_range2 hg hm (pa_cons pe_sem (pa_cons pe_sem pa_nil hs2) hs) (hs.trans (by rw [hs2]; rfl)) hs2, fun H0 B σ H R E k => h.go E fun B2 v d H2 g E2 r q => q.go E2 fun B3 w d' H3 g3 E3 r3 q3 => by
    cases r with
    | int l =>
      cases r3 with
      | int n => exact ⟨l, n, rfl, q3.1, k B3 H3 _ _ (g.trans g3) E3 walk_rng q3.2⟩
      | _ => exact q3.elim
    | _ => cases r3 <;> exact q3.elim⟩, fo⟩
/-- pairs that are made on the way -/
theorem ypair {K : PySem.W.Frag} {xs ys : Nat → Option V} {f g : Nat → Option Dt} {ds : List Dt} (hx : ∀ i v, xs i = some v → i < ds.length → ∃ d, f i = some d ∧ Rp K B v d) (hy : ∀ i v, ys i = some v → i < ds.length → ∃ d, g i = some d ∧ Rp K B v d)
    (hd : ∀ i a b, f i = some a → g i = some b → i < ds.length → ds[i]? = some (.tup [a, b])) : ∀ i H' x H'' Bn, i < ds.length → Ex B Bn → Ex Bn H' → YPair xs ys i H' x H'' → ∃ Bn' d, Gr Bn H' Bn' H'' ∧ ds[i]? = some d ∧ Rp K Bn' x d := fun i H' x H'' Bn hi e1 e2 y => by
  obtain ⟨T, u, v, rfl, hT, rfl, h1, h2⟩ := y
  obtain ⟨a, ha, ra⟩ := hx i u h1 hi
  obtain ⟨b, hb, rb⟩ := hy i v h2 hi
  have gn := Gr.new (o := .tup [u, v]) e2 hT
  exact ⟨_, _, gn, hd i a b ha hb hi, .tup (st_of upd_same) (.cons ((ra.ex e1).ex gn.b) (.cons ((rb.ex e1).ex gn.b) .nil))⟩
def enumD (ds : List Dt) : List Dt := ds.zipIdx.map fun q => .tup [.int (q.2 : Int), q.1]
theorem enumD_len {ds : List Dt} : (enumD ds).length = ds.length := by unfold enumD; rw [List.length_map, List.length_zipIdx]
theorem enumD_at {ds : List Dt} {i : Nat} {d : Dt} (h : ds[i]? = some d) : (enumD ds)[i]? = some (.tup [.int (i : Int), d]) := by
  unfold enumD
  rw [List.getElem?_map, List.getElem?_zipIdx, h]
  simp
theorem walk_en {K : PySem.W.Frag} {xs : List V} {ds : List Dt} {J : It} {G : Hp → Prop} (w : Walk J xs.length G (YPair (fun i => some (.int (i : Nat))) (fun i => xs[i]?))) (hG : ∀ H', Ex B H' → G H') (r : RpL K B xs ds) : DWalk K J B (enumD ds) :=
  ⟨G, _, by rw [enumD_len, ← r.len]; exact w, hG, ypair (f := fun i => some (.int (i : Int))) (g := fun i => ds[i]?) (fun i v h _ => by cases h; exact ⟨_, rfl, .int _⟩) (fun i v h _ => r.at h) fun i a b ha hb _ => by cases ha; exact enumD_at hb⟩
theorem i_enumT {Q : List Dt → Prop} {p tpos : Pos} {elts : List Expr} {kk : Nat} (hg : Gl X "enumerate") (hm : X.mg "enumerate" = none) (h : DE X ρ a fun d => tuQ d fun ds => Q (enumD ds)) (hs : starEach [a] X.env = (false, eval a X.env) :: starEach [] X.env := by rfl) (fo : ∀ x, foldedSetIterable (.Call (.Name "enumerate" p) [a] [] pos) X.env x = pure x := by intro _; rfl) : DI X ρ (.Tuple elts kk tpos) (.Call (.Name "enumerate" p) [a] [] pos) Q :=
  ⟨⟨_, pi_enumT hg hm (pa_cons pe_sem pa_nil hs) hs, fun H0 B σ H R E k => h.go E fun B2 v d H2 g E2 r q => by
    cases r with
    | tup ha hx => exact ⟨_, _, rfl, ex_t E2.ex ha, k B2 H2 _ _ g E2 (walk_en walk_enumT (fun H' e' => ex_t e' ha) hx) q⟩
    | _ => exact q.elim⟩, fo⟩
theorem i_enumL {Q : List Dt → Prop} {p tpos : Pos} {elts : List Expr} {kk : Nat} (hg : Gl X "enumerate") (hm : X.mg "enumerate" = none) (h : DE X ρ a fun d => lstQ d fun ds => Q (enumD ds)) (hs : starEach [a] X.env = (false, eval a X.env) :: starEach [] X.env := by rfl) (fo : ∀ x, foldedSetIterable (.Call (.Name "enumerate" p) [a] [] pos) X.env x = pure x := by intro _; rfl) : DI X ρ (.Tuple elts kk tpos) (.Call (.Name "enumerate" p) [a] [] pos) Q :=
  ⟨⟨_, pi_enum hg hm (pa_cons pe_sem pa_nil hs) hs, fun H0 B σ H R E k => h.go E fun B2 v d H2 g E2 r q => by
    cases r with
    | lst ha hx => exact ⟨_, _, rfl, ex_l E2.ex ha, k B2 H2 _ _ g E2 (walk_en walk_enum (fun H' e' => ex_l e' ha) hx) q⟩
    | _ => exact q.elim⟩, fo⟩
def zipD (ds es : List Dt) : List Dt := (ds.zip es).map fun q => .tup [q.1, q.2]
theorem i_zipT {Q : List Dt → Prop} {p tpos : Pos} {elts : List Expr} {kk : Nat} (hg : Gl X "zip") (hm : X.mg "zip" = none) (h : DE X ρ a fun d => tuQ d fun ds => DE X ρ b fun d' => tuQ d' fun es => Q (zipD ds es)) (hs : starEach [a, b] X.env = (false, eval a X.env) :: starEach [b] X.env := by rfl) (hs2 : starEach [b] X.env = (false, eval b X.env) :: starEach [] X.env := by rfl)
    (hpl : (backTo pos (starEach [b] X.env)).any (·.1) = false := by rfl) (fo : ∀ x, foldedSetIterable (.Call (.Name "zip" p) [a, b] [] pos) X.env x = pure x := by intro _; rfl) : DI X ρ (.Tuple elts kk tpos) (.Call (.Name "zip" p) [a, b] [] pos) Q :=
  ⟨⟨_, RZ.pi_zipA hg hm (pa_cons pe_sem (pa_cons pe_sem pa_nil hs2) hs) hs hpl, fun H0 B σ H R E k => h.go E fun B2 v d H2 g E2 r q => by
    cases r with
    | tup ha hx =>
      refine q.go E2 fun B3 w d' H3 g3 E3 r3 q3 => ?_
      cases r3 with
      | tup hb hy =>
        refine ⟨_, _, _, _, rfl, .inr ⟨ex_t (g3.b.trans E3.ex) ha, ex_t E3.ex hb, k B3 H3 _ _ (g.trans g3) E3 ⟨_, _, walk_zT ?_, fun H' e' => ⟨ex_t (g3.b.trans e') ha, ex_t e' hb⟩, ?_⟩ q3⟩⟩
        · unfold zipD; rw [List.length_map, List.length_zip, hx.len, hy.len]
        · refine ypair (fun i v h _ => (hx.ex g3.b).at h) (fun i v h _ => hy.at h) fun i a b ha hb _ => ?_
          unfold zipD
          have hz : (List.zip _ _)[i]? = some (a, b) := List.getElem?_zip_eq_some.mpr ⟨ha, hb⟩
          rw [List.getElem?_map, hz]; rfl
      | _ => exact q3.elim
    | _ => exact q.elim⟩, fo⟩
/-! ### comprehensions -/
end
end Z
set_option Elab.async false
set_option linter.all false
set_option maxRecDepth 100000
set_option maxHeartbeats 4000000
namespace Z
open PySem PySem.Spec PyProof.Rows L2 Evl Y
section
variable {X : Cx} {ρ : List Sl} {e a b c o elt tst iter tg : Expr} {es : List Expr} {Q Q' : Dt → Prop} {H0 B B2 H H2 : Hp} {σ : L2.St} {i : Nat} {d : Dt} {pos p2 q1 q2 apos cpos spos : Pos} {nm : Str} {scope : Scope} {own : List (Str × Nat)}
/-- in a comprehension's block -/
def DEb (X : Cx) (scope : Scope) (ρ : List Sl) (e : Expr) (Q : Dt → Prop) : Prop := ∀ (s : Shared) (H' : Hp) (C : Addr) (cl : List (Str × Addr)) (fp : List Addr), DE (X.blk s H' scope (compEnvC scope cl C X.env) fp) ρ e Q
def DTb (X : Cx) (scope : Scope) (ρ : List Sl) (e : Expr) (Q : Bool → Prop) : Prop := ∀ (s : Shared) (H' : Hp) (C : Addr) (cl : List (Str × Addr)) (fp : List Addr), DT (X.blk s H' scope (compEnvC scope cl C X.env) fp) ρ e Q
def DGb (X : Cx) (scope : Scope) (tg : Expr) (js : List Nat) (f : List Sl → Dt → Option (List Sl)) : Prop := ∃ g, (∀ (s : Shared) (H : Hp) (C : Addr) (cl : List (Str × Addr)) (fp : List Addr), PG (X.blk s H scope (compEnvC scope cl C X.env) fp) tg g) ∧
  ∀ H0 B ρ σ H x d ρ' (R : L2.St → Hp → Prop), En X.K H0 B ρ σ H → Rp X.K B x d → f ρ d = some ρ' → (∀ σ', En X.K H0 B ρ' σ' H → (∀ vs : List Nat, (∀ j ∈ js, j ∈ vs) → L2.wipe σ' vs = L2.wipe σ vs) → R σ' H) → g x σ H R
theorem gb_nm (j : Nat) {xn : Str} {px : Pos} (hg : ∀ (s : Shared) (H : Hp) (C : Addr) (cl : List (Str × Addr)) (fp : List Addr), PG (X.blk s H scope (compEnvC scope cl C X.env) fp) (.Name xn px) (gName j)) : DGb X scope (.Name xn px) [j] (fNm j) :=
  ⟨gName j, hg, fun H0 B ρ σ H x d ρ' R E r hf k => by cases hf; exact k _ (E.set r) fun vs h => wipe_set (h j List.mem_cons_self)⟩
theorem gb_tup2 (i j : Nat) {xn yn : Str} {px py : Pos} {kt : Nat} (hg : ∀ (s : Shared) (H : Hp) (C : Addr) (cl : List (Str × Addr)) (fp : List Addr), PG (X.blk s H scope (compEnvC scope cl C X.env) fp) (.Tuple [.Name xn px, .Name yn py] kt pos) (gTup X.K 2 (gCons (gName i) (gCons (gName j) gNil)))) : DGb X scope (.Tuple [.Name xn px, .Name yn py] kt pos) [i, j] (fTup2 i j) :=
  ⟨_, hg, fun H0 B ρ σ H v d ρ' R E r hf k => by
    cases r with
    | tup ha hv =>
      unfold fTup2 at hf
      split at hf
      · rename_i q
        cases q
        cases hf
        cases hv with
        | cons r1 t => cases t with
          | cons r2 t => cases t; exact ⟨_, _, rfl, ex_t E.ex ha, rfl, _, _, rfl, _, _, rfl, rfl, k _ ((E.set r1).set r2) fun vs h => by rw [wipe_set (h j (by simp)), wipe_set (h i (by simp))]⟩
      · cases hf
    | _ => cases hf⟩
theorem gb_tup3 (i j l : Nat) {xn yn zn : Str} {px py pz : Pos} {kt : Nat} (hg : ∀ (s : Shared) (H : Hp) (C : Addr) (cl : List (Str × Addr)) (fp : List Addr), PG (X.blk s H scope (compEnvC scope cl C X.env) fp) (.Tuple [.Name xn px, .Name yn py, .Name zn pz] kt pos) (gTup X.K 3 (gCons (gName i) (gCons (gName j) (gCons (gName l) gNil))))) : DGb X scope (.Tuple [.Name xn px, .Name yn py, .Name zn pz] kt pos) [i, j, l] (fTup3 i j l) :=
  ⟨_, hg, fun H0 B ρ σ H v d ρ' R E r hf k => by
    cases r with
    | tup ha hv =>
      unfold fTup3 at hf
      split at hf
      · rename_i q
        cases q
        cases hf
        cases hv with
        | cons r1 t => cases t with
          | cons r2 t => cases t with
            | cons r3 t => cases t; exact ⟨_, _, rfl, ex_t E.ex ha, rfl, _, _, rfl, _, _, rfl, _, _, rfl, rfl, k _ (((E.set r1).set r2).set r3) fun vs h => by rw [wipe_set (h l (by simp)), wipe_set (h j (by simp)), wipe_set (h i (by simp))]⟩
      · cases hf
    | _ => cases hf⟩
/-- the turns of a comprehension: what has been gathered -/
abbrev LcQ (X : Cx) (scope : Scope) (own : List (Str × Nat)) (ρ : List Sl) (f : List Sl → Dt → Option (List Sl)) (body : List Sl → List Dt → (List Dt → Prop) → Prop) (ds : List Dt) (Q : Dt → Prop) : Prop :=
  ds.length ≤ 100000 ∧ ∃ A : Nat → List Dt → Prop, A 0 [] ∧ (∀ n d acc, ds[n]? = some d → A n acc → ∃ ρ', f (wipeD ρ (own.map (·.2))) d = some ρ' ∧ body ρ' acc (A (n + 1))) ∧ ∀ acc, acc.length ≤ ds.length → A ds.length acc → Q (.lst acc)
/-- what the walk and the turns come to -/
theorem lc_run {js : List Nat} {f : List Sl → Dt → Option (List Sl)} {body : List Sl → List Dt → (List Dt → Prop) → Prop} {g : TG} {tt : TT} {te : TE} {J : It} {ds : List Dt} {D : Addr} {Qd : Hp → Prop}
    (hg : ∀ H0 B ρ σ H x d ρ' (R : L2.St → Hp → Prop), En X.K H0 B ρ σ H → Rp X.K B x d → f ρ d = some ρ' → (∀ σ', En X.K H0 B ρ' σ' H → (∀ vs : List Nat, (∀ j ∈ js, j ∈ vs) → L2.wipe σ' vs = L2.wipe σ vs) → R σ' H) → g x σ H R)
    (hj : ∀ j ∈ js, j ∈ own.map (·.2)) (E : En X.K H0 B ρ σ H) (w : DWalk X.K J B ds) (hD : H D = none) (h : LcQ X scope own ρ f body ds Q)
    (hb : ∀ ρ' σ' B' H' acc (P : List Dt → Prop) (R : V → Hp → Prop) (N : Hp → Prop), En X.K H0 B' ρ' σ' H' → body ρ' acc P → (∀ B3 d H3, Gr B' H' B3 H3 → ∀ v, Rp X.K B3 v d → P (acc ++ [d]) → R v H3) → (∀ B3 H3, Gr B' H' B3 H3 → P acc → N H3) → tt σ' H' fun b H3 => if b = true then te σ' H3 R else N H3)
    (hq : ∀ B3 H3 acc, Gr B H B3 H3 → B3 D = none → Od X.K B3 H3 D (.lst acc) → Q (.lst acc) → Qd H3) :
    ∃ W : Nat → Nat → Hp → Prop, (∃ m, W 0 m (upd H D (.lst []))) ∧ ∀ i m H, W i m H →
      (J.stop i H ∧ Qd H) ∨ (J.go i H ∧ ∃ Nx : Hp → Prop, (∀ H', Nx H' → ∃ m', m' < m ∧ W (i + 1) m' H') ∧ ∀ x H', J.yld i H x H' → g x (L2.wipe σ (own.map (·.2))) H' fun σ2 H2 => L2.wipe σ2 (own.map (·.2)) = L2.wipe σ (own.map (·.2)) ∧ tt σ2 H2 fun b H3 =>
        if b = true then te σ2 H3 fun y H4 => ∃ acc, H4 D = some (.lst acc) ∧ acc.length < sizeLine ∧ Nx (upd H4 D (.lst (acc ++ [y]))) else Nx H3) := by
  obtain ⟨G, Y, wk, hG, hY⟩ := w
  obtain ⟨hz, A, a0, as, ad⟩ := h
  have hBD : B D = none := fresh_back E.ex hD
  have st : ∀ B3 H3 vs, Gr B H B3 H3 → H3 D = some (.lst vs) → B3 D = none → True := fun _ _ _ _ _ _ => True.intro
  refine lc_it wk (fun n H' => n ≤ ds.length ∧ ∃ Bn vs acc, Gr B H Bn H' ∧ Bn D = none ∧ H' D = some (.lst vs) ∧ RpL X.K Bn vs acc ∧ acc.length ≤ n ∧ A n acc) ⟨Nat.zero_le _, B, [], [], ⟨Ex.refl _, Ex.new hD, Ex.mut E.ex hBD, fun _ _ _ _ q => q⟩, hBD, upd_same, .nil, Nat.le_refl _, a0⟩ ?_ ?_ ?_
  · rintro n H' _ ⟨_, Bn, vs, acc, g1, _⟩
    exact hG H' (g1.b.trans g1.s)
  · rintro n x H' H'' hn ⟨_, Bn, vs, acc, g1, n1, h1, r1, l1, p1⟩ y
    obtain ⟨Bm, d, g2, hd, rd⟩ := hY n H' x H'' Bn hn g1.b g1.s y
    obtain ⟨ρ', hf, bd⟩ := as n d acc hd p1
    have E1 : En X.K H0 Bm (wipeD ρ (own.map (·.2))) (L2.wipe σ (own.map (·.2))) H'' := ((E.gr g1).gr g2).wipe _
    have nm : Bm D = none := g2.o D _ h1 rfl n1
    have hm : H'' D = some (.lst vs) := g2.h _ _ h1
    refine hg H0 Bm _ _ H'' x d ρ' _ E1 rd hf fun σ' E2 hw => ⟨?_, ?_⟩
    · rw [hw _ hj]
      exact wipe_idem
    · refine hb ρ' σ' Bm H'' acc (A (n + 1)) _ _ E2 bd (fun B3 d' H3 g3 v rv pa => ?_) fun B3 H3 g3 pa => ?_
      · have gg := (g1.trans g2).trans g3
        have n3 : B3 D = none := g3.o D _ hm rfl nm
        have h3 : H3 D = some (.lst vs) := g3.h _ _ hm
        refine ⟨vs, h3, ?_, hn, B3, vs ++ [v], acc ++ [d'], ⟨gg.b, Ex.mut gg.h hD, Ex.mut gg.s n3, gg.o⟩, n3, upd_same, ((r1.ex g2.b).ex g3.b).app (.cons rv .nil), by rw [List.length_append]; exact Nat.add_le_add_right l1 1, pa⟩
        have := r1.len
        exact sz_lt (by omega)
      · exact ⟨hn, B3, vs, acc, (g1.trans g2).trans g3, g3.o D _ hm rfl nm, g3.h _ _ hm, (r1.ex g2.b).ex g3.b, Nat.le_succ_of_le l1, pa⟩
  · rintro H' ⟨_, Bn, vs, acc, g1, n1, h1, r1, l1, p1⟩
    exact hq Bn H' acc g1 n1 ⟨vs, h1, r1⟩ (ad acc l1 p1)
theorem n_lc {js : List Nat} {f : List Sl → Dt → Option (List Sl)} (hc : X.calm = true) (hN : X.N.Nodup) (ok : BlkOk X.N X.env.scope scope own) (hg : DGb X scope tg js f) (hj : ∀ j ∈ js, j ∈ own.map (·.2))
    (hi : DI X ρ tg iter fun ds => LcQ X scope own ρ f (fun ρ' acc P => DEb X scope ρ' elt fun d => P (acc ++ [d])) ds Q) : DN X ρ (.ListComp elt [⟨tg, iter, [], 0⟩] scope pos) Q := by
  obtain ⟨wi, pi, hw⟩ := hi.ex
  obtain ⟨g, pg, gg⟩ := hg
  refine ⟨fun H0 B σ H E => sem_of (pe_lc hc hN pi ok pg (fun _ _ _ _ _ => pts_nil) (fun s H' C cl fp => pe_blk s H' C cl fp) hi.fo) (hw H0 B σ H _ E fun B2 H2 J ds g2 E2 w q D hD => ?_)⟩
  refine lc_run gg hj E2 w hD q (fun ρ' σ' B' H' acc P R N E' bd k1 k2 => ?_) fun B3 H3 acc g3 n3 o3 q3 => ⟨B3, D, _, g2.trans g3, rfl, fresh_back g2.h hD, n3, o3, q3⟩
  exact iteT (B := N H') fun s H'' C cl fp => (bd s H'' C cl fp).go E' fun B3 v d H3 g3 _ r3 q3 => k1 B3 d H3 g3 v r3 q3
theorem n_lct {js : List Nat} {f : List Sl → Dt → Option (List Sl)} (hc : X.calm = true) (hN : X.N.Nodup) (ok : BlkOk X.N X.env.scope scope own) (hg : DGb X scope tg js f) (hj : ∀ j ∈ js, j ∈ own.map (·.2))
    (hi : DI X ρ tg iter fun ds => LcQ X scope own ρ f (fun ρ' acc P => DTb X scope ρ' tst fun z => (z = true → DEb X scope ρ' elt fun d => P (acc ++ [d])) ∧ (z = false → P acc)) ds Q) : DN X ρ (.ListComp elt [⟨tg, iter, [tst], 0⟩] scope pos) Q := by
  obtain ⟨wi, pi, hw⟩ := hi.ex
  obtain ⟨g, pg, gg⟩ := hg
  refine ⟨fun H0 B σ H E => sem_of (pe_lc hc hN pi ok pg (fun s H' C cl fp => pts_one (pt_blk s H' C cl fp)) (fun s H' C cl fp => pe_blk s H' C cl fp) hi.fo) (hw H0 B σ H _ E fun B2 H2 J ds g2 E2 w q D hD => ?_)⟩
  refine lc_run gg hj E2 w hD q (fun ρ' σ' B' H' acc P R N E' bd k1 k2 => ?_) fun B3 H3 acc g3 n3 o3 q3 => ⟨B3, D, _, g2.trans g3, rfl, fresh_back g2.h hD, n3, o3, q3⟩
  exact fun s H'' C cl fp => (bd s H'' C cl fp).go E' fun B3 z H3 g3 E3 q3 => by
    cases z with
    | true => exact iteT (B := N H3) fun s H'' C cl fp => (q3.1 rfl s H'' C cl fp).go E3 fun B4 v d H4 g4 _ r4 q4 => k1 B4 d H4 (g3.trans g4) v r4 q4
    | false =>
      rw [if_neg Bool.false_ne_true]
      exact k2 B3 H3 g3 (q3.2 rfl)
/-- each item's data by itself -/
theorem LcQ.map {f : List Sl → Dt → Option (List Sl)} {ds : List Dt} (F : Dt → Dt) (hz : ds.length ≤ 100000) (h : ∀ d ∈ ds, ∃ ρ', f (wipeD ρ (own.map (·.2))) d = some ρ' ∧ DEb X scope ρ' elt fun r => r = F d) (q : Q (.lst (ds.map F))) :
    LcQ X scope own ρ f (fun ρ' acc P => DEb X scope ρ' elt fun d => P (acc ++ [d])) ds Q :=
  ⟨hz, fun n acc => acc = (ds.take n).map F, rfl, fun n d acc hd ha => by
    obtain ⟨ρ', h1, h2⟩ := h d (List.mem_of_getElem? hd)
    refine ⟨ρ', h1, fun s H' C cl fp => (h2 s H' C cl fp).weak fun r hr => ?_⟩
    have ha : acc = (ds.take n).map F := ha
    show acc ++ [r] = (ds.take (n + 1)).map F
    rw [hr, ha, List.take_succ, hd, List.map_append]; rfl, fun acc _ ha => by
    have ha : acc = (ds.take ds.length).map F := ha
    rw [ha, List.take_length]; exact q⟩
theorem LcQ.filt {f : List Sl → Dt → Option (List Sl)} {ds : List Dt} (p : Dt → Bool) (F : Dt → Dt) (hz : ds.length ≤ 100000)
    (h : ∀ d ∈ ds, ∃ ρ', f (wipeD ρ (own.map (·.2))) d = some ρ' ∧ DTb X scope ρ' tst (fun z => z = p d) ∧ (p d = true → DEb X scope ρ' elt fun r => r = F d)) (q : Q (.lst ((ds.filter p).map F))) :
    LcQ X scope own ρ f (fun ρ' acc P => DTb X scope ρ' tst fun z => (z = true → DEb X scope ρ' elt fun d => P (acc ++ [d])) ∧ (z = false → P acc)) ds Q :=
  ⟨hz, fun n acc => acc = ((ds.take n).filter p).map F, rfl, fun n d acc hd ha => by
    obtain ⟨ρ', h1, h2, h3⟩ := h d (List.mem_of_getElem? hd)
    refine ⟨ρ', h1, fun s H' C cl fp => (h2 s H' C cl fp).weak fun z hz => ⟨fun zt s H' C cl fp => (h3 (hz.symm.trans zt) s H' C cl fp).weak fun r hr => ?_, fun zf => ?_⟩⟩
    · have ha : acc = ((ds.take n).filter p).map F := ha
      show acc ++ [r] = ((ds.take (n + 1)).filter p).map F
      rw [hr, ha, List.take_succ, hd, List.filter_append, List.map_append]
      rw [show List.filter p (some d).toList = [d] by rw [Option.toList_some, List.filter_cons_of_pos (hz.symm.trans zt)]; rfl]; rfl
    · have ha : acc = ((ds.take n).filter p).map F := ha
      show acc = ((ds.take (n + 1)).filter p).map F
      rw [ha, List.take_succ, hd, List.filter_append, List.map_append]
      rw [show List.filter p (some d).toList = [] by rw [Option.toList_some, List.filter_cons_of_neg (by rw [← hz, zf]; exact Bool.false_ne_true)]; rfl, List.map_nil, List.append_nil], fun acc _ ha => by
    have ha : acc = ((ds.take ds.length).filter p).map F := ha
    rw [ha, List.take_length]; exact q⟩
end
end Z
set_option Elab.async false
set_option linter.all false
set_option maxRecDepth 100000
set_option maxHeartbeats 4000000
namespace Z
open PySem PySem.Spec PyProof.Rows L2 Evl Y
structure DEnds where
  nx : List Sl → Prop
  rt : Dt → Prop
  bk : List Sl → Prop := fun _ => False
  ct : List Sl → Prop := fun _ => False
  r1 : Dt → Prop := fun _ => False
  r2 : Dt → Dt → Prop := fun _ _ => False
/-- two new objects in a new tuple -/
structure Two (K : PySem.W.Frag) (H0 B H : Hp) (p : Addr) (d1 d2 : Dt) : Prop where
  ex : ∃ a1 a2, H p = some (.tup [.ref a1, .ref a2]) ∧ B a1 = none ∧ B a2 = none ∧ H0 a1 = none ∧ H0 a2 = none ∧ a1 ≠ a2 ∧ Od K B H a1 d1 ∧ Od K B H a2 d2
structure Lift (K : PySem.W.Frag) (H0 B0 : Hp) (E : DEnds) (D : Ends) : Prop where
  nx : ∀ ρ B σ H, E.nx ρ → Gr B0 H0 B H → En K H0 B ρ σ H → D.nx σ H
  rt : ∀ d B v H, E.rt d → Gr B0 H0 B H → Rp K B v d → D.rt v H
  bk : ∀ ρ B σ H, E.bk ρ → Gr B0 H0 B H → En K H0 B ρ σ H → D.bk σ H
  ct : ∀ ρ B σ H, E.ct ρ → Gr B0 H0 B H → En K H0 B ρ σ H → D.ct σ H
  r1 : ∀ d B a H, E.r1 d → Gr B0 H0 B H → B a = none → H0 a = none → Od K B H a d → D.rt (.ref a) H
  r2 : ∀ d1 d2 B p H, E.r2 d1 d2 → Gr B0 H0 B H → Two K H0 B H p d1 d2 → D.rt (.ref p) H
/-- a block runs to its ends -/
structure DS (X : Cx) (ρ : List Sl) (ss : List Stmt) (E : DEnds) : Prop where
  run : ∀ H0 B0 B σ H D, Gr B0 H0 B H → En X.K H0 B ρ σ H → Lift X.K H0 B0 E D → semS X ss D σ H
/-- the frozen part as where one has come from -/
noncomputable def root (B H0 : Hp) : Hp := fun a => match B a with
  | some o => some o
  | none => H0 a
section
variable {K : PySem.W.Frag} {B0 B Bn H0 H H' : Hp} {ρ ρ' : List Sl} {σ σ' : L2.St}
theorem root_none {a : Addr} (h : B a = none) : root B H0 a = H0 a := by unfold root; rw [h]
theorem root_sub (s : Ex B H) (h : Ex H0 H) : Ex (root B H0) H := fun a o e => by
  unfold root at e
  split at e
  · rename_i q; cases e; exact s _ _ q
  · exact h _ _ e
theorem root_ex (s : Ex B H) (h : Ex H0 H) : Ex H0 (root B H0) := fun a o e => by
  unfold root
  split
  · rename_i q; rw [← h _ _ e, s _ _ q]
  · exact e
theorem root_b : Ex B (root B H0) := fun a o e => by unfold root; rw [e]
theorem Gr.root (g : Gr B0 H0 B H) : Gr B (Z.root B H0) B H := ⟨Ex.refl _, root_sub g.s g.h, g.s, fun _ _ _ _ q => q⟩
theorem Gr.unroot (g : Gr B0 H0 B H) (g2 : Gr B (Z.root B H0) Bn H') : Gr B0 H0 Bn H' := ⟨g.b.trans g2.b, (root_ex g.s g.h).trans g2.h, g2.s, fun a u h m q => g2.o a u (by rw [root_none (g.o a u h m q)]; exact h) m (g.o a u h m q)⟩
theorem En.root (E : En K H0 B ρ σ H) : En K (Z.root B H0) B ρ σ H := ⟨E.ex, E.len, E.fr, fun i d h => by
  obtain ⟨p, a, b, c, o⟩ := E.ow i d h
  exact ⟨p, a, b, (root_none b).trans c, o⟩, E.sep⟩
theorem En.unroot (g : Gr B0 H0 B H) (E : En K (Z.root B H0) Bn ρ' σ' H') : En K H0 Bn ρ' σ' H' := ⟨E.ex, E.len, E.fr, fun i d h => by
  obtain ⟨p, a, b, c, o⟩ := E.ow i d h
  refine ⟨p, a, b, ?_, o⟩
  cases e : H0 p with
  | none => rfl
  | some u => exact absurd ((root_ex g.s g.h _ _ e).symm.trans c) nofun, E.sep⟩
theorem root_less {a : Addr} (g : Gr B0 H0 B H) (h : Z.root B H0 a = none) : H0 a = none := by
  cases e : H0 a with
  | none => rfl
  | some u => exact absurd ((root_ex g.s g.h _ _ e).symm.trans h) nofun
theorem En.more (E : En K H0 B ρ σ H) (e : Ex H H') : En K H0 B ρ σ H' := E.gr (Gr.more E.ex e)
end
section
variable {X : Cx} {ρ : List Sl} {e a b c o elt tst iter tg : Expr} {es : List Expr} {Q Q' : Dt → Prop} {H0 B B0 B2 H H2 : Hp} {σ : L2.St} {i j : Nat} {d : Dt} {pos pos' p2 q1 q2 apos cpos spos px py pt : Pos} {nm : Str} {rest ss tt body : List Stmt} {E : DEnds} {D : Ends} {js : List Nat} {f : List Sl → Dt → Option (List Sl)}
theorem DS.rx (h : DS X ρ ss E) (g : Gr B0 H0 B H) (En : En X.K H0 B ρ σ H) (L : Lift X.K H0 B0 E D) : RX X ss D σ H := ⟨fun H1 e1 => h.run H0 B0 B σ H1 D (g.trans (Gr.more g.s e1)) (En.more e1) L⟩
theorem s_nil (q : E.nx ρ) : DS X ρ [] E := ⟨fun H0 B0 B σ H D g En L => semS_of pss_nil (L.nx ρ B σ H q g En)⟩
theorem s_set (i : Nat) (h : DE X ρ e fun d => DS X (ρ.set i (.fr d)) rest E) (hN : X.N.Nodup) (hi : X.N[i]? = some nm := by rfl) (hx : Loc X.env.scope nm := by first | exact Or.inl rfl | exact Or.inr rfl)
    (hs : swapsWith e (some (.Name nm pos')) pos.line X.env = pure false := by rfl) (hf : X.fn nm = true ∨ X.env.scope.names.lookup nm = some .local := by first | exact .inl rfl | exact .inr rfl) : DS X ρ (.Assign [.Name nm pos'] e pos :: rest) E :=
  ⟨fun H0 B0 B σ H D g En L => semS_of (pss_cons (ps_set hN hi hx pe_sem hs hf) pss_sem) (h.go En fun B2 v d H2 g2 E2 r q => q.run H0 B0 B2 _ H2 D (g.trans g2) (E2.set r) L)⟩
/-- a new object of one's own is no slot's -/
theorem En.noSlot {K : PySem.W.Frag} {p : Addr} (E1 : En K H0 B ρ σ H) (hp : H p = none) : ∀ (j : Nat) (d : Dt), ρ[j]? = some (Sl.ow d) → σ[j]? = some (some (V.ref p)) → j = i := fun j d h1 h2 => by
  obtain ⟨q, a, _, _, od⟩ := E1.ow j d h1
  rw [h2] at a
  cases a
  obtain ⟨u, hu, _⟩ := od.mut
  rw [hp] at hu; cases hu
theorem s_setO (i : Nat) (h : DN X ρ e fun d => DS X (ρ.set i (.ow d)) rest E) (hN : X.N.Nodup) (hi : X.N[i]? = some nm := by rfl) (hx : Loc X.env.scope nm := by first | exact Or.inl rfl | exact Or.inr rfl)
    (hs : swapsWith e (some (.Name nm pos')) pos.line X.env = pure false := by rfl) (hf : X.fn nm = true ∨ X.env.scope.names.lookup nm = some .local := by first | exact .inl rfl | exact .inr rfl) : DS X ρ (.Assign [.Name nm pos'] e pos :: rest) E :=
  ⟨fun H0 B0 B σ H D g En L => semS_of (pss_cons (ps_set hN hi hx pe_sem hs hf) pss_sem) (h.go En fun B2 p d H2 g2 E2 hp hb od q => q.run H0 B0 B2 _ H2 D (g.trans g2) (E2.setO hb (fresh_back g.h hp) od (Z.En.noSlot En hp)) L)⟩
/-- a, b = e -/
theorem s_asg {tg : Expr} (h : DE X ρ e fun d => ∃ ρ', f ρ d = some ρ' ∧ DS X ρ' rest E) (hg : DG X tg js f) (hs : swapsWithSole [tg] e pos.line X.env = pure false := by rfl) (hw : swappedStores [tg] e X.env = pure none := by rfl)
    (h1 : (assignEach [tg] X.env).map (·.2) = [assign tg X.env] := by rfl) : DS X ρ (.Assign [tg] e pos :: rest) E := by
  obtain ⟨gt, pg, gg⟩ := hg.ex
  exact ⟨fun H0 B0 B σ H D g En L => semS_of (pss_cons (ps_asg pe_sem pg hs hw h1) pss_sem) (h.go En fun B2 v d H2 g2 E2 r ⟨ρ', hf, q⟩ => gg H0 B2 ρ σ H2 v d ρ' _ E2 r hf fun σ' E3 _ => q.run H0 B0 B2 σ' H2 D (g.trans g2) E3 L)⟩
/-- a, b = x, y -/
theorem s_par {kt k2 : Nat} {pt2 : Pos} {nx ny : Str} (i j : Nat) (h : DL X ρ [a, b] fun ds => ∃ x y, ds = [x, y] ∧ DS X ((ρ.set i (.fr x)).set j (.fr y)) rest E) (hc : X.calm = true) (hN : X.N.Nodup) (hij : i ≠ j) (hi : X.N[i]? = some nx := by rfl) (hj : X.N[j]? = some ny := by rfl)
    (hx : X.env.scope.names.lookup nx = some .local := by rfl) (hy : X.env.scope.names.lookup ny = some .local := by rfl)
    (hw : swappedStores [.Tuple [.Name nx px, .Name ny py] kt pt] (.Tuple [a, b] k2 pt2) X.env = pure (some [nx, ny]) := by rfl) (hs : swapsWithSole [.Tuple [.Name nx px, .Name ny py] kt pt] (.Tuple [a, b] k2 pt2) pos.line X.env = pure false := by rfl) :
    DS X ρ (.Assign [.Tuple [.Name nx px, .Name ny py] kt pt] (.Tuple [a, b] k2 pt2) pos :: rest) E :=
  ⟨fun H0 B0 B σ H D g En L => semS_of (pss_cons (ps_par hc hN hi hj hij hx hy pa_sem hw hs) pss_sem) (h.go En fun B2 vs ds H2 g2 E2 rs ⟨x, y, ed, q⟩ => by
    subst ed
    cases rs with
    | cons r1 t => cases t with
      | cons r2 t => cases t; exact ⟨_, _, rfl, q.run H0 B0 B2 _ H2 D (g.trans g2) ((E2.set r1).set r2) L⟩)⟩
theorem s_if (h : DT X ρ c fun z => (z = true → DS X ρ ss { E with nx := fun ρ' => DS X ρ' rest E }) ∧ (z = false → DS X ρ tt { E with nx := fun ρ' => DS X ρ' rest E })) : DS X ρ (.If c ss tt pos :: rest) E :=
  ⟨fun H0 B0 B σ H D g En L => semS_of (pss_cons (ps_if pt_sem pss_sem pss_sem) pss_sem) (h.go En fun B2 z H2 g2 E2 q => by
    have L' : Lift X.K H0 B0 { E with nx := fun ρ' => DS X ρ' rest E } { D with nx := semS X rest D } := ⟨fun ρ' B σ H q g E => q.run H0 B0 B σ H D g E L, L.rt, L.bk, L.ct, L.r1, L.r2⟩
    cases z with
    | true => exact (q.1 rfl).run H0 B0 B2 σ H2 _ (g.trans g2) E2 L'
    | false => exact (q.2 rfl).run H0 B0 B2 σ H2 _ (g.trans g2) E2 L')⟩
/-- an if without else -/
theorem s_when (h : DT X ρ c fun z => (z = true → DS X ρ ss { E with nx := fun ρ' => DS X ρ' rest E }) ∧ (z = false → DS X ρ rest E)) : DS X ρ (.If c ss [] pos :: rest) E := s_if (h.weak fun z q => ⟨q.1, fun y => s_nil (q.2 y)⟩)
theorem s_ret (h : DE X ρ e E.rt) : DS X ρ (.Return (some e) pos :: rest) E :=
  ⟨fun H0 B0 B σ H D g En L => semS_of (pss_cons (ps_ret pe_sem) pss_sem) (h.go En fun B2 v d H2 g2 E2 r q => L.rt d B2 v H2 q (g.trans g2) r)⟩
/-- return x, x one's own -/
theorem s_retO (i : Nat) {x : Str} {d : Dt} (hi : ρ[i]? = some (.ow d)) (q : E.r1 d) (hN : X.N[i]? = some x := by rfl) (hv : Vis X.env.scope x := by first | exact Or.inl rfl | exact Or.inr (Or.inl rfl) | exact Or.inr (Or.inr rfl))
    (hd : (x == ("__debug__" : Str)) = false := by decide) (hcd : (x == ("__classdict__" : Str)) = false := by decide) : DS X ρ (.Return (some (.Name x px)) pos :: rest) E :=
  ⟨fun H0 B0 B σ H D g En L => by
    obtain ⟨p, hσ, hb, h0, od⟩ := En.ow i _ hi
    refine semS_of (pss_cons (ps_ret pe_sem) pss_sem) (EV.ev (ev_nm i hσ hN hv hd hcd) H (Evl.Ex.refl _) _ fun H1 e1 => ?_)
    exact L.r1 d B p H1 q (g.trans (Gr.more g.s e1)) hb h0 (od.ex (Evl.Ex.refl _) (by obtain ⟨u, hu, _⟩ := od.mut; rw [hu, e1 _ _ hu]))⟩
/-- return x, y, both one's own -/
theorem s_retO2 (i j : Nat) {x y : Str} {d d' : Dt} {kt : Nat} (hij : i ≠ j) (hi : ρ[i]? = some (.ow d)) (hj : ρ[j]? = some (.ow d')) (q : E.r2 d d') (hN : X.N[i]? = some x := by rfl) (hN2 : X.N[j]? = some y := by rfl) (hv : Vis X.env.scope x := by first | exact Or.inl rfl | exact Or.inr (Or.inl rfl) | exact Or.inr (Or.inr rfl)) (hv2 : Vis X.env.scope y := by first | exact Or.inl rfl | exact Or.inr (Or.inl rfl) | exact Or.inr (Or.inr rfl))
    (hd : (x == ("__debug__" : Str)) = false := by decide) (hcd : (x == ("__classdict__" : Str)) = false := by decide) (hd2 : (y == ("__debug__" : Str)) = false := by decide) (hcd2 : (y == ("__classdict__" : Str)) = false := by decide)
    (he : starEach [.Name x px, .Name y py] X.env = (false, eval (.Name x px) X.env) :: starEach [.Name y py] X.env := by rfl) (he2 : starEach [.Name y py] X.env = (false, eval (.Name y py) X.env) :: starEach [] X.env := by rfl) : DS X ρ (.Return (some (.Tuple [.Name x px, .Name y py] kt pt)) pos :: rest) E :=
  ⟨fun H0 B0 B σ H D g En L => by
    obtain ⟨p, hσ, hb, h0, od⟩ := En.ow i _ hi
    obtain ⟨p', hσ', hb', h0', od'⟩ := En.ow j _ hj
    have ne : p ≠ p' := fun z => by subst z; exact En.sep i j d d' p hij hi hj hσ hσ'
    refine semS_of (pss_cons (ps_ret pe_sem) pss_sem) (sem_mono ((en_tupV (AV.cons (ev_nm i hσ hN hv hd hcd) (AV.cons (ev_nm j hσ' hN2 hv2 hd2 hcd2) AV.nil he2) he) (by show 2 ≤ 100000; decide)).run H (Evl.Ex.refl _)) fun v H2 ⟨e2, r, ev, _, hr⟩ => ?_)
    subst ev
    have st : ∀ {a : Addr} {z : Dt}, Od X.K B H a z → H2 a = H a := fun o => by obtain ⟨u, hu, _⟩ := o.mut; rw [hu, e2 _ _ hu]
    exact L.r2 d d' B r H2 q (g.trans (Gr.more g.s e2)) ⟨p, p', hr, hb, hb', h0, h0', ne, od.ex (Evl.Ex.refl _) (st od), od'.ex (Evl.Ex.refl _) (st od')⟩⟩
theorem s_expr (h : DA X ρ e fun _ => DS X ρ rest E) (hs : swapsWith e none pos.line X.env = pure false := by rfl) : DS X ρ (.Expr e pos :: rest) E :=
  ⟨fun H0 B0 B σ H D g En L => semS_of (pss_cons (ps_expr pe_sem hs) pss_sem) (h.go En fun B2 v d H2 g2 E2 r q => q.run H0 B0 B2 σ H2 D (g.trans g2) E2 L)⟩
/-- an object of one's own is frozen -/
theorem s_freeze (i : Nat) {d : Dt} (hi : ρ[i]? = some (.ow d)) (h : DS X (ρ.set i (.fr d)) ss E) : DS X ρ ss E :=
  ⟨fun H0 B0 B σ H D g En L => by
    obtain ⟨B2, E2, k⟩ := En.freeze hi
    exact h.run H0 B0 B2 σ H D (k B0 g) E2 L⟩
theorem s_forget (i : Nat) (h : DS X (ρ.set i .un) ss E) : DS X ρ ss E := ⟨fun H0 B0 B σ H D g En L => h.run H0 B0 B σ H D g En.forget L⟩
/-- xs.append(e) of a list of one's own -/
theorem s_append (i : Nat) {x : Str} {ds : List Dt} (hi : ρ[i]? = some (.ow (.lst ds))) (h : DE X ρ e fun d => ds.length < 100000 ∧ DS X (ρ.set i (.ow (.lst (ds ++ [d])))) rest E) (hN : X.N[i]? = some x := by rfl) (hv : Vis X.env.scope x := by first | exact Or.inl rfl | exact Or.inr (Or.inl rfl) | exact Or.inr (Or.inr rfl))
    (hd : (x == ("__debug__" : Str)) = false := by decide) (hcd : (x == ("__classdict__" : Str)) = false := by decide)
    (hbase : attributeBase (.Name x px) "append" X.env (eval (.Name x px) X.env) = eval (.Name x px) X.env := by rfl)
    (hfew : ((backTo cpos (starEach [e] X.env)).all (fun x => !x.1) && (backToKw cpos (keywordEach [] X.env)).all (fun x => x.1.isSome) && decide (([e] : List Expr).length + ([] : List Keyword).length + (if ([] : List Keyword).isEmpty then 0 else 1) < 30)) = true := by rfl)
    (hline : (apos.endLine == cpos.line) = true := by rfl) (hst : starEach [e] X.env = (false, eval e X.env) :: starEach [] X.env := by rfl) (hplain : (backTo cpos (starEach [] X.env)).any (·.1) = false := by rfl)
    (hs : swapsWith (.Call (.Attribute (.Name x px) "append" apos) [e] [] cpos) none pos.line X.env = pure false := by rfl) : DS X ρ (.Expr (.Call (.Attribute (.Name x px) "append" apos) [e] [] cpos) pos :: rest) E :=
  ⟨fun H0 B0 B σ H D g En L => by
    obtain ⟨p, hσ, hb, h0, xs, hp, rs⟩ := En.ow i _ hi
    refine (rx_exprM (em_append (l := p) (xs := xs) (ev_nm i hσ hN hv hd hcd) ⟨fun H1 e1 => (h.go (En.more e1) fun B2 v d H2 g2 E2 r q => ⟨H2, Ex.refl _, xs, ?_, ?_, ?_⟩)⟩ hp hbase hfew hline hst hplain) hs).run H (Ex.refl H)
    · exact g2.h _ _ (e1 _ _ hp)
    · rw [rs.len]; exact q.1
    · have g3 := (g.trans (Gr.more g.s e1)).trans g2
      have nb : B2 p = none := g2.o p _ (e1 _ _ hp) rfl hb
      have hp2 : H2 p = some (.lst xs) := g2.h _ _ (e1 _ _ hp)
      have E3 := E2.put (o := .lst (xs ++ [v])) (d' := .lst (ds ++ [d])) hi hσ ⟨_, upd_same, (rs.ex g2.b).app (.cons r .nil)⟩
      exact q.2.rx ⟨g3.b, Ex.mut g3.h h0, Ex.mut g3.s nb, g3.o⟩ E3 L⟩
/-- for .. in ..: -/
theorem s_for (hp : PassesOwn (model X.prog X.w) X.A X.env X.xe) (hc : X.calm = true) (hg : DG X tg js f)
    (hi : DI X ρ tg iter fun ds => ∃ I : Nat → List Sl → Prop, I 0 ρ ∧ (∀ n d ρ1, ds[n]? = some d → I n ρ1 → ∃ ρ2, f ρ1 d = some ρ2 ∧ DS X ρ2 body { E with nx := I (n + 1), ct := I (n + 1), bk := fun ρ3 => DS X ρ3 rest E }) ∧ ∀ ρ1, I ds.length ρ1 → DS X ρ1 rest E) :
    DS X ρ (.For tg iter body [] pos :: rest) E := by
  obtain ⟨wi, pi, hw⟩ := hi.ex
  obtain ⟨gt, pg, gg⟩ := hg.ex
  refine ⟨fun H0 B0 B σ H D g En L => semS_of (pss_cons (ps_for hp hc pi pg pss_sem hi.fo) pss_sem) (hw H0 B σ H _ En fun B2 H2 J ds g2 E2 w q => ?_)⟩
  obtain ⟨I, i0, is, id⟩ := q
  obtain ⟨G, Y, wk, hG, hY⟩ := w
  have g0 := g.trans g2
  refine for_it wk (fun n σ' H' => ∃ Bn ρn, Gr B2 (root B2 H0) Bn H' ∧ Z.En X.K (root B2 H0) Bn ρn σ' H' ∧ I n ρn) ⟨B2, ρ, g0.root, E2.root, i0⟩ ?_ ?_ ?_
  · rintro n σ' H' _ ⟨Bn, ρn, g1, _⟩
    exact hG H' (g1.b.trans g1.s)
  · rintro n x σ' H' H'' hn ⟨Bn, ρn, g1, E1, p1⟩ y
    obtain ⟨Bm, d, g3, hd, rd⟩ := hY n H' x H'' Bn hn g1.b g1.s y
    obtain ⟨ρ2, hf, bd⟩ := is n d ρn hd p1
    refine gg _ Bm ρn σ' H'' x d ρ2 _ (E1.gr g3) rd hf fun σ'' E4 _ => bd.run _ B2 Bm σ'' H'' _ (g1.trans g3) E4 ⟨fun ρ5 B5 σ5 H5 q5 g5 E5 => ⟨B5, ρ5, g5, E5, q5⟩, fun d5 B5 v5 H5 q5 g5 r5 => L.rt d5 B5 v5 H5 q5 (g0.unroot g5) r5, fun ρ5 B5 σ5 H5 q5 g5 E5 => q5.run H0 B0 B5 σ5 H5 D (g0.unroot g5) (Z.En.unroot g0 E5) L, fun ρ5 B5 σ5 H5 q5 g5 E5 => ⟨B5, ρ5, g5, E5, q5⟩, fun d5 B5 a5 H5 q5 g5 n5 h5 o5 => L.r1 d5 B5 a5 H5 q5 (g0.unroot g5) n5 (root_less g0 h5) o5, fun d5 e5 B5 p5 H5 q5 g5 ⟨a1, a2, t1, t2, t3, t4, t5, t6, t7, t8⟩ => L.r2 d5 e5 B5 p5 H5 q5 (g0.unroot g5) ⟨a1, a2, t1, t2, t3, root_less g0 t4, root_less g0 t5, t6, t7, t8⟩⟩
  · rintro σ' H' ⟨Bn, ρn, g1, E1, p1⟩
    exact (id ρn p1).run H0 B0 Bn σ' H' D (g0.unroot g1) (Z.En.unroot g0 E1) L
end
/-! ### a def, by data -/
def startD (N : List Str) (ds : List Dt) : List Sl := ds.map Sl.fr ++ List.replicate (N.length - ds.length) Sl.un
theorem en_start {K : PySem.W.Frag} {H0 B H : Hp} {N : List Str} {vs : List V} {ds : List Dt} (s : Ex B H) (r : RpL K B vs ds) : En K H0 B (startD N ds) (L2.start N vs) H := by
  have hl := r.len
  have g : ∀ (i : Nat) (x : Sl), x ≠ .un → (startD N ds)[i]? = some x → ∃ d, ds[i]? = some d ∧ x = .fr d := fun i x n h => by
    unfold startD at h
    by_cases z : i < ds.length
    · rw [List.getElem?_append_left (by rw [List.length_map]; exact z), List.getElem?_map, List.getElem?_eq_getElem z] at h
      cases h
      exact ⟨_, List.getElem?_eq_getElem z, rfl⟩
    · rw [List.getElem?_append_right (by rw [List.length_map]; omega)] at h
      exact absurd (List.eq_of_mem_replicate (List.mem_of_getElem? h)) n
  refine ⟨s, ?_, fun i d h => ?_, fun i d h => ?_, fun i j d d' p n h1 h2 h3 h4 => ?_⟩
  · unfold L2.start startD
    rw [List.length_append, List.length_append, List.length_map, List.length_map, List.length_replicate, List.length_replicate, hl]
  · obtain ⟨d', hd, e⟩ := g i (.fr d) nofun h
    cases e
    obtain ⟨v, hv, rv⟩ := r.at' hd
    refine ⟨v, ?_, rv⟩
    unfold L2.start
    have hi := (List.getElem?_eq_some_iff.mp hv).1
    rw [List.getElem?_append_left (by rw [List.length_map]; exact hi), List.getElem?_map, hv]; rfl
  · obtain ⟨d', hd, e⟩ := g i (.ow d) nofun h
    cases e
  · obtain ⟨d', hd, e⟩ := g i (.ow d) nofun h1
    cases e
section
variable {P : Program} {w : World} {K : PySem.W.Frag} {mg : Str → Option Value} {base : Heap} {nm : Str} {st : Stmt} {N ps : List Str} {k : Nat} {S : List Dt → (Dt → Prop) → Prop}
theorem Gr.back {B H H1 B2 H2 : Hp} (e : Ex H H1) (g : Gr B H1 B2 H2) : Gr B H B2 H2 := ⟨g.b, e.trans g.h, g.s, fun a u h m q => g.o a u (e _ _ h) m q⟩
theorem ownD (D : Def K mg nm st) (Sc : FnScope N ps (defScope st)) (mono : ∀ ds (Q Q' : Dt → Prop), (∀ d, Q d → Q' d) → S ds Q → S ds Q') (hlen : ∀ ds Q, S ds Q → ds.length = ps.length)
    (hb : ∀ (kV doc pm : Value) (an : Option Addr) (cdv ct : Value) (us : List Value), us.length = ps.length → bindArgs (PySem.W.fnOf nm nm (defArgs st) (defBody st) (defScope st) .none kV doc pm an cdv ct) ⟨us, []⟩ = pure (ps.zip us))
    (hbody : ∀ (X : Cx) (ds : List Dt) (Q : Dt → Prop), (∃ (f : Addr) (cdv : Value) (A : Around) (outer : List Env) (s : Shared) (H : Hp) (E : XK), X = (cxOf CX0 P w K mg base N nm (defScope st) f cdv A outer s H E).nox) → Room k X.A → S ds Q → DS X (startD N ds) (defBody st) { nx := fun _ => Q .non, rt := Q }) :
    OwnD P w K mg base nm ps (k + 1) S := by
  refine ⟨D.own Sc (fun vs H Q E h => ?_) hb ?_, mono⟩
  · obtain ⟨B, ds, _, r, h⟩ := h
    rw [r.len]; exact hlen _ _ h
  · rintro X H vs Q E ⟨f, cdv, A, outer, s, rfl⟩ hr h
    obtain ⟨B, ds, e, r, h⟩ := h
    refine ⟨fun H1 e1 => ?_⟩
    refine (hbody _ ds _ ⟨f, cdv, A, outer, s, H, E, rfl⟩ hr h).run H1 B B _ H1 _ (Gr.refl (e.trans e1)) (en_start (e.trans e1) r) ⟨fun ρ B2 σ H2 q g E => q B2 .non H2 (Gr.back e1 g) .non, fun d B2 v H2 q g r => q B2 v H2 (Gr.back e1 g) r, fun _ _ _ _ q => q.elim, fun _ _ _ _ q => q.elim, fun _ _ _ _ q => q.elim, fun _ _ _ _ _ q => q.elim⟩
/-- a promise in data: what comes are two new objects in a tuple -/
def spD2 (K : PySem.W.Frag) (S : List Dt → (Dt → Dt → Prop) → Prop) : Sp := fun vs H Q _ => ∃ B ds, Evl.Ex B H ∧ RpL K B vs ds ∧ S ds fun d1 d2 => ∀ B2 p H2, Gr B H B2 H2 → Two K H B2 H2 p d1 d2 → Q (.ref p) H2
structure OwnD2 (P : Program) (w : World) (K : PySem.W.Frag) (mg : Str → Option Value) (base : Heap) (nm : Str) (ps : List Str) (lv : Nat) (S : List Dt → (Dt → Dt → Prop) → Prop) : Prop where
  own : Own P w K mg base nm ps lv (spD2 K S)
  mono : ∀ ds (Q Q' : Dt → Dt → Prop), (∀ d e, Q d e → Q' d e) → S ds Q → S ds Q'
theorem Two.back {K : PySem.W.Frag} {H H1 B H2 : Hp} {p : Addr} {d1 d2 : Dt} (e : Evl.Ex H H1) (t : Two K H1 B H2 p d1 d2) : Two K H B H2 p d1 d2 := by
  obtain ⟨a1, a2, t1, t2, t3, t4, t5, t6, t7, t8⟩ := t
  exact ⟨a1, a2, t1, t2, t3, fresh_back e t4, fresh_back e t5, t6, t7, t8⟩
theorem ownD2 {S : List Dt → (Dt → Dt → Prop) → Prop} (D : Def K mg nm st) (Sc : FnScope N ps (defScope st)) (mono : ∀ ds (Q Q' : Dt → Dt → Prop), (∀ d e, Q d e → Q' d e) → S ds Q → S ds Q') (hlen : ∀ ds Q, S ds Q → ds.length = ps.length)
    (hb : ∀ (kV doc pm : Value) (an : Option Addr) (cdv ct : Value) (us : List Value), us.length = ps.length → bindArgs (PySem.W.fnOf nm nm (defArgs st) (defBody st) (defScope st) .none kV doc pm an cdv ct) ⟨us, []⟩ = pure (ps.zip us))
    (hbody : ∀ (X : Cx) (ds : List Dt) (Q : Dt → Dt → Prop), (∃ (f : Addr) (cdv : Value) (A : Around) (outer : List Env) (s : Shared) (H : Hp) (E : XK), X = (cxOf CX0 P w K mg base N nm (defScope st) f cdv A outer s H E).nox) → Room k X.A → S ds Q → DS X (startD N ds) (defBody st) { nx := fun _ => False, rt := fun _ => False, r2 := Q }) :
    OwnD2 P w K mg base nm ps (k + 1) S := by
  refine ⟨D.own Sc (fun vs H Q E h => ?_) hb ?_, mono⟩
  · obtain ⟨B, ds, _, r, h⟩ := h
    rw [r.len]; exact hlen _ _ h
  · rintro X H vs Q E ⟨f, cdv, A, outer, s, rfl⟩ hr h
    obtain ⟨B, ds, e, r, h⟩ := h
    refine ⟨fun H1 e1 => ?_⟩
    refine (hbody _ ds _ ⟨f, cdv, A, outer, s, H, E, rfl⟩ hr h).run H1 B B _ H1 _ (Gr.refl (e.trans e1)) (en_start (e.trans e1) r) ⟨fun _ _ _ _ q => q.elim, fun _ _ _ _ q => q.elim, fun _ _ _ _ q => q.elim, fun _ _ _ _ q => q.elim, fun _ _ _ _ q => q.elim, fun d1 d2 B2 p H2 q g t => q B2 p H2 (Gr.back e1 g) (t.back e1)⟩
end
end Z
set_option Elab.async false
set_option linter.all false
set_option maxRecDepth 100000
set_option maxHeartbeats 4000000
/-! Lists and dicts of one's own that change; comprehensions on the line of their name; while; ranges from their end. -/
namespace Z
open PySem PySem.Spec PyProof.Rows L2 Evl Y
section
variable {X : Cx} {ρ : List Sl} {e a b c o elt tst iter tg kx vx : Expr} {es : List Expr} {Q Q' : Dt → Prop} {H0 B B0 B2 H H2 : Hp} {σ : L2.St} {i j : Nat} {d : Dt} {pos pos' p2 q1 q2 apos cpos spos px py pt : Pos} {nm x : Str} {rest ss tt body : List Stmt} {E : DEnds} {D : Ends} {js : List Nat} {f : List Sl → Dt → Option (List Sl)} {scope : Scope} {own : List (Str × Nat)}
/-! ### y = [..] on one line -/
theorem s_setLc {js : List Nat} {f : List Sl → Dt → Option (List Sl)} (i : Nat) (hc : X.calm = true) (hN : X.N.Nodup) (ok : BlkOk X.N X.env.scope scope own) (hg : DGb X scope tg js f) (hj : ∀ j ∈ js, j ∈ own.map (·.2))
    (hi : DI X ρ tg iter fun ds => LcQ X scope own ρ f (fun ρ' acc P => DEb X scope ρ' elt fun d => P (acc ++ [d])) ds fun d => DS X (ρ.set i (.ow d)) rest E)
    (hy : X.N[i]? = some nm := by rfl) (hyl : X.env.scope.names.lookup nm = some .local := by rfl) (hsw : swapsWith (.ListComp elt [⟨tg, iter, [], 0⟩] scope pos) (some (.Name nm py)) spos.line X.env = pure true := by rfl) :
    DS X ρ (.Assign [.Name nm py] (.ListComp elt [⟨tg, iter, [], 0⟩] scope pos) spos :: rest) E := by
  obtain ⟨wi, pi, hw⟩ := hi.ex
  obtain ⟨g, pg, gg⟩ := hg
  refine ⟨fun H0 B0 B σ H D g0 En L => semS_of (pss_cons (ps_setLc hc hN hy hyl hsw pi ok pg (fun _ _ _ _ _ => pts_nil) (fun s H' C cl fp => pe_blk s H' C cl fp) hi.fo) pss_sem) (hw H0 B σ H _ En fun B2 H2 J ds g2 E2 w q A hA => ?_)⟩
  refine lc_run gg hj E2 w hA q (fun ρ' σ' B' H' acc P R N E' bd k1 k2 => ?_) fun B3 H3 acc g3 n3 o3 q3 => ?_
  · exact iteT (B := N H') fun s H'' C cl fp => (bd s H'' C cl fp).go E' fun B3 v d H3 g3 _ r3 q3 => k1 B3 d H3 g3 v r3 q3
  · exact q3.run H0 B0 B3 _ H3 D ((g0.trans g2).trans g3) ((E2.gr g3).setO n3 (fresh_back (g0.trans g2).h hA) o3 (Z.En.noSlot (i := i) (En.gr g2) hA)) L
theorem s_setLct {js : List Nat} {f : List Sl → Dt → Option (List Sl)} (i : Nat) (hc : X.calm = true) (hN : X.N.Nodup) (ok : BlkOk X.N X.env.scope scope own) (hg : DGb X scope tg js f) (hj : ∀ j ∈ js, j ∈ own.map (·.2))
    (hi : DI X ρ tg iter fun ds => LcQ X scope own ρ f (fun ρ' acc P => DTb X scope ρ' tst fun z => (z = true → DEb X scope ρ' elt fun d => P (acc ++ [d])) ∧ (z = false → P acc)) ds fun d => DS X (ρ.set i (.ow d)) rest E)
    (hy : X.N[i]? = some nm := by rfl) (hyl : X.env.scope.names.lookup nm = some .local := by rfl) (hsw : swapsWith (.ListComp elt [⟨tg, iter, [tst], 0⟩] scope pos) (some (.Name nm py)) spos.line X.env = pure true := by rfl) :
    DS X ρ (.Assign [.Name nm py] (.ListComp elt [⟨tg, iter, [tst], 0⟩] scope pos) spos :: rest) E := by
  obtain ⟨wi, pi, hw⟩ := hi.ex
  obtain ⟨g, pg, gg⟩ := hg
  refine ⟨fun H0 B0 B σ H D g0 En L => semS_of (pss_cons (ps_setLc hc hN hy hyl hsw pi ok pg (fun s H' C cl fp => pts_one (pt_blk s H' C cl fp)) (fun s H' C cl fp => pe_blk s H' C cl fp) hi.fo) pss_sem) (hw H0 B σ H _ En fun B2 H2 J ds g2 E2 w q A hA => ?_)⟩
  refine lc_run gg hj E2 w hA q (fun ρ' σ' B' H' acc P R N E' bd k1 k2 => ?_) fun B3 H3 acc g3 n3 o3 q3 => ?_
  · exact fun s H'' C cl fp => (bd s H'' C cl fp).go E' fun B3 z H3 g3 E3 q3 => by
      cases z with
      | true => exact iteT (B := N H3) fun s H'' C cl fp => (q3.1 rfl s H'' C cl fp).go E3 fun B4 v d H4 g4 _ r4 q4 => k1 B4 d H4 (g3.trans g4) v r4 q4
      | false =>
        rw [if_neg Bool.false_ne_true]
        exact k2 B3 H3 g3 (q3.2 rfl)
  · exact q3.run H0 B0 B3 _ H3 D ((g0.trans g2).trans g3) ((E2.gr g3).setO n3 (fresh_back (g0.trans g2).h hA) o3 (Z.En.noSlot (i := i) (En.gr g2) hA)) L
/-! ### ranges from their end -/
def revD (lo : Int) (n : Nat) : List Dt := (List.range n).map fun (k : Nat) => Dt.int (lo + (n : Int) - 1 - (k : Int))
theorem revD_len {lo : Int} {n : Nat} : (revD lo n).length = n := by unfold revD; rw [List.length_map, List.length_range]
theorem walk_revD {K : PySem.W.Frag} {lo : Int} {n : Nat} : DWalk K (Itc (lo + (n : Int) - 1) (-1) n) B (revD lo n) := ⟨_, _, by rw [revD_len]; exact walk_rangeC, fun _ _ => True.intro, fun i H' x H'' Bn hi e1 e2 y => by
  obtain ⟨rfl, rfl⟩ := y
  rw [revD_len] at hi
  refine ⟨Bn, .int (lo + (n : Int) - 1 - (i : Int)), Gr.refl e2, ?_, ?_⟩
  · unfold revD
    rw [List.getElem?_map, List.getElem?_range hi]; rfl
  · have : lo + (n : Int) - 1 + (i : Int) * (-1) = lo + (n : Int) - 1 - (i : Int) := by omega
    show Rp K Bn (V.int (lo + (n : Int) - 1 + (i : Int) * (-1))) _
    rw [this]; exact .int _⟩
abbrev revQ (d : Dt) (Q : List Dt → Prop) : Prop := match d with
  | .int n => (-(2 ^ 62) ≤ n ∧ n < 2 ^ 62) ∧ Q (revD 0 n.toNat)
  | _ => False
theorem i_rev {Q : List Dt → Prop} {p p3 p4 : Pos} (hg : Gl X "reversed") (hm : X.mg "reversed" = none) (hg2 : Gl X "range") (hm2 : X.mg "range" = none) (h : DE X ρ a fun d => revQ d Q) (hs : starEach [.Call (.Name "range" p3) [a] [] p4] X.env = (false, eval (.Call (.Name "range" p3) [a] [] p4) X.env) :: starEach [] X.env := by rfl) (na : starEach [a] X.env = (false, eval a X.env) :: starEach [] X.env := by rfl)
    (fo : ∀ x, foldedSetIterable (.Call (.Name "reversed" p) [.Call (.Name "range" p3) [a] [] p4] [] pos) X.env x = pure x := by intro _; rfl) : DI X ρ tg (.Call (.Name "reversed" p) [.Call (.Name "range" p3) [a] [] p4] [] pos) Q :=
  ⟨⟨_, pi_revR hg hm (prg_1 hg2 hm2 pe_sem na) hs, fun H0 B σ H R E k => h.go E fun B2 v d H2 g E2 r q => by
    cases r with
    | int n =>
      refine ⟨n, rfl, by decide, by decide, q.1.1, q.1.2, ?_⟩
      have := k B2 H2 _ _ g E2 (walk_revD (lo := 0) (n := n.toNat)) q.2
      simpa using this
    | _ => exact q.elim⟩, fo⟩
abbrev rev2Q (d d' : Dt) (Q : List Dt → Prop) : Prop := match d, d' with
  | .int l, .int n => (-(2 ^ 62) ≤ l ∧ l < 2 ^ 62 ∧ -(2 ^ 62) ≤ n ∧ n < 2 ^ 62) ∧ Q (revD l (n - l).toNat)
  | _, _ => False
theorem i_rev2 {Q : List Dt → Prop} {p p3 p4 : Pos} (hg : Gl X "reversed") (hm : X.mg "reversed" = none) (hg2 : Gl X "range") (hm2 : X.mg "range" = none) (h : DE X ρ a fun d => DE X ρ b fun d' => rev2Q d d' Q) (hs : starEach [.Call (.Name "range" p3) [a, b] [] p4] X.env = (false, eval (.Call (.Name "range" p3) [a, b] [] p4) X.env) :: starEach [] X.env := by rfl) (na : starEach [a, b] X.env = (false, eval a X.env) :: starEach [b] X.env := by rfl) (nb : starEach [b] X.env = (false, eval b X.env) :: starEach [] X.env := by rfl) (hpl : (backTo p4 (starEach [b] X.env)).any (·.1) = false := by rfl)
    (fo : ∀ x, foldedSetIterable (.Call (.Name "reversed" p) [.Call (.Name "range" p3) [a, b] [] p4] [] pos) X.env x = pure x := by intro _; rfl) : DI X ρ tg (.Call (.Name "reversed" p) [.Call (.Name "range" p3) [a, b] [] p4] [] pos) Q :=
  ⟨⟨_, pi_revR hg hm (prg_2 hg2 hm2 pe_sem pe_sem na nb hpl) hs, fun H0 B σ H R E k => h.go E fun B2 v d H2 g E2 r q => q.go E2 fun B3 w d' H3 g3 E3 r3 q3 => by
    cases r with
    | int l =>
      cases r3 with
      | int n => exact ⟨l, n, rfl, rfl, q3.1.1, q3.1.2.1, q3.1.2.2.1, q3.1.2.2.2, k B3 H3 _ _ (g.trans g3) E3 walk_revD q3.2⟩
      | _ => exact q3.elim
    | _ => cases r3 <;> exact q3.elim⟩, fo⟩
/-! ### expressions that change what is one's own -/
structure DM (X : Cx) (ρ : List Sl) (e : Expr) (Q : Dt → List Sl → Prop) : Prop where
  run : ∀ H0 B0 B σ H, Gr B0 H0 B H → En X.K H0 B ρ σ H → semE X e σ H fun v H2 => ∃ B2 d ρ', Gr B0 H0 B2 H2 ∧ En X.K H0 B2 ρ' σ H2 ∧ Rp X.K B2 v d ∧ Q d ρ'
theorem m_de {Q : Dt → List Sl → Prop} (h : DE X ρ e fun d => Q d ρ) : DM X ρ e Q := ⟨fun H0 B0 B σ H g E => h.go E fun B2 v d H2 g2 E2 r q => ⟨B2, d, ρ, g.trans g2, E2, r, q⟩⟩
theorem RpL.erase {K : PySem.W.Frag} {vs : List V} {ds : List Dt} (r : RpL K B vs ds) (k : Nat) : RpL K B (vs.eraseIdx k) (ds.eraseIdx k) := by
  rw [List.eraseIdx_eq_take_drop_succ, List.eraseIdx_eq_take_drop_succ]
  exact (r.take k).app (r.drop (k + 1))
/-- what is one's own at a slot changes -/
theorem Gr.mutO {B0 H0 B2 H2 : Hp} {p : Addr} {o : HO} (g : Gr B0 H0 B2 H2) (nb : B2 p = none) (h0 : H0 p = none) : Gr B0 H0 B2 (upd H2 p o) := ⟨g.b, Ex.mut g.h h0, Ex.mut g.s nb, g.o⟩
theorem m_popAt (i : Nat) {ds : List Dt} {Q : Dt → List Sl → Prop} (hi : ρ[i]? = some (.ow (.lst ds))) (h : DE X ρ e fun z => ∃ n k d, z = .int n ∧ (-(2 ^ 63) ≤ n ∧ n < 2 ^ 63) ∧ seqIndex? n ds.length = some k ∧ ds[k]? = some d ∧ Q d (ρ.set i (.ow (.lst (ds.eraseIdx k))))) (hN : X.N[i]? = some x := by rfl) (hv : Vis X.env.scope x := by first | exact Or.inl rfl | exact Or.inr (Or.inl rfl) | exact Or.inr (Or.inr rfl))
    (hd : (x == ("__debug__" : Str)) = false := by decide) (hcd : (x == ("__classdict__" : Str)) = false := by decide)
    (hbase : attributeBase (.Name x px) "pop" X.env (eval (.Name x px) X.env) = eval (.Name x px) X.env := by rfl)
    (hfew : ((backTo cpos (starEach [e] X.env)).all (fun x => !x.1) && (backToKw cpos (keywordEach [] X.env)).all (fun x => x.1.isSome) && decide (([e] : List Expr).length + ([] : List Keyword).length + (if ([] : List Keyword).isEmpty then 0 else 1) < 30)) = true := by rfl)
    (hline : (apos.endLine == cpos.line) = true := by rfl) (hst : starEach [e] X.env = (false, eval e X.env) :: starEach [] X.env := by rfl) (hplain : (backTo cpos (starEach [] X.env)).any (·.1) = false := by rfl) :
    DM X ρ (.Call (.Attribute (.Name x px) "pop" apos) [e] [] cpos) Q :=
  ⟨fun H0 B0 B σ H g E => by
    obtain ⟨p, hσ, hb, h0, xs, hp, rs⟩ := E.ow i _ hi
    refine sem_of (pe_bm PySem.F.plainAttrs_list PySem.F.slot_list_pop PySem.F.type_list_pop mt_popAt pe_sem (pa_cons pe_sem pa_nil hst) hbase hfew hline hst hplain) ?_
    refine EV.ev (ev_nm i hσ hN hv hd hcd) H (Ex.refl _) _ fun H1 e1 => ⟨Or.inl ⟨rfl, xs, sq_of (e1 _ _ hp)⟩, h.go (E.more e1) fun B2 v z H2 g2 E2 r q => ?_⟩
    obtain ⟨n, k, d, rfl, hn, hk, hd, q⟩ := q
    cases r
    have hp2 : H2 p = some (.lst xs) := g2.h _ _ (e1 _ _ hp)
    have nb : B2 p = none := g2.o p _ (e1 _ _ hp) rfl hb
    obtain ⟨y, hy, ry⟩ := (rs.ex g2.b).at' hd
    have g3 := (g.trans (Gr.more g.s e1)).trans g2
    exact ⟨p, xs, n, k, y, rfl, rfl, hp2, hn.1, hn.2, by rw [rs.len]; exact hk, hy, B2, d, _, g3.mutO nb h0, E2.put (d' := .lst (ds.eraseIdx k)) hi hσ ⟨_, upd_same, (rs.ex g2.b).erase k⟩, ry, q⟩⟩
theorem m_pop (i : Nat) {ds : List Dt} {d : Dt} {Q : Dt → List Sl → Prop} (hi : ρ[i]? = some (.ow (.lst (ds ++ [d])))) (q : Q d (ρ.set i (.ow (.lst ds)))) (hN : X.N[i]? = some x := by rfl) (hv : Vis X.env.scope x := by first | exact Or.inl rfl | exact Or.inr (Or.inl rfl) | exact Or.inr (Or.inr rfl))
    (hd : (x == ("__debug__" : Str)) = false := by decide) (hcd : (x == ("__classdict__" : Str)) = false := by decide)
    (hbase : attributeBase (.Name x px) "pop" X.env (eval (.Name x px) X.env) = eval (.Name x px) X.env := by rfl) (hline : (apos.endLine == cpos.line) = true := by rfl) :
    DM X ρ (.Call (.Attribute (.Name x px) "pop" apos) [] [] cpos) Q :=
  ⟨fun H0 B0 B σ H g E => by
    obtain ⟨p, hσ, hb, h0, xs, hp, rs⟩ := E.ow i _ hi
    refine sem_of (pe_bm0 PySem.F.plainAttrs_list PySem.F.slot_list_pop PySem.F.type_list_pop mt_pop pe_sem hbase hline) ?_
    refine EV.ev (ev_nm i hσ hN hv hd hcd) H (Ex.refl _) _ fun H1 e1 => ⟨Or.inl ⟨rfl, xs, sq_of (e1 _ _ hp)⟩, ?_⟩
    have hl := rs.len
    rw [List.length_append] at hl
    have h1 : (ds ++ [d])[xs.length - 1]? = some d := by rw [hl]; simp
    obtain ⟨y, hy, ry⟩ := rs.at' h1
    have g3 := g.trans (Gr.more g.s e1)
    have hr : RpL X.K B xs.dropLast ds := by
      have := rs.take ds.length
      rw [List.take_left] at this
      rwa [List.dropLast_eq_take, show xs.length - 1 = ds.length by rw [hl]; simp]
    exact ⟨p, xs, y, rfl, rfl, e1 _ _ hp, hy, B, d, _, g3.mutO hb h0, (E.more e1).put (d' := .lst ds) hi hσ ⟨_, upd_same, hr⟩, ry, q⟩⟩
theorem s_setM (i : Nat) (h : DM X ρ e fun d ρ' => DS X (ρ'.set i (.fr d)) rest E) (hN : X.N.Nodup) (hi : X.N[i]? = some nm := by rfl) (hx : Loc X.env.scope nm := by first | exact Or.inl rfl | exact Or.inr rfl)
    (hs : swapsWith e (some (.Name nm pos')) pos.line X.env = pure false := by rfl) (hf : X.fn nm = true ∨ X.env.scope.names.lookup nm = some .local := by first | exact .inl rfl | exact .inr rfl) : DS X ρ (.Assign [.Name nm pos'] e pos :: rest) E :=
  ⟨fun H0 B0 B σ H D g En L => semS_of (pss_cons (ps_set hN hi hx pe_sem hs hf) pss_sem) (sem_mono (h.run H0 B0 B σ H g En) fun v H2 ⟨B2, d, ρ', g2, E2, r, q⟩ => q.run H0 B0 B2 _ H2 D g2 (E2.set r) L)⟩
theorem s_exprM (h : DM X ρ e fun _ ρ' => DS X ρ' rest E) (hs : swapsWith e none pos.line X.env = pure false := by rfl) : DS X ρ (.Expr e pos :: rest) E :=
  ⟨fun H0 B0 B σ H D g En L => semS_of (pss_cons (ps_expr pe_sem hs) pss_sem) (sem_mono (h.run H0 B0 B σ H g En) fun v H2 ⟨B2, d, ρ', g2, E2, r, q⟩ => q.run H0 B0 B2 σ H2 D g2 E2 L)⟩
/-- xs.append(e), e changing something else of one's own -/
theorem s_appendM (i : Nat) {ds : List Dt} (hi : ρ[i]? = some (.ow (.lst ds))) (h : DM X ρ e fun d ρ' => ∃ ds', ρ'[i]? = some (.ow (.lst ds')) ∧ ds'.length < 100000 ∧ DS X (ρ'.set i (.ow (.lst (ds' ++ [d])))) rest E) (hN : X.N[i]? = some x := by rfl) (hv : Vis X.env.scope x := by first | exact Or.inl rfl | exact Or.inr (Or.inl rfl) | exact Or.inr (Or.inr rfl))
    (hd : (x == ("__debug__" : Str)) = false := by decide) (hcd : (x == ("__classdict__" : Str)) = false := by decide)
    (hbase : attributeBase (.Name x px) "append" X.env (eval (.Name x px) X.env) = eval (.Name x px) X.env := by rfl)
    (hfew : ((backTo cpos (starEach [e] X.env)).all (fun x => !x.1) && (backToKw cpos (keywordEach [] X.env)).all (fun x => x.1.isSome) && decide (([e] : List Expr).length + ([] : List Keyword).length + (if ([] : List Keyword).isEmpty then 0 else 1) < 30)) = true := by rfl)
    (hline : (apos.endLine == cpos.line) = true := by rfl) (hst : starEach [e] X.env = (false, eval e X.env) :: starEach [] X.env := by rfl) (hplain : (backTo cpos (starEach [] X.env)).any (·.1) = false := by rfl)
    (hs : swapsWith (.Call (.Attribute (.Name x px) "append" apos) [e] [] cpos) none pos.line X.env = pure false := by rfl) : DS X ρ (.Expr (.Call (.Attribute (.Name x px) "append" apos) [e] [] cpos) pos :: rest) E :=
  ⟨fun H0 B0 B σ H D g En L => by
    obtain ⟨p, hσ, hb, h0, xs, hp, rs⟩ := En.ow i _ hi
    refine (rx_exprM (em_append (l := p) (xs := xs) (ev_nm i hσ hN hv hd hcd) ⟨fun H1 e1 => sem_mono (h.run H0 B0 B σ H1 (g.trans (Gr.more g.s e1)) (En.more e1)) fun v H2 ⟨B2, d, ρ', g2, E2, r, ds', hi', hz, q⟩ => ⟨H2, Ex.refl _, ?_⟩⟩ hp hbase hfew hline hst hplain) hs).run H (Ex.refl H)
    obtain ⟨p', hσ', hb', h0', xs', hp', rs'⟩ := E2.ow i _ hi'
    rw [hσ] at hσ'
    cases hσ'
    exact ⟨xs', hp', by rw [rs'.len]; exact hz, q.rx (g2.mutO hb' h0) (E2.put (d' := .lst (ds' ++ [d])) hi' hσ ⟨_, upd_same, rs'.app (.cons r .nil)⟩) L⟩⟩
/-- xs.extend(e), e a list that is new -/
theorem s_extend (i : Nat) {ds : List Dt} (hi : ρ[i]? = some (.ow (.lst ds))) (h : DN X ρ e fun d => ∃ es, d = .lst es ∧ ds.length + es.length ≤ 100000 ∧ DS X (ρ.set i (.ow (.lst (ds ++ es)))) rest E) (hN : X.N[i]? = some x := by rfl) (hv : Vis X.env.scope x := by first | exact Or.inl rfl | exact Or.inr (Or.inl rfl) | exact Or.inr (Or.inr rfl))
    (hd : (x == ("__debug__" : Str)) = false := by decide) (hcd : (x == ("__classdict__" : Str)) = false := by decide)
    (hbase : attributeBase (.Name x px) "extend" X.env (eval (.Name x px) X.env) = eval (.Name x px) X.env := by rfl)
    (hfew : ((backTo cpos (starEach [e] X.env)).all (fun x => !x.1) && (backToKw cpos (keywordEach [] X.env)).all (fun x => x.1.isSome) && decide (([e] : List Expr).length + ([] : List Keyword).length + (if ([] : List Keyword).isEmpty then 0 else 1) < 30)) = true := by rfl)
    (hline : (apos.endLine == cpos.line) = true := by rfl) (hst : starEach [e] X.env = (false, eval e X.env) :: starEach [] X.env := by rfl) (hplain : (backTo cpos (starEach [] X.env)).any (·.1) = false := by rfl)
    (hs : swapsWith (.Call (.Attribute (.Name x px) "extend" apos) [e] [] cpos) none pos.line X.env = pure false := by rfl) : DS X ρ (.Expr (.Call (.Attribute (.Name x px) "extend" apos) [e] [] cpos) pos :: rest) E :=
  ⟨fun H0 B0 B σ H D g En L => by
    obtain ⟨p, hσ, hb, h0, xs, hp, rs⟩ := En.ow i _ hi
    refine semS_of (pss_cons (ps_expr (pe_bm PySem.F.plainAttrs_list PySem.F.slot_list_extend PySem.F.type_list_extend mt_extend pe_sem (pa_cons pe_sem pa_nil hst) hbase hfew hline hst hplain) hs) pss_sem) ?_
    refine EV.ev (ev_nm i hσ hN hv hd hcd) H (Ex.refl _) _ fun H1 e1 => ⟨Or.inl ⟨rfl, xs, sq_of (e1 _ _ hp)⟩, h.go (En.more e1) fun B2 p2 d H2 g2 E2 hp2 hb2 od q => ?_⟩
    obtain ⟨es, rfl, hz, q⟩ := q
    obtain ⟨ys, hy, ry⟩ := od
    have hq : H2 p = some (.lst xs) := g2.h _ _ (e1 _ _ hp)
    have nb : B2 p = none := g2.o p _ (e1 _ _ hp) rfl hb
    have g3 := (g.trans (Gr.more g.s e1)).trans g2
    refine ⟨p, p2, xs, ys, rfl, rfl, hq, hy, sz_of (by rw [rs.len, ry.len]; exact hz), ?_⟩
    exact q.run H0 B0 B2 σ _ D (g3.mutO nb h0) (E2.put (d' := .lst (ds ++ es)) hi hσ ⟨_, upd_same, (rs.ex g2.b).app ry⟩) L⟩
/-- xs.insert(n, e): the item taken from something of one's own -/
theorem s_insert (i : Nat) {ds : List Dt} (hi : ρ[i]? = some (.ow (.lst ds))) (h : DE X ρ a fun z => DM X ρ b fun d ρ' => ∃ n ds', z = .int n ∧ (0 ≤ n ∧ n < 2 ^ 63) ∧ ρ'[i]? = some (.ow (.lst ds')) ∧ ds'.length < 100000 ∧ DS X (ρ'.set i (.ow (.lst (ds'.take n.toNat ++ [d] ++ ds'.drop n.toNat)))) rest E) (hN : X.N[i]? = some x := by rfl) (hv : Vis X.env.scope x := by first | exact Or.inl rfl | exact Or.inr (Or.inl rfl) | exact Or.inr (Or.inr rfl))
    (hd : (x == ("__debug__" : Str)) = false := by decide) (hcd : (x == ("__classdict__" : Str)) = false := by decide)
    (hbase : attributeBase (.Name x px) "insert" X.env (eval (.Name x px) X.env) = eval (.Name x px) X.env := by rfl)
    (hfew : ((backTo cpos (starEach [a, b] X.env)).all (fun x => !x.1) && (backToKw cpos (keywordEach [] X.env)).all (fun x => x.1.isSome) && decide (([a, b] : List Expr).length + ([] : List Keyword).length + (if ([] : List Keyword).isEmpty then 0 else 1) < 30)) = true := by rfl)
    (hline : (apos.endLine == cpos.line) = true := by rfl) (hst : starEach [a, b] X.env = (false, eval a X.env) :: starEach [b] X.env := by rfl) (hst2 : starEach [b] X.env = (false, eval b X.env) :: starEach [] X.env := by rfl) (hplain : (backTo cpos (starEach [b] X.env)).any (·.1) = false := by rfl)
    (hs : swapsWith (.Call (.Attribute (.Name x px) "insert" apos) [a, b] [] cpos) none pos.line X.env = pure false := by rfl) : DS X ρ (.Expr (.Call (.Attribute (.Name x px) "insert" apos) [a, b] [] cpos) pos :: rest) E :=
  ⟨fun H0 B0 B σ H D g En L => by
    obtain ⟨p, hσ, hb, h0, xs, hp, rs⟩ := En.ow i _ hi
    refine semS_of (pss_cons (ps_expr (pe_bm PySem.F.plainAttrs_list PySem.F.slot_list_insert PySem.F.type_list_insert mt_insert pe_sem (pa_cons pe_sem (pa_cons pe_sem pa_nil hst2) hst) hbase hfew hline hst hplain) hs) pss_sem) ?_
    refine EV.ev (ev_nm i hσ hN hv hd hcd) H (Ex.refl _) _ fun H1 e1 => ⟨Or.inl ⟨rfl, xs, sq_of (e1 _ _ hp)⟩, h.go (En.more e1) fun B2 v z H2 g2 E2 r q => sem_mono (q.run H0 B0 B2 σ H2 ((g.trans (Gr.more g.s e1)).trans g2) E2) fun w H3 ⟨B3, d, ρ', g3, E3, r3, n, ds', ez, hn, hi', hz, q3⟩ => ?_⟩
    subst ez
    cases r
    obtain ⟨p', hσ', hb', h0', xs', hp', rs'⟩ := E3.ow i _ hi'
    rw [hσ] at hσ'
    cases hσ'
    refine ⟨p, xs', n, w, rfl, rfl, hp', sz_lt (by rw [rs'.len]; exact hz), hn.1, hn.2, ?_⟩
    exact q3.run H0 B0 B3 σ _ D (g3.mutO hb' h0) (E3.put (d' := .lst (ds'.take n.toNat ++ [d] ++ ds'.drop n.toNat)) hi' hσ ⟨_, upd_same, ((rs'.take _).app (.cons r3 .nil)).app (rs'.drop _)⟩) L⟩
/-! ### dicts of one's own -/
theorem n_dict0 (q : Q (.dic [])) : DN X ρ (.Dict [] [] pos) Q := ⟨fun H0 B σ H E => sem_of pe_dnewK fun p hp => by
  have hb := fresh_back E.ex hp
  exact ⟨B, p, .dic [], ⟨Ex.refl _, Ex.new hp, Ex.mut E.ex hb, fun _ _ _ _ z => z⟩, rfl, hp, hb, ⟨[], upd_same, .nil⟩, q⟩⟩
def putD (kvs : List (Key × Dt)) (k : Key) (d : Dt) : List (Key × Dt) := if (kvs.any fun kv => decide (kv.1 = k)) = true then kvs.map (fun kv => if kv.1 = k then (kv.1, d) else kv) else kvs ++ [(k, d)]
theorem RpK.any {K : PySem.W.Frag} {k : Key} : ∀ {ys : List (Key × V)} {kvs : List (Key × Dt)}, RpK K B ys kvs → (ys.any fun kv => decide (kv.1 = k)) = kvs.any fun kv => decide (kv.1 = k)
  | _, _, .nil => rfl
  | _, _, .cons r t => by rw [List.any_cons, List.any_cons, RpK.any t]
theorem RpK.app {K : PySem.W.Frag} : ∀ {ys zs : List (Key × V)} {kvs ls : List (Key × Dt)}, RpK K B ys kvs → RpK K B zs ls → RpK K B (ys ++ zs) (kvs ++ ls)
  | _, _, _, _, .nil, h => h
  | _, _, _, _, .cons r t, h => .cons r (RpK.app t h)
theorem RpK.mapPut {K : PySem.W.Frag} {k : Key} {v : V} {d : Dt} (r0 : Rp K B v d) : ∀ {ys : List (Key × V)} {kvs : List (Key × Dt)}, RpK K B ys kvs → RpK K B (ys.map (fun kv => if kv.1 = k then (kv.1, v) else kv)) (kvs.map (fun kv => if kv.1 = k then (kv.1, d) else kv))
  | _, _, .nil => .nil
  | _, _, .cons (k := k') r t => by
    rw [List.map_cons, List.map_cons]
    by_cases z : k' = k
    · rw [if_pos z, if_pos z]; exact .cons r0 (RpK.mapPut r0 t)
    · rw [if_neg z, if_neg z]; exact .cons r (RpK.mapPut r0 t)
theorem RpK.put {K : PySem.W.Frag} {k : Key} {v : V} {d : Dt} {ys : List (Key × V)} {kvs : List (Key × Dt)} (h : RpK K B ys kvs) (r : Rp K B v d) : RpK K B (putK ys k v) (putD kvs k d) := by
  unfold putK putD
  rw [h.any]
  split
  · exact h.mapPut r
  · exact h.app (.cons r .nil)
theorem RpK.len {K : PySem.W.Frag} : ∀ {ys : List (Key × V)} {kvs : List (Key × Dt)}, RpK K B ys kvs → ys.length = kvs.length
  | _, _, .nil => rfl
  | _, _, .cons r t => by rw [List.length_cons, List.length_cons, RpK.len t]
/-- x[k] = e of a dict of one's own -/
theorem s_dput (i : Nat) {kvs : List (Key × Dt)} (hu : X.A.units + 1 < cLine) (hi : ρ[i]? = some (.ow (.dic kvs))) (h : DE X ρ e fun d => DE X ρ b fun z => ∃ k, keyD z = some k ∧ kvs.length < 100000 ∧ DS X (ρ.set i (.ow (.dic (putD kvs k d)))) rest E) (hN : X.N[i]? = some x := by rfl) (hv : Vis X.env.scope x := by first | exact Or.inl rfl | exact Or.inr (Or.inl rfl) | exact Or.inr (Or.inr rfl))
    (hd : (x == ("__debug__" : Str)) = false := by decide) (hcd : (x == ("__classdict__" : Str)) = false := by decide)
    (hs : swapsWith e (some (.Subscript (.Name x px) b pos')) pos.line X.env = pure false := by rfl) : DS X ρ (.Assign [.Subscript (.Name x px) b pos'] e pos :: rest) E :=
  ⟨fun H0 B0 B σ H D g En L => by
    obtain ⟨p, hσ, hb, h0, ys, hp, rs⟩ := En.ow i _ hi
    refine semS_of (pss_cons (ps_dput hu pe_sem pe_sem pe_sem hs) pss_sem) (h.go En fun B2 v d H2 g2 E2 r q => ?_)
    refine EV.ev (ev_nm i hσ hN hv hd hcd) H2 (Ex.refl _) _ fun H3 e3 => q.go (E2.more e3) fun B4 w z H4 g4 E4 r4 ⟨k, hk, hl, q4⟩ => ?_
    have gg := (g2.trans (Gr.more g2.s e3)).trans g4
    have hq : H4 p = some (.dK ys) := gg.h _ _ hp
    have nb : B4 p = none := gg.o p _ hp rfl hb
    refine ⟨p, _, rfl, by rw [r4.key hk]; exact DPut.k hq (sz_lt (by rw [rs.len]; exact hl)), ?_⟩
    exact q4.run H0 B0 B4 σ _ D ((g.trans gg).mutO nb h0) (E4.put (d' := .dic (putD kvs k d)) hi hσ ⟨_, upd_same, (rs.ex gg.b).put (r.ex g4.b)⟩) L⟩
/-! ### while -/
theorem s_while (hp : PassesOwn (model X.prog X.w) X.A X.env X.xe) (I : Nat → List Sl → Prop) (m0 : Nat) (h0 : I m0 ρ)
    (hs : ∀ m ρ1, I m ρ1 → DT X ρ1 c fun z => (z = true → DS X ρ1 body { E with nx := fun ρ2 => ∃ m', m' < m ∧ I m' ρ2, ct := fun ρ2 => ∃ m', m' < m ∧ I m' ρ2, bk := fun ρ3 => DS X ρ3 rest E }) ∧ (z = false → DS X ρ1 rest E)) : DS X ρ (.While c body [] pos :: rest) E :=
  ⟨fun H0 B0 B σ H D g En L => semS_of (pss_cons (ps_while hp pt_sem pss_sem) pss_sem) ⟨fun m σ' H' => ∃ B' ρ', Gr B0 H0 B' H' ∧ Z.En X.K H0 B' ρ' σ' H' ∧ I m ρ', ⟨m0, B, ρ, g, En, h0⟩, fun m σ' H' ⟨B', ρ', g1, E1, p1⟩ => (hs m ρ' p1).go E1 fun B2 z H2 g2 E2 q => by
    have gg := g1.trans g2
    cases z with
    | true =>
      rw [if_pos rfl]
      exact ⟨fun σ3 H3 => ∃ m', m' < m ∧ ∃ B' ρ', Gr B0 H0 B' H3 ∧ Z.En X.K H0 B' ρ' σ3 H3 ∧ I m' ρ', fun σ3 H3 ⟨m', a, b⟩ => ⟨m', a, b⟩, (q.1 rfl).run H0 B0 B2 σ' H2 _ gg E2 ⟨fun ρ5 B5 σ5 H5 ⟨m', a, q5⟩ g5 E5 => ⟨m', a, B5, ρ5, g5, E5, q5⟩, L.rt, fun ρ5 B5 σ5 H5 q5 g5 E5 => q5.run H0 B0 B5 σ5 H5 D g5 E5 L, fun ρ5 B5 σ5 H5 ⟨m', a, q5⟩ g5 E5 => ⟨m', a, B5, ρ5, g5, E5, q5⟩, L.r1, L.r2⟩⟩
    | false =>
      rw [if_neg Bool.false_ne_true]
      exact (q.2 rfl).run H0 B0 B2 σ' H2 D gg E2 L⟩⟩
end
end Z
set_option Elab.async false
set_option linter.all false
set_option maxRecDepth 100000
set_option maxHeartbeats 4000000
/-! dict comprehensions, data in lists, places in lists, parts of lists replaced. -/
namespace Z
open PySem PySem.Spec PyProof.Rows L2 Evl Y
section
variable {J : It} {n : Nat} {G : Hp → Prop} {Y : Nat → Hp → V → Hp → Prop}
theorem dc_it (w : Walk J n G Y) {g : TG} {tt : TT} {tk tv : TE} {vs : List Nat} {σ : L2.St} {H1 : Hp} {D : Addr} {Qd : Hp → Prop} (Pv : Nat → Hp → Prop) (h0 : Pv 0 (upd H1 D (.dK []))) (hG : ∀ i H, i ≤ n → Pv i H → G H)
    (hs : ∀ i x H H', i < n → Pv i H → Y i H x H' → g x (L2.wipe σ vs) H' fun σ2 H2 => L2.wipe σ2 vs = L2.wipe σ vs ∧ tt σ2 H2 fun b H3 =>
      if b = true then tk σ2 H3 fun y H4 => tv σ2 H4 fun z H5 => ∃ kvs k, y = kV k ∧ H5 D = some (.dK kvs) ∧ kvs.length < sizeLine ∧ Pv (i + 1) (upd H5 D (.dK (putK kvs k z))) else Pv (i + 1) H3) (hd : ∀ H, Pv n H → Qd H) :
    ∃ W : Nat → Nat → Hp → Prop, (∃ m, W 0 m (upd H1 D (.dK []))) ∧ ∀ i m H, W i m H →
      (J.stop i H ∧ Qd H) ∨ (J.go i H ∧ ∃ Nx : Hp → Prop, (∀ H', Nx H' → ∃ m', m' < m ∧ W (i + 1) m' H') ∧ ∀ x H', J.yld i H x H' → g x (L2.wipe σ vs) H' fun σ2 H2 => L2.wipe σ2 vs = L2.wipe σ vs ∧ tt σ2 H2 fun b H3 =>
        if b = true then tk σ2 H3 fun y H4 => tv σ2 H4 fun z H5 => ∃ kvs k, y = kV k ∧ H5 D = some (.dK kvs) ∧ kvs.length < sizeLine ∧ Nx (upd H5 D (.dK (putK kvs k z))) else Nx H3) := by
  refine ⟨fun i m H => m = n - i ∧ i ≤ n ∧ Pv i H, ⟨n, by simp, Nat.zero_le _, h0⟩, ?_⟩
  rintro i m H ⟨rfl, hi, p⟩
  have q := hG i H hi p
  by_cases hlt : i < n
  · refine .inr ⟨w.goes i H hlt q, Pv (i + 1), fun H' p' => ⟨n - (i + 1), by omega, rfl, hlt, p'⟩, fun x H' y => hs i x H H' hlt p (w.yields i H x H' hlt q y)⟩
  · have e : i = n := by omega
    subst e
    exact .inl ⟨w.stops H q, hd H p⟩
end
section
variable {X : Cx} {ρ : List Sl} {e a b c o elt tst iter tg kx vx : Expr} {es : List Expr} {Q Q' : Dt → Prop} {H0 B B0 B2 H H2 : Hp} {σ : L2.St} {i j : Nat} {d : Dt} {pos pos' p2 q1 q2 apos cpos spos px py pt : Pos} {nm x : Str} {rest ss tt body : List Stmt} {E : DEnds} {D : Ends} {js : List Nat} {f : List Sl → Dt → Option (List Sl)} {scope : Scope} {own : List (Str × Nat)}
theorem putD_len {kvs : List (Key × Dt)} {k : Key} {d : Dt} : (putD kvs k d).length ≤ kvs.length + 1 := by
  unfold putD
  split
  · rw [List.length_map]; omega
  · rw [List.length_append]; exact Nat.le_refl _
/-- the turns of a dict's comprehension -/
def DcQ (X : Cx) (scope : Scope) (own : List (Str × Nat)) (ρ : List Sl) (f : List Sl → Dt → Option (List Sl)) (body : List Sl → List (Key × Dt) → (List (Key × Dt) → Prop) → Prop) (ds : List Dt) (Q : Dt → Prop) : Prop :=
  ds.length ≤ 100000 ∧ ∃ A : Nat → List (Key × Dt) → Prop, A 0 [] ∧ (∀ n d acc, ds[n]? = some d → A n acc → ∃ ρ', f (wipeD ρ (own.map (·.2))) d = some ρ' ∧ body ρ' acc (A (n + 1))) ∧ ∀ acc, acc.length ≤ ds.length → A ds.length acc → Q (.dic acc)
theorem dc_run {js : List Nat} {f : List Sl → Dt → Option (List Sl)} {body : List Sl → List (Key × Dt) → (List (Key × Dt) → Prop) → Prop} {g : TG} {tt : TT} {tk tv : TE} {J : It} {ds : List Dt} {D : Addr} {Qd : Hp → Prop}
    (hg : ∀ H0 B ρ σ H x d ρ' (R : L2.St → Hp → Prop), En X.K H0 B ρ σ H → Rp X.K B x d → f ρ d = some ρ' → (∀ σ', En X.K H0 B ρ' σ' H → (∀ vs : List Nat, (∀ j ∈ js, j ∈ vs) → L2.wipe σ' vs = L2.wipe σ vs) → R σ' H) → g x σ H R)
    (hj : ∀ j ∈ js, j ∈ own.map (·.2)) (E : En X.K H0 B ρ σ H) (w : DWalk X.K J B ds) (hD : H D = none) (h : DcQ X scope own ρ f body ds Q)
    (hb : ∀ ρ' σ' B' H' acc (P : List (Key × Dt) → Prop) (R : V → V → Hp → Prop) (N : Hp → Prop), En X.K H0 B' ρ' σ' H' → body ρ' acc P → (∀ B3 k d H3, Gr B' H' B3 H3 → ∀ v, Rp X.K B3 v d → P (putD acc k d) → R (kV k) v H3) → (∀ B3 H3, Gr B' H' B3 H3 → P acc → N H3) → tt σ' H' fun b H3 => if b = true then tk σ' H3 fun y H4 => tv σ' H4 fun z H5 => R y z H5 else N H3)
    (hq : ∀ B3 H3 acc, Gr B H B3 H3 → B3 D = none → Od X.K B3 H3 D (.dic acc) → Q (.dic acc) → Qd H3) :
    ∃ W : Nat → Nat → Hp → Prop, (∃ m, W 0 m (upd H D (.dK []))) ∧ ∀ i m H, W i m H →
      (J.stop i H ∧ Qd H) ∨ (J.go i H ∧ ∃ Nx : Hp → Prop, (∀ H', Nx H' → ∃ m', m' < m ∧ W (i + 1) m' H') ∧ ∀ x H', J.yld i H x H' → g x (L2.wipe σ (own.map (·.2))) H' fun σ2 H2 => L2.wipe σ2 (own.map (·.2)) = L2.wipe σ (own.map (·.2)) ∧ tt σ2 H2 fun b H3 =>
        if b = true then tk σ2 H3 fun y H4 => tv σ2 H4 fun z H5 => ∃ kvs k, y = kV k ∧ H5 D = some (.dK kvs) ∧ kvs.length < sizeLine ∧ Nx (upd H5 D (.dK (putK kvs k z))) else Nx H3) := by
  obtain ⟨G, Y, wk, hG, hY⟩ := w
  obtain ⟨hz, A, a0, as, ad⟩ := h
  have hBD : B D = none := fresh_back E.ex hD
  refine dc_it wk (fun n H' => n ≤ ds.length ∧ ∃ Bn vs acc, Gr B H Bn H' ∧ Bn D = none ∧ H' D = some (.dK vs) ∧ RpK X.K Bn vs acc ∧ acc.length ≤ n ∧ A n acc) ⟨Nat.zero_le _, B, [], [], ⟨Ex.refl _, Ex.new hD, Ex.mut E.ex hBD, fun _ _ _ _ q => q⟩, hBD, upd_same, .nil, Nat.le_refl _, a0⟩ ?_ ?_ ?_
  · rintro n H' _ ⟨_, Bn, vs, acc, g1, _⟩
    exact hG H' (g1.b.trans g1.s)
  · rintro n x H' H'' hn ⟨_, Bn, vs, acc, g1, n1, h1, r1, l1, p1⟩ y
    obtain ⟨Bm, d, g2, hd, rd⟩ := hY n H' x H'' Bn hn g1.b g1.s y
    obtain ⟨ρ', hf, bd⟩ := as n d acc hd p1
    have E1 : En X.K H0 Bm (wipeD ρ (own.map (·.2))) (L2.wipe σ (own.map (·.2))) H'' := ((E.gr g1).gr g2).wipe _
    have nm : Bm D = none := g2.o D _ h1 rfl n1
    have hm : H'' D = some (.dK vs) := g2.h _ _ h1
    refine hg H0 Bm _ _ H'' x d ρ' _ E1 rd hf fun σ' E2 hw => ⟨?_, ?_⟩
    · rw [hw _ hj]
      exact wipe_idem
    · refine hb ρ' σ' Bm H'' acc (A (n + 1)) (fun y z H5 => ∃ kvs k, y = kV k ∧ H5 D = some (.dK kvs) ∧ kvs.length < sizeLine ∧ _) _ E2 bd (fun B3 k d' H3 g3 v rv pa => ?_) fun B3 H3 g3 pa => ?_
      · have gg := (g1.trans g2).trans g3
        have n3 : B3 D = none := g3.o D _ hm rfl nm
        have h3 : H3 D = some (.dK vs) := g3.h _ _ hm
        refine ⟨vs, k, rfl, h3, ?_, hn, B3, putK vs k v, putD acc k d', ⟨gg.b, Ex.mut gg.h hD, Ex.mut gg.s n3, gg.o⟩, n3, upd_same, ((r1.ex g2.b).ex g3.b).put rv, Nat.le_trans putD_len (Nat.add_le_add_right l1 1), pa⟩
        have := r1.len
        exact sz_lt (by omega)
      · exact ⟨hn, B3, vs, acc, (g1.trans g2).trans g3, g3.o D _ hm rfl nm, g3.h _ _ hm, (r1.ex g2.b).ex g3.b, Nat.le_succ_of_le l1, pa⟩
  · rintro H' ⟨_, Bn, vs, acc, g1, n1, h1, r1, l1, p1⟩
    exact hq Bn H' acc g1 n1 ⟨vs, h1, r1⟩ (ad acc l1 p1)
theorem n_dc {js : List Nat} {f : List Sl → Dt → Option (List Sl)} (hc : X.calm = true) (hN : X.N.Nodup) (ok : BlkOk X.N X.env.scope scope own) (hg : DGb X scope tg js f) (hj : ∀ j ∈ js, j ∈ own.map (·.2))
    (hi : DI X ρ tg iter fun ds => DcQ X scope own ρ f (fun ρ' acc P => DEb X scope ρ' kx fun z => ∃ k, keyD z = some k ∧ DEb X scope ρ' vx fun d => P (putD acc k d)) ds Q) : DN X ρ (.DictComp kx vx [⟨tg, iter, [], 0⟩] scope pos) Q := by
  obtain ⟨wi, pi, hw⟩ := hi.ex
  obtain ⟨g, pg, gg⟩ := hg
  refine ⟨fun H0 B σ H E => sem_of (pe_dc hc hN pi ok pg (fun _ _ _ _ _ => pts_nil) (fun s H' C cl fp => pe_blk s H' C cl fp) (fun s H' C cl fp => pe_blk s H' C cl fp) hi.fo) (hw H0 B σ H _ E fun B2 H2 J ds g2 E2 w q D hD => ?_)⟩
  refine dc_run gg hj E2 w hD q (fun ρ' σ' B' H' acc P R N E' bd k1 k2 => ?_) fun B3 H3 acc g3 n3 o3 q3 => ⟨B3, D, _, g2.trans g3, rfl, fresh_back g2.h hD, n3, o3, q3⟩
  exact iteT (B := N H') fun s H'' C cl fp => (bd s H'' C cl fp).go E' fun B3 v z H3 g3 E3 r3 ⟨k, hk, q3⟩ => by
    rw [r3.key hk]
    exact fun s H'' C cl fp => (q3 s H'' C cl fp).go E3 fun B4 u d H4 g4 _ r4 q4 => k1 B4 k d H4 (g3.trans g4) u r4 q4
theorem n_dct {js : List Nat} {f : List Sl → Dt → Option (List Sl)} (hc : X.calm = true) (hN : X.N.Nodup) (ok : BlkOk X.N X.env.scope scope own) (hg : DGb X scope tg js f) (hj : ∀ j ∈ js, j ∈ own.map (·.2))
    (hi : DI X ρ tg iter fun ds => DcQ X scope own ρ f (fun ρ' acc P => DTb X scope ρ' tst fun y => (y = true → DEb X scope ρ' kx fun z => ∃ k, keyD z = some k ∧ DEb X scope ρ' vx fun d => P (putD acc k d)) ∧ (y = false → P acc)) ds Q) : DN X ρ (.DictComp kx vx [⟨tg, iter, [tst], 0⟩] scope pos) Q := by
  obtain ⟨wi, pi, hw⟩ := hi.ex
  obtain ⟨g, pg, gg⟩ := hg
  refine ⟨fun H0 B σ H E => sem_of (pe_dc hc hN pi ok pg (fun s H' C cl fp => pts_one (pt_blk s H' C cl fp)) (fun s H' C cl fp => pe_blk s H' C cl fp) (fun s H' C cl fp => pe_blk s H' C cl fp) hi.fo) (hw H0 B σ H _ E fun B2 H2 J ds g2 E2 w q D hD => ?_)⟩
  refine dc_run gg hj E2 w hD q (fun ρ' σ' B' H' acc P R N E' bd k1 k2 => ?_) fun B3 H3 acc g3 n3 o3 q3 => ⟨B3, D, _, g2.trans g3, rfl, fresh_back g2.h hD, n3, o3, q3⟩
  exact fun s H'' C cl fp => (bd s H'' C cl fp).go E' fun B1 y H1 g1 E1 q1 => by
    cases y with
    | true =>
      exact iteT (B := N H1) fun s H'' C cl fp => (q1.1 rfl s H'' C cl fp).go E1 fun B3 v z H3 g3 E3 r3 ⟨k, hk, q3⟩ => by
        rw [r3.key hk]
        exact fun s H'' C cl fp => (q3 s H'' C cl fp).go E3 fun B4 u d H4 g4 _ r4 q4 => k1 B4 k d H4 ((g1.trans g3).trans g4) u r4 q4
    | false =>
      rw [if_neg Bool.false_ne_true]
      exact k2 B1 H1 g1 (q1.2 rfl)
/-- a if c else b, both new -/
theorem n_if (h : DT X ρ c fun x => (x = true → DN X ρ a Q) ∧ (x = false → DN X ρ b Q)) : DN X ρ (.IfExp c a b pos) Q :=
  ⟨fun H0 B σ H E => sem_of (pe_ifExp pt_sem pe_sem pe_sem) (h.go E fun B2 x H2 g E2 q => by
    cases x with
    | true => exact (q.1 rfl).go E2 fun B3 p d H3 g3 _ hp hb o q3 => ⟨B3, p, d, g.trans g3, rfl, fresh_back g.h hp, hb, o, q3⟩
    | false => exact (q.2 rfl).go E2 fun B3 p d H3 g3 _ hp hb o q3 => ⟨B3, p, d, g.trans g3, rfl, fresh_back g.h hp, hb, o, q3⟩)⟩
/-! ### data in lists -/
abbrev inPQ (f : Bool → Bool) (y x : Dt) (Q : Bool → Prop) : Prop := match x with
  | .lst ds => (isP y = true ∧ isPL ds = true ∧ SeqAt.shaped (toP y) = true ∧ SeqAt.shaped (.list (toPL ds)) = true) ∧ Q (f ((toPL ds).any fun z => PyData.eqv z (toP y)))
  | _ => False
theorem wc_inP {K : PySem.W.Frag} : WC K (rInD K) (inPQ id) := fun B H x y d1 d2 Q R s rx ry w k => by
  have rx := rx.ex s
  have ry := ry.ex s
  cases ry with
  | lst ha hx => exact ⟨_, _, rx.dp w.1.1, .lst ha (hx.dp w.1.2.1), w.1.2.2.1, w.1.2.2.2, k _ w.2⟩
  | _ => exact w.elim
theorem wc_ninP {K : PySem.W.Frag} : WC K (rNotInD K) (inPQ not) := fun B H x y d1 d2 Q R s rx ry w k => by
  have rx := rx.ex s
  have ry := ry.ex s
  cases ry with
  | lst ha hx => exact ⟨_, _, rx.dp w.1.1, .lst ha (hx.dp w.1.2.1), w.1.2.2.1, w.1.2.2.2, k _ w.2⟩
  | _ => exact w.elim
theorem t_inP {Q : Bool → Prop} (hu : X.A.units + 65 < cLine) (h : DA X ρ a fun d1 => DA X ρ b fun d2 => inPQ id d1 d2 Q) (hm : behindInMarks .In b = false := by rfl) : DT X ρ (.Compare a [.In] [b] pos) Q := t_cmp (op_inD hu) wc_inP h hm
theorem t_ninP {Q : Bool → Prop} (hu : X.A.units + 65 < cLine) (h : DA X ρ a fun d1 => DA X ρ b fun d2 => inPQ not d1 d2 Q) (hm : behindInMarks .NotIn b = false := by rfl) : DT X ρ (.Compare a [.NotIn] [b] pos) Q := t_cmp (op_notInD hu) wc_ninP h hm
theorem d_inP (hu : X.A.units + 65 < cLine) (h : DA X ρ a fun d1 => DA X ρ b fun d2 => inPQ id d1 d2 fun z => Q (.bl z)) (hm : behindInMarks .In b = false := by rfl) : DE X ρ (.Compare a [.In] [b] pos) Q := d_cmp (op_inD hu) wc_inP h hm
theorem d_ninP (hu : X.A.units + 65 < cLine) (h : DA X ρ a fun d1 => DA X ρ b fun d2 => inPQ not d1 d2 fun z => Q (.bl z)) (hm : behindInMarks .NotIn b = false := by rfl) : DE X ρ (.Compare a [.NotIn] [b] pos) Q := d_cmp (op_notInD hu) wc_ninP h hm
/-! ### l.index(x, n) -/
def rIndexF (K : PySem.W.Frag) : V → List V → Hp → VK → Prop := fun x xs H Q => ∃ (a : Addr) (y : V) (n : Nat) (d : PyData) (ds : List PyData) (j : Nat) (z : PyData), x = V.ref a ∧ xs = [y, .int (n : Int)] ∧ Dp K H (V.ref a) (.list ds) ∧ Dp K H y d ∧
  SeqAt.shaped (.list ds) = true ∧ SeqAt.shaped d = true ∧ n ≤ j ∧ ds[j]? = some z ∧ PyData.eqv z d = true ∧ (∀ (m : Nat) (z' : PyData), n ≤ m → m < j → ds[m]? = some z' → PyData.eqv z' d = false) ∧ Q (.int (j : Nat)) H
theorem mt_indexF (hu : X.A.units + 65 < cLine) : MtR X "list.index" (rIndexF X.K) := by
  intro pins s σ H x xs v us Q I rx rxs h
  obtain ⟨a, y, n0, d, ds, j, z, rfl, rfl, hl, hy, sl, sd, hnj, hz, hzj, hno, q⟩ := h
  cases rx
  cases rxs with
  | cons ry rt =>
    rename_i uy ut
    cases rt with
    | cons rn rt =>
      cases rt
      obtain ⟨tk, rfl⟩ := rn
      obtain ⟨bs, r1⟩ := Dp.reads I d y uy hy ry
      have hxs : PyData.canLayAll0 ds = true := SeqAt.canLay_of_shaped sl
      have hroom : X.A.units + 1 + min (PyData.depthAll ds) d.depth < cLine := room_in_shaped sd hu
      cases hl with
      | lst hs ha =>
        obtain ⟨its, rv, ⟨⟨cls, dd, data, sls⟩, n, ho, hc, hdn, hdt⟩, hlen⟩ := I.list hs
        simp only at hc hdt
        subst hc hdt
        obtain ⟨as, h4⟩ := Dp.readsAll I ds _ its ha rv
        have hn : its.length = ds.length := SeqAt.ReadsAll.length ds its as h4
        have hmap : its.map (SeqAt.readOf s.heap) = ds := SeqAt.readsAll_map ds its as hxs h4
        have hvl := rv.length
        have hsl := sizeLine_eq
        obtain ⟨hjd, _⟩ := List.getElem?_eq_some_iff.mp hz
        have hjl : j < its.length := by omega
        have hj : j < its.toArray.size := by simpa using hjl
        have at_ : ∀ (m : Nat) (hm : m < its.toArray.size) (z' : PyData), ds[m]? = some z' → SeqAt.readOf s.heap its.toArray[m] = z' := by
          intro m hm z' hz'
          have hml : m < its.length := by simpa using hm
          rw [← hmap, List.getElem?_map, List.getElem?_eq_getElem hml] at hz'
          have e1 : SeqAt.readOf s.heap its[m] = z' := Option.some.inj (show some (SeqAt.readOf s.heap its[m]) = some z' from hz')
          simpa using e1
        have hall := SeqAt.items_eqAt (vs := its.toArray) (show ReadsAll s.heap its.toArray.toList ds as from h4) r1 hxs (SeqAt.canLay_of_shaped sd) hroom
        refine call_meets PySem.F.slot_list_index ⟨_, ho, rfl⟩ PySem.F.entry_list_index (PySem.F.args_list_index_3 _ _ _)
          (SeqAt.list_index3_found a its.toArray n dd sls uy (fun m => if hm : m < its.toArray.size then PyData.eqv (SeqAt.readOf s.heap its.toArray[m]) d else false) (n0 : Int) tk j hj (by rw [SeqAt.searchFrom_nat]; exact hnj) (by omega) ?_ ?_) ⟨ho, fun m hm => ?_, ?_⟩
        · rw [dif_pos hj, at_ j hj z hz]
          exact hzj
        · intro m hm hnm hmj
          rw [SeqAt.searchFrom_nat] at hnm
          have hmd : m < ds.length := by omega
          have hz' : ds[m]? = some ds[m] := List.getElem?_eq_getElem hmd
          rw [dif_pos hm, at_ m hm _ hz']
          exact hno m _ hnm hmj hz'
        · rw [dif_pos hm]
          exact hall _ (by simp)
        · exact ⟨.int (j : Nat), H, I.tok _, ⟨_, rfl⟩, q⟩
theorem toPL_map : ∀ {ds : List Dt}, toPL ds = ds.map toP
  | [] => by rw [toPL_nil]; rfl
  | d :: ds => by rw [toPL_cons, toPL_map]; rfl
/-- what l.index(x, n) asks -/
abbrev idxQ (x y z : Dt) (Q : Dt → Prop) : Prop := match x, z with
  | .lst ds, .int k => ∃ (n j : Nat) (d : Dt), k = (n : Int) ∧ (isPL ds = true ∧ isP y = true ∧ SeqAt.shaped (.list (toPL ds)) = true ∧ SeqAt.shaped (toP y) = true) ∧ n ≤ j ∧ ds[j]? = some d ∧ PyData.eqv (toP d) (toP y) = true ∧ (∀ (m : Nat) (d' : Dt), n ≤ m → m < j → ds[m]? = some d' → PyData.eqv (toP d') (toP y) = false) ∧ Q (.int (j : Int))
  | _, _ => False
theorem d_indexF {o : Expr} (hu : X.A.units + 65 < cLine) (h : DA X ρ o fun x => ∃ ds, x = .lst ds ∧ DE X ρ a fun y => DE X ρ b fun z => idxQ (.lst ds) y z Q)
    (hbase : attributeBase o "index" X.env (eval o X.env) = eval o X.env := by rfl)
    (hfew : ((backTo cpos (starEach [a, b] X.env)).all (fun x => !x.1) && (backToKw cpos (keywordEach [] X.env)).all (fun x => x.1.isSome) && decide (([a, b] : List Expr).length + ([] : List Keyword).length + (if ([] : List Keyword).isEmpty then 0 else 1) < 30)) = true := by rfl)
    (hline : (apos.endLine == cpos.line) = true := by rfl) (hst : starEach [a, b] X.env = (false, eval a X.env) :: starEach [b] X.env := by rfl) (hst2 : starEach [b] X.env = (false, eval b X.env) :: starEach [] X.env := by rfl) (hplain : (backTo cpos (starEach [b] X.env)).any (·.1) = false := by rfl) :
    DE X ρ (.Call (.Attribute o "index" apos) [a, b] [] cpos) Q :=
  ⟨fun H0 B σ H E => sem_of (pe_bm PySem.F.plainAttrs_list PySem.F.slot_list_index PySem.F.type_list_index (mt_indexF hu) pe_sem (pa_cons pe_sem (pa_cons pe_sem pa_nil hst2) hst) hbase hfew hline hst hplain) (h.go E fun B1 x d1 H1 g1 E1 r1 ⟨ds0, ed, q1⟩ => by
    subst ed
    cases r1 with
    | lst ha hx =>
      refine ⟨Or.inl ⟨rfl, _, ha⟩, q1.go E1 fun B2 y d2 H2 g2 E2 r2 q2 => q2.go E2 fun B3 z d3 H3 g3 E3 r3 q3 => ?_⟩
      cases r3 with
      | int k =>
        obtain ⟨n, j, d, rfl, ⟨p1, p2, p3, p4⟩, hnj, hj, he, hno, q⟩ := q3
        have gg := g2.h.trans g3.h
        refine ⟨_, y, n, toP d2, toPL _, j, toP d, rfl, rfl, .lst (ex_l gg ha) ((hx.ex gg).dp p1), (r2.ex (g3.b.trans E3.ex)).dp p2, p3, p4, hnj, ?_, he, fun m z' h1 h2 h3 => ?_, B3, _, (g1.trans g2).trans g3, .int _, q⟩
        · rw [toPL_map, List.getElem?_map, hj]; rfl
        · rw [toPL_map, List.getElem?_map] at h3
          obtain ⟨d', hd', rfl⟩ := Option.map_eq_some_iff.mp h3
          exact hno m d' h1 h2 hd'
      | _ => exact q3.elim
)⟩
/-! ### x[a:c] = a new list -/
def sSlPut (to ta tc tv : TE) : TS := fun D σ H => tv σ H fun v H1 => to σ H1 fun x H2 => ta σ H2 fun y H3 => tc σ H3 fun z H4 => ∃ (l b : Addr) (xs ys : List V) (i j : Int), x = .ref l ∧ v = .ref b ∧ y = .int i ∧ z = .int j ∧ H4 l = some (.lst xs) ∧ H4 b = some (.lst ys) ∧ l ≠ b ∧ 0 ≤ i ∧ i ≤ j ∧ j ≤ xs.length ∧ xs.length + ys.length ≤ sizeLine ∧ D.nx σ (upd H4 l (.lst (xs.take i.toNat ++ ys ++ xs.drop j.toNat)))
theorem ps_slput {value : Expr} {to ta tc tv : TE} (hv : PE X value tv) (ho : PE X o to) (ha : PE X a ta) (hc : PE X c tc) (hs : swapsWith value (some (.Subscript o (.Slice (some a) (some c) none p2) pos')) pos.line X.env = pure false := by rfl) :
    PS X (.Assign [.Subscript o (.Slice (some a) (some c) none p2) pos'] value pos) (sSlPut to ta tc tv) := by
  refine ⟨fun pins s σ H D I h => ?_⟩
  refine wpAny_Assign_Subscript (thn (hv.run pins s σ H _ I h) fun r s1 ⟨v, H1, I1, rv, q1⟩ => thn (ho.run pins s1 σ H1 _ I1 q1) fun u s2 ⟨x, H2, I2, rx, q2⟩ => ?_) hs
  refine wpAny_Slice ?_
  rw [evalPart_some]
  refine thn (ha.run pins s2 σ H2 _ I2 q2) fun vl s3 ⟨y, H3, I3, ry, q3⟩ => ?_
  rw [evalPart_some]
  refine thn (hc.run pins s3 σ H3 _ I3 q3) fun vu s4 ⟨z, H4, I4, rz, q4⟩ => ?_
  rw [evalPart_none]
  refine wpAny_pure ?_
  obtain ⟨l, b, xs, ys, i, j, rfl, rfl, rfl, rfl, hl, hb, hne, h0, hij, hj, hz, q⟩ := q4
  obtain rfl : u = Value.ref l := rx
  obtain rfl : r = Value.ref b := rv
  have I5 : Inv X pins σ H4 { s4 with heap := s4.heap.push { cls := .type "slice", data := .fields #[vl, vu, .none] } } := I4.kept (t' := s4.toks) fun b ob q => Heap.get?_push_of_some _ q
  exact set_slice I5 hl hb hne (Heap.IsSliceOf.new ..) ry rz h0 hij hj hz fun s' I' => ⟨σ, _, I', q⟩
/-- x[a:c] = e of a list of one's own -/
theorem s_slput (i : Nat) {ds : List Dt} (hi : ρ[i]? = some (.ow (.lst ds))) (h : DN X ρ e fun d => ∃ es, d = .lst es ∧ DE X ρ a fun y => DE X ρ c fun z => ∃ n m, y = .int n ∧ z = .int m ∧ 0 ≤ n ∧ n ≤ m ∧ m ≤ ds.length ∧ ds.length + es.length ≤ 100000 ∧ DS X (ρ.set i (.ow (.lst (ds.take n.toNat ++ es ++ ds.drop m.toNat)))) rest E) (hN : X.N[i]? = some x := by rfl) (hv : Vis X.env.scope x := by first | exact Or.inl rfl | exact Or.inr (Or.inl rfl) | exact Or.inr (Or.inr rfl))
    (hd : (x == ("__debug__" : Str)) = false := by decide) (hcd : (x == ("__classdict__" : Str)) = false := by decide)
    (hs : swapsWith e (some (.Subscript (.Name x px) (.Slice (some a) (some c) none p2) pos')) pos.line X.env = pure false := by rfl) : DS X ρ (.Assign [.Subscript (.Name x px) (.Slice (some a) (some c) none p2) pos'] e pos :: rest) E :=
  ⟨fun H0 B0 B σ H D g En L => by
    obtain ⟨p, hσ, hb, h0, xs, hp, rs⟩ := En.ow i _ hi
    refine semS_of (pss_cons (ps_slput pe_sem pe_sem pe_sem pe_sem hs) pss_sem) (h.go En fun B2 p2 d H2 g2 E2 hp2 hb2 od ⟨es, ed, q⟩ => ?_)
    subst ed
    obtain ⟨ys, hy, ry⟩ := od
    refine EV.ev (ev_nm i hσ hN hv hd hcd) H2 (Ex.refl _) _ fun H3 e3 => q.go (E2.more e3) fun B4 v y H4 g4 E4 r4 q4 => q4.go E4 fun B5 w z H5 g5 E5 r5 ⟨n, m, en, em, h1, h2, h3, hz, q5⟩ => ?_
    subst en em
    cases r4
    cases r5
    have g35 := ((Gr.more g2.s e3).trans g4).trans g5
    have gg := g2.trans g35
    have hq : H5 p = some (.lst xs) := gg.h _ _ hp
    have hq2 : H5 p2 = some (.lst ys) := g35.h _ _ hy
    have nb : B5 p = none := gg.o p _ hp rfl hb
    have ne : p ≠ p2 := fun z => by subst z; rw [hp] at hp2; cases hp2
    refine ⟨p, p2, xs, ys, n, m, rfl, rfl, rfl, rfl, hq, hq2, ne, h1, h2, by rw [rs.len]; exact h3, sz_of (by rw [rs.len, ry.len]; exact hz), ?_⟩
    exact q5.run H0 B0 B5 σ _ D ((g.trans gg).mutO nb h0) (E5.put (d' := .lst (ds.take n.toNat ++ es ++ ds.drop m.toNat)) hi hσ ⟨_, upd_same, (((rs.ex gg.b).take _).app (ry.ex g35.b)).app ((rs.ex gg.b).drop _)⟩) L⟩
end
end Z
set_option Elab.async false
set_option linter.all false
set_option maxRecDepth 100000
set_option maxHeartbeats 4000000
/-! calls that hand back two new objects -/
namespace Z
open PySem PySem.Spec PyProof.Rows L2 Y
open Evl (Ex st_of sq_of ex_l ex_t fresh_back sz_of sz_lt)
section
variable {X : Cx} {ρ : List Sl} {e a b c o : Expr} {es : List Expr} {H0 B B0 B2 H H2 : Hp} {σ : L2.St} {i j : Nat} {pos pos' p2 q1 q2 q3 px py pt spos : Pos} {nm x y fnm : Str} {ps : List Str} {lv : Nat} {rest : List Stmt} {E : DEnds} {S : List Dt → (Dt → Dt → Prop) → Prop}
/-- the call itself -/
theorem e_own2 (O : OwnD2 X.prog X.w X.K X.mg X.base nm ps lv S) (hr : Room lv X.A) (hg : Gl X nm) {C : Dt → Dt → Prop} (h : DL X ρ (e :: es) fun ds => S ds C) (E1 : En X.K H0 B ρ σ H) {R : VK}
    (k : ∀ B2 p H2 d1 d2 H1, Gr B H B2 H2 → En X.K H0 B2 ρ σ H2 → Ex H H1 → Two X.K H1 B2 H2 p d1 d2 → C d1 d2 → R (.ref p) H2)
    (hdb : (nm == ("__debug__" : Str)) = false := by decide) (he : starEach (e :: es) X.env = (false, eval e X.env) :: starEach es X.env := by rfl) (hpl : (backTo q2 (starEach es X.env)).any (·.1) = false := by rfl) : semE X (.Call (.Name nm q1) (e :: es) [] q2) σ H R := by
  obtain ⟨g, fd, F, hk, hb, hm⟩ := O.own.ex
  refine sem_of (pe_call F hr hg hm hk hb .nil pass0 pa_sem hdb he hpl) (h.go E1 fun B1 vs ds H1 g1 E2 rs q => ?_)
  rw [List.append_nil]
  exact ⟨B1, ds, E2.ex, rs, O.mono _ _ _ (fun d1 d2 q B3 p H3 g3 t => k B3 p H3 d1 d2 H1 (g1.trans g3) (E2.gr g3) g1.h t q) q⟩
/-- x = f(..)[0] -/
theorem s_call2fst (i : Nat) (O : OwnD2 X.prog X.w X.K X.mg X.base fnm ps lv S) (hr : Room lv X.A) (hg : Gl X fnm) (h : DL X ρ (e :: es) fun ds => S ds fun d1 _ => DS X (ρ.set i (.ow d1)) rest E) (hN : X.N.Nodup) (hi : X.N[i]? = some nm := by rfl) (hx : Loc X.env.scope nm := by first | exact Or.inl rfl | exact Or.inr rfl)
    (hs : swapsWith (.Subscript (.Call (.Name fnm q1) (e :: es) [] q2) (.Constant (.int 0) j q3) p2) (some (.Name nm pos')) pos.line X.env = pure false := by rfl) (hf : X.fn nm = true ∨ X.env.scope.names.lookup nm = some .local := by first | exact .inl rfl | exact .inr rfl)
    (hdb : (fnm == ("__debug__" : Str)) = false := by decide) (he : starEach (e :: es) X.env = (false, eval e X.env) :: starEach es X.env := by rfl) (hpl : (backTo q2 (starEach es X.env)).any (·.1) = false := by rfl) :
    DS X ρ (.Assign [.Name nm pos'] (.Subscript (.Call (.Name fnm q1) (e :: es) [] q2) (.Constant (.int 0) j q3) p2) pos :: rest) E :=
  ⟨fun H0 B0 B σ H D g En => fun L => semS_of (pss_cons (ps_set hN hi hx pe_sem hs hf) pss_sem) (sem_of (pe_ix ix_tup pe_sem pe_int (fun _ _ => rfl)) (e_own2 O hr hg h En (fun B2 p H2 d1 d2 H1 g2 E2 eH t q => by
    obtain ⟨a1, a2, t1, t2, t3, t4, t5, t6, t7, t8⟩ := t
    refine ⟨p, _, 0, .ref a1, rfl, rfl, st_of t1, rfl, ?_⟩
    exact q.run H0 B0 B2 _ H2 D (g.trans g2) (E2.setO t2 (fresh_back (g.trans (Gr.more g.s eH)).h t4) t7 (Z.En.noSlot (En.more eH) t4)) L) hdb he hpl))⟩
/-- x, y = f(..) -/
theorem s_call2 (i j : Nat) {kt : Nat} (hij : i ≠ j) (O : OwnD2 X.prog X.w X.K X.mg X.base fnm ps lv S) (hr : Room lv X.A) (hg : Gl X fnm) (h : DL X ρ (e :: es) fun ds => S ds fun d1 d2 => DS X ((ρ.set i (.ow d1)).set j (.ow d2)) rest E) (hc : X.calm = true) (hN : X.N.Nodup) (hi : X.N[i]? = some x := by rfl) (hj : X.N[j]? = some y := by rfl)
    (hx : Loc X.env.scope x := by first | exact Or.inl rfl | exact Or.inr rfl) (hy : Loc X.env.scope y := by first | exact Or.inl rfl | exact Or.inr rfl)
    (hf : X.fn x = true ∨ X.env.scope.names.lookup x = some .local := by first | exact .inl rfl | exact .inr rfl) (hf2 : X.fn y = true ∨ X.env.scope.names.lookup y = some .local := by first | exact .inl rfl | exact .inr rfl)
    (hs : swapsWithSole [.Tuple [.Name x px, .Name y py] kt pt] (.Call (.Name fnm q1) (e :: es) [] q2) pos.line X.env = pure false := by rfl) (hw : swappedStores [.Tuple [.Name x px, .Name y py] kt pt] (.Call (.Name fnm q1) (e :: es) [] q2) X.env = pure none := by rfl)
    (h1 : (assignEach [.Tuple [.Name x px, .Name y py] kt pt] X.env).map (·.2) = [assign (.Tuple [.Name x px, .Name y py] kt pt) X.env] := by rfl)
    (hdb : (fnm == ("__debug__" : Str)) = false := by decide) (he : starEach (e :: es) X.env = (false, eval e X.env) :: starEach es X.env := by rfl) (hpl : (backTo q2 (starEach es X.env)).any (·.1) = false := by rfl) :
    DS X ρ (.Assign [.Tuple [.Name x px, .Name y py] kt pt] (.Call (.Name fnm q1) (e :: es) [] q2) pos :: rest) E :=
  ⟨fun H0 B0 B σ H D g En => fun L => semS_of (pss_cons (ps_asg pe_sem (pg_tup hc (pgs_cons (pg_name hN hi hx hf) (pgs_cons (pg_name hN hj hy hf2) pgs_nil))) hs hw h1) pss_sem) (e_own2 O hr hg h En (fun B2 p H2 d1 d2 H1 g2 E2 eH t q => by
    obtain ⟨a1, a2, t1, t2, t3, t4, t5, t6, t7, t8⟩ := t
    refine ⟨p, _, rfl, st_of t1, rfl, _, _, rfl, _, _, rfl, rfl, ?_⟩
    have f1 := (g.trans (Gr.more g.s eH)).h
    have E3 := E2.setO (i := i) t2 (fresh_back f1 t4) t7 (Z.En.noSlot (En.more eH) t4)
    refine q.run H0 B0 B2 _ H2 D (g.trans g2) (E3.setO t3 (fresh_back f1 t5) t8 fun k d z1 z2 => ?_) L
    by_cases z : i = k
    · subst z
      by_cases hl : i < σ.length
      · rw [List.getElem?_set_self hl] at z2
        cases z2; exact absurd rfl t6
      · rw [List.getElem?_eq_none (by rw [List.length_set]; omega)] at z2; cases z2
    · rw [List.getElem?_set_ne z] at z1 z2
      exact Z.En.noSlot (En.more eH) t5 k d z1 z2) hdb he hpl)⟩
/-- tuples of ints, as Python sorts them -/
theorem wc_ltT {K : PySem.W.Frag} : WC K (rLtT K) fun x y Q => ∃ ns ms : List Int, x = .tup (ns.map Dt.int) ∧ y = .tup (ms.map Dt.int) ∧ Q (HT.lexLt ns ms) := fun B H x y d1 d2 Q R s rx ry w k => by
  obtain ⟨ns, ms, rfl, rfl, w⟩ := w
  cases rx with
  | tup ha hx => cases ry with
    | tup hb hy => exact ⟨_, _, ns, ms, rfl, rfl, by rw [← hx.ints]; exact ex_t s ha, by rw [← hy.ints]; exact ex_t s hb, k _ w⟩
theorem t_ltT {Q : Bool → Prop} (hu : X.A.units < cLine) (h : DA X ρ a fun x => DA X ρ b fun y => ∃ ns ms : List Int, x = .tup (ns.map Dt.int) ∧ y = .tup (ms.map Dt.int) ∧ Q (HT.lexLt ns ms)) : DT X ρ (.Compare a [.Lt] [b] pos) Q := t_cmp (op_ltT hu) wc_ltT h (nomark _)
/-- x, y = a, b: both new -/
theorem s_parO {kt k2 : Nat} {pt2 : Pos} (i j : Nat) (h : DN X ρ a fun d1 => DN X ρ b fun d2 => DS X ((ρ.set i (.ow d1)).set j (.ow d2)) rest E) (hc : X.calm = true) (hN : X.N.Nodup) (hij : i ≠ j) (hi : X.N[i]? = some x := by rfl) (hj : X.N[j]? = some y := by rfl)
    (hx : X.env.scope.names.lookup x = some .local := by rfl) (hy : X.env.scope.names.lookup y = some .local := by rfl)
    (hw : swappedStores [.Tuple [.Name x px, .Name y py] kt pt] (.Tuple [a, b] k2 pt2) X.env = pure (some [x, y]) := by rfl) (hs : swapsWithSole [.Tuple [.Name x px, .Name y py] kt pt] (.Tuple [a, b] k2 pt2) pos.line X.env = pure false := by rfl)
    (he : starEach [a, b] X.env = (false, eval a X.env) :: starEach [b] X.env := by rfl) (he2 : starEach [b] X.env = (false, eval b X.env) :: starEach [] X.env := by rfl) :
    DS X ρ (.Assign [.Tuple [.Name x px, .Name y py] kt pt] (.Tuple [a, b] k2 pt2) pos :: rest) E :=
  ⟨fun H0 B0 B σ H D g En => fun L => semS_of (pss_cons (ps_par hc hN hi hj hij hx hy (pa_cons pe_sem (pa_cons pe_sem pa_nil he2) he) hw hs) pss_sem) (h.go En fun B2 p1 d1 H2 g2 E2 hp1 hb1 o1 q1 => q1.go E2 fun B3 p2 d2 H3 g3 E3 hp2 hb2 o2 q2 => ⟨_, _, rfl, by
    obtain ⟨u, hu, mu⟩ := o1.mut
    have hb1' : B3 p1 = none := g3.o p1 u hu mu hb1
    have ne : p1 ≠ p2 := fun z => by subst z; rw [hp2] at hu; cases hu
    have o1' : Od X.K B3 H3 p1 d1 := o1.ex g3.b (by rw [hu, g3.h _ _ hu])
    have E4 := E3.setO (i := i) hb1' (fresh_back g.h hp1) o1' (fun k d z1 z2 => Z.En.noSlot (i := i) En hp1 k d z1 z2)
    refine q2.run H0 B0 B3 _ H3 D ((g.trans g2).trans g3) (E4.setO hb2 (fresh_back (g.trans g2).h hp2) o2 fun k d z1 z2 => ?_) L
    by_cases z : i = k
    · subst z
      by_cases hl : i < σ.length
      · rw [List.getElem?_set_self hl] at z2
        cases z2; exact absurd rfl ne
      · rw [List.getElem?_eq_none (by rw [List.length_set]; omega)] at z2; cases z2
    · rw [List.getElem?_set_ne z] at z1 z2
      exact Z.En.noSlot (i := j) E2 hp2 k d z1 z2⟩)⟩
end
end Z
set_option Elab.async false
set_option linter.all false
set_option maxRecDepth 100000
set_option maxHeartbeats 4000000
/-! name = {.. for ..} on one line: the comprehension's value goes straight to the name. -/
namespace Z
open PySem PySem.Spec PyProof.Rows L2 Evl Y
section
variable {X : Cx} {ρ : List Sl} {e a b c o elt tst iter tg kx vx : Expr} {es : List Expr} {H0 B B0 B2 H H2 : Hp} {σ : L2.St} {i j : Nat} {d : Dt} {pos pos' py spos : Pos} {nm x : Str} {rest ss tt body : List Stmt} {E : DEnds} {D : Ends} {scope : Scope} {own : List (Str × Nat)}
theorem ps_setDc {y : Str} {ifs : List Expr} {wi : TI} {g : TG} {tt : TT} {tk tv : TE} (hc : X.calm = true) (hN : X.N.Nodup) (hy : X.N[i]? = some y) (hyl : X.env.scope.names.lookup y = some .local)
    (hsw : swapsWith (.DictComp kx vx [⟨tg, iter, ifs, 0⟩] scope pos) (some (.Name y py)) spos.line X.env = pure true) (hi : PI X tg iter wi) (ok : BlkOk X.N X.env.scope scope own)
    (hg : ∀ (s : Shared) (H : Hp) (C : Addr) (cl : List (Str × Addr)) (fp : List Addr), PG (X.blk s H scope (compEnvC scope cl C X.env) fp) tg g) (ht : ∀ (s : Shared) (H : Hp) (C : Addr) (cl : List (Str × Addr)) (fp : List Addr), PTs (X.blk s H scope (compEnvC scope cl C X.env) fp) ifs tt)
    (hk : ∀ (s : Shared) (H : Hp) (C : Addr) (cl : List (Str × Addr)) (fp : List Addr), PE (X.blk s H scope (compEnvC scope cl C X.env) fp) kx tk)
    (he : ∀ (s : Shared) (H : Hp) (C : Addr) (cl : List (Str × Addr)) (fp : List Addr), PE (X.blk s H scope (compEnvC scope cl C X.env) fp) vx tv) (hs : ∀ x, foldedSetIterable iter X.env x = pure x := by intro _; rfl) :
    PS X (.Assign [.Name y py] (.DictComp kx vx [⟨tg, iter, ifs, 0⟩] scope pos) spos) (tAsg (tDc wi g tt tk tv (own.map (·.2))) (gName i)) := by
  refine ⟨fun pins s σ H D I h => ?_⟩
  rw [exec_Assign_Name_used _ _ _ _ hsw]
  refine wpAny_bind (wpAny_standAt (wpAny_bind ?_))
  show wpAny _ X.A (do let _ ← comprehension (.DictComp kx vx [⟨tg, iter, ifs, 0⟩] scope pos) scope X.env _ newDict false (eval iter X.env) (some (assign (.Name y py) X.env))) _ _ s
  have h : tDc wi g tt tk tv (own.map (·.2)) σ H (fun x H1 => gName i x σ H1 D.nx) := h
  refine wpAny_bind (thn (dc_core (Qf := fun _ s' => SP X pins D .next s') hc hN I hi ok hg ht hk he hs h fun L C s' m H' I' q hn f => ?_) fun _ s' hq => wpAny_pure (wpAny_pure hq))
  show wpAny _ _ (assign (.Name y py) X.env (.ref L)) _ _ _
  refine wpAny_assign_Name (store_ok2 (v := V.ref L) I' hN hy (.inl hyl) rfl (fun s2 I2 ⟨a, sb, ha⟩ => ?_) (.inr hyl))
  obtain ⟨f0, f1, f2, f3, f4, f5⟩ := f
  have haC : C ≠ a := by
    rcases ha with z | z
    · rw [z]; exact f1
    · exact fun e => f4 y a z e.symm
  refine ⟨m, hn.sameBut sb haC, fun h3 sb3 => ?_⟩
  exact ⟨_, H', I2.turned (t' := s2.toks) (fun b o hb e => (sb3.2 b hb).trans e) f0 f1 f3 f4 f5, q⟩
theorem s_setDc {js : List Nat} {f : List Sl → Dt → Option (List Sl)} (i : Nat) (hc : X.calm = true) (hN : X.N.Nodup) (ok : BlkOk X.N X.env.scope scope own) (hg : DGb X scope tg js f) (hj : ∀ j ∈ js, j ∈ own.map (·.2))
    (hi : DI X ρ tg iter fun ds => DcQ X scope own ρ f (fun ρ' acc P => DEb X scope ρ' kx fun z => ∃ k, keyD z = some k ∧ DEb X scope ρ' vx fun d => P (putD acc k d)) ds fun d => DS X (ρ.set i (.ow d)) rest E)
    (hy : X.N[i]? = some nm := by rfl) (hyl : X.env.scope.names.lookup nm = some .local := by rfl) (hsw : swapsWith (.DictComp kx vx [⟨tg, iter, [], 0⟩] scope pos) (some (.Name nm py)) spos.line X.env = pure true := by rfl) :
    DS X ρ (.Assign [.Name nm py] (.DictComp kx vx [⟨tg, iter, [], 0⟩] scope pos) spos :: rest) E := by
  obtain ⟨wi, pi, hw⟩ := hi.ex
  obtain ⟨g, pg, gg⟩ := hg
  refine ⟨fun H0 B0 B σ H D g0 En L => semS_of (pss_cons (ps_setDc hc hN hy hyl hsw pi ok pg (fun _ _ _ _ _ => pts_nil) (fun s H' C cl fp => pe_blk s H' C cl fp) (fun s H' C cl fp => pe_blk s H' C cl fp) hi.fo) pss_sem) (hw H0 B σ H _ En fun B2 H2 J ds g2 E2 w q A hA => ?_)⟩
  refine dc_run gg hj E2 w hA q (fun ρ' σ' B' H' acc P R N E' bd k1 k2 => ?_) fun B3 H3 acc g3 n3 o3 q3 => ?_
  · exact iteT (B := N H') fun s H'' C cl fp => (bd s H'' C cl fp).go E' fun B3 v z H3 g3 E3 r3 ⟨k, hk, q3⟩ => by
      rw [r3.key hk]
      exact fun s H'' C cl fp => (q3 s H'' C cl fp).go E3 fun B4 u d H4 g4 _ r4 q4 => k1 B4 k d H4 (g3.trans g4) u r4 q4
  · exact q3.run H0 B0 B3 _ H3 D ((g0.trans g2).trans g3) ((E2.gr g3).setO n3 (fresh_back (g0.trans g2).h hA) o3 (Z.En.noSlot (i := i) (En.gr g2) hA)) L
theorem s_setDct {js : List Nat} {f : List Sl → Dt → Option (List Sl)} (i : Nat) (hc : X.calm = true) (hN : X.N.Nodup) (ok : BlkOk X.N X.env.scope scope own) (hg : DGb X scope tg js f) (hj : ∀ j ∈ js, j ∈ own.map (·.2))
    (hi : DI X ρ tg iter fun ds => DcQ X scope own ρ f (fun ρ' acc P => DTb X scope ρ' tst fun y => (y = true → DEb X scope ρ' kx fun z => ∃ k, keyD z = some k ∧ DEb X scope ρ' vx fun d => P (putD acc k d)) ∧ (y = false → P acc)) ds fun d => DS X (ρ.set i (.ow d)) rest E)
    (hy : X.N[i]? = some nm := by rfl) (hyl : X.env.scope.names.lookup nm = some .local := by rfl) (hsw : swapsWith (.DictComp kx vx [⟨tg, iter, [tst], 0⟩] scope pos) (some (.Name nm py)) spos.line X.env = pure true := by rfl) :
    DS X ρ (.Assign [.Name nm py] (.DictComp kx vx [⟨tg, iter, [tst], 0⟩] scope pos) spos :: rest) E := by
  obtain ⟨wi, pi, hw⟩ := hi.ex
  obtain ⟨g, pg, gg⟩ := hg
  refine ⟨fun H0 B0 B σ H D g0 En L => semS_of (pss_cons (ps_setDc hc hN hy hyl hsw pi ok pg (fun s H' C cl fp => pts_one (pt_blk s H' C cl fp)) (fun s H' C cl fp => pe_blk s H' C cl fp) (fun s H' C cl fp => pe_blk s H' C cl fp) hi.fo) pss_sem) (hw H0 B σ H _ En fun B2 H2 J ds g2 E2 w q A hA => ?_)⟩
  refine dc_run gg hj E2 w hA q (fun ρ' σ' B' H' acc P R N E' bd k1 k2 => ?_) fun B3 H3 acc g3 n3 o3 q3 => ?_
  · exact fun s H'' C cl fp => (bd s H'' C cl fp).go E' fun B1 y H1 g1 E1 q1 => by
      cases y with
      | true =>
        exact iteT (B := N H1) fun s H'' C cl fp => (q1.1 rfl s H'' C cl fp).go E1 fun B3 v z H3 g3 E3 r3 ⟨k, hk, q3⟩ => by
          rw [r3.key hk]
          exact fun s H'' C cl fp => (q3 s H'' C cl fp).go E3 fun B4 u d H4 g4 _ r4 q4 => k1 B4 k d H4 ((g1.trans g3).trans g4) u r4 q4
      | false =>
        rw [if_neg Bool.false_ne_true]
        exact k2 B1 H1 g1 (q1.2 rfl)
  · exact q3.run H0 B0 B3 _ H3 D ((g0.trans g2).trans g3) ((E2.gr g3).setO n3 (fresh_back (g0.trans g2).h hA) o3 (Z.En.noSlot (i := i) (En.gr g2) hA)) L
end
end Z
set_option Elab.async false
set_option linter.all false
set_option maxRecDepth 100000
set_option maxHeartbeats 4000000
/-! dict comprehensions whose keys differ. -/
namespace Z
open PySem PySem.Spec PyProof.Rows L2 Evl Y
theorem putD_new {kvs : List (Key × Dt)} {k : Key} {d : Dt} (h : ∀ kv ∈ kvs, kv.1 ≠ k) : putD kvs k d = kvs ++ [(k, d)] := by
  unfold putD
  rw [if_neg]
  intro z
  obtain ⟨kv, hk, e⟩ := List.any_eq_true.mp z
  exact h kv hk (of_decide_eq_true e)
theorem valD_none {kvs : List (Key × Dt)} {k : Key} (h : ∀ kv ∈ kvs, kv.1 ≠ k) : valD kvs k = none := by
  unfold valD
  rw [List.find?_eq_none.mpr]
  · rfl
  · intro kv hk z; exact h kv hk (of_decide_eq_true z)
theorem valD_isSome {kvs : List (Key × Dt)} {k : Key} : (valD kvs k).isSome = true ↔ ∃ kv ∈ kvs, kv.1 = k := by
  constructor
  · intro h
    rcases Classical.em (∃ kv ∈ kvs, kv.1 = k) with z | z
    · exact z
    · rw [valD_none fun kv hk e => z ⟨kv, hk, e⟩] at h; cases h
  · rintro ⟨kv, hk, e⟩
    unfold valD
    rw [Option.isSome_map, List.find?_isSome]
    exact ⟨kv, hk, decide_eq_true e⟩
/-- the value at a key that stands once -/
theorem valD_map {α : Type} {f : α → Key} {g : α → Dt} : ∀ {l : List α} {x : α}, (l.map f).Nodup → x ∈ l → valD (l.map fun y => (f y, g y)) (f x) = some (g x)
  | y :: r, x, nd, h => by
    rw [List.map_cons, List.nodup_cons] at nd
    rcases List.mem_cons.mp h with rfl | h
    · unfold valD; rw [List.map_cons, List.find?_cons_of_pos (by simp)]; rfl
    · have ne : f y ≠ f x := fun e => nd.1 (e ▸ List.mem_map_of_mem h)
      have e : valD ((y :: r).map fun y => (f y, g y)) (f x) = valD (r.map fun y => (f y, g y)) (f x) := by
        unfold valD; rw [List.map_cons, List.find?_cons_of_neg (by simpa using ne)]
      rw [e]; exact valD_map nd.2 h
section
variable {X : Cx} {ρ : List Sl} {tst kx vx : Expr} {scope : Scope} {own : List (Str × Nat)} {Q : Dt → Prop}
theorem nodup_take {α : Type} {l : List α} (nd : l.Nodup) {n : Nat} {x : α} (h : l[n]? = some x) : x ∉ l.take n := fun z => by
  obtain ⟨m, hm, e⟩ := List.getElem_of_mem z
  rw [List.length_take] at hm
  rw [List.getElem_take] at e
  have := (List.getElem_inj nd).mp (e.trans (List.getElem?_eq_some_iff.mp h).2.symm)
  omega
theorem DcQ.filt {f : List Sl → Dt → Option (List Sl)} {ds : List Dt} (p : Dt → Bool) (F : Dt → Key) (G : Dt → Dt) (hz : ds.length ≤ 100000) (nd : (ds.map F).Nodup)
    (h : ∀ d ∈ ds, ∃ ρ', f (wipeD ρ (own.map (·.2))) d = some ρ' ∧ DTb X scope ρ' tst (fun z => z = p d) ∧ (p d = true → DEb X scope ρ' kx fun r => keyD r = some (F d) ∧ DEb X scope ρ' vx fun r => r = G d)) (q : Q (.dic ((ds.filter p).map fun d => (F d, G d)))) :
    DcQ X scope own ρ f (fun ρ' acc P => DTb X scope ρ' tst fun y => (y = true → DEb X scope ρ' kx fun z => ∃ k, keyD z = some k ∧ DEb X scope ρ' vx fun d => P (putD acc k d)) ∧ (y = false → P acc)) ds Q :=
  ⟨hz, fun n acc => acc = ((ds.take n).filter p).map fun d => (F d, G d), rfl, fun n d acc hd ha => by
    obtain ⟨ρ', h1, h2, h3⟩ := h d (List.mem_of_getElem? hd)
    have ha : acc = ((ds.take n).filter p).map fun d => (F d, G d) := ha
    have et : ds.take (n + 1) = ds.take n ++ [d] := by rw [List.take_add_one, hd]; rfl
    refine ⟨ρ', h1, fun s H' C cl fp => (h2 s H' C cl fp).weak fun z hz => ⟨fun zt s H' C cl fp => (h3 (hz.symm.trans zt) s H' C cl fp).weak fun r hr => ⟨F d, hr.1, fun s H' C cl fp => (hr.2 s H' C cl fp).weak fun u hu => ?_⟩, fun zf => ?_⟩⟩
    · show putD acc (F d) u = ((ds.take (n + 1)).filter p).map fun d => (F d, G d)
      rw [hu, et, List.filter_append, List.map_append, ha, putD_new]
      · rw [List.filter_cons_of_pos (hz.symm.trans zt)]; rfl
      · intro kv hk e
        obtain ⟨d', hd', rfl⟩ := List.mem_map.mp hk
        have hF : (ds.map F)[n]? = some (F d) := by rw [List.getElem?_map, hd]; rfl
        refine nodup_take nd hF ?_
        rw [← List.map_take, ← e]
        exact List.mem_map_of_mem (List.mem_filter.mp hd').1
    · show acc = ((ds.take (n + 1)).filter p).map fun d => (F d, G d)
      rw [et, List.filter_append, List.filter_cons_of_neg (by rw [← hz, zf]; exact Bool.false_ne_true), List.map_append, ha]; simp, fun acc _ ha => by
    have ha : acc = ((ds.take ds.length).filter p).map fun d => (F d, G d) := ha
    rw [ha, List.take_length]; exact q⟩
end
end Z
set_option Elab.async false
set_option linter.all false
set_option maxRecDepth 100000
set_option maxHeartbeats 4000000
/-! dict(a list of pairs) whose keys are tuples that stand. -/
namespace Y
open PySem PySem.Spec PyProof.Rows L2
theorem pairsT_of {X : Cx} {pins : List (Addr × Obj)} {σ : L2.St} {H : Hp} {s : Shared} (I : Inv X pins σ H s) : ∀ {ps : List Addr} {kvs : List (List Key × V)}, Paired (fun p kv => ∃ b, SqT X.K H p [.ref b, kv.2] ∧ H b = some (.tup (kv.1.map kV))) ps kvs →
    ∃ prs : List (List Key × Addr × Value), KT H kvs prs ∧ prs.length = ps.length ∧ ∀ (j : Nat) (q : List Key × Addr × Value), prs[j]? = some q → ∃ b : Addr, ps[j]? = some b ∧ PairAt s.heap b (.ref q.2.1) q.2.2
  | _, _, .nil => ⟨[], .nil, rfl, fun j q e => by simp at e⟩
  | _, _, .cons (a := p) (b := kv) h t => by
    obtain ⟨prs, r, hl, hp⟩ := pairsT_of I t
    obtain ⟨b, h, hb⟩ := h
    obtain ⟨its, rv, ht, _⟩ := I.tuple h
    obtain ⟨u, y, ei, ru, ry⟩ := vals2 rv
    subst ei
    cases (show u = Value.ref b from ru)
    refine ⟨(kv.1, b, y) :: prs, .cons ⟨rfl, hb, ry⟩ r, by rw [List.length_cons, List.length_cons, hl], fun j q e => ?_⟩
    cases j with
    | zero =>
      have e' : (kv.1, b, y) = q := Option.some.inj e
      subst e'
      obtain ⟨o, h1, h2, n, h3⟩ := ht
      exact ⟨p, rfl, .inl ⟨o, h1, h2, n, h3⟩⟩
    | succ j =>
      obtain ⟨b, e1, e2⟩ := hp j q (by simpa using e)
      exact ⟨b, by simpa using e1, e2⟩
theorem kt_keys {H : Hp} : ∀ {kvs : List (List Key × V)} {prs : List (List Key × Addr × Value)}, KT H kvs prs → prs.map (·.1) = kvs.map (·.1)
  | _, _, .nil => rfl
  | _, _, .cons h t => by rw [List.map_cons, List.map_cons, kt_keys t, h.1]
theorem storedAll_new {K : Type} [DecidableEq K] : ∀ (ps xs : List (K × Addr × Value)), ((xs ++ ps).map (·.1)).Nodup → storedAllH xs ps = xs ++ ps
  | [], xs, _ => (List.append_nil _).symm
  | p :: ps, xs, h => by
    have hn : atKey xs p.1 = none := atKey_none_of_get fun j q e => by
      rw [List.map_append, List.nodup_append] at h
      exact h.2.2 p.1 (List.mem_map.mpr ⟨(p.1, q), List.mem_of_getElem? e, rfl⟩) p.1 (by simp) rfl
    have e : storedAllH xs (p :: ps) = storedAllH (storedH xs p.1 p.2.1 p.2.2) ps := rfl
    rw [e, storedH_new hn]
    have := storedAll_new ps (xs ++ [p]) (by rw [List.append_assoc]; exact h)
    rw [List.append_assoc] at this
    exact this
theorem call_dictPT {X : Cx} (hcalm : X.calm = true) (hu : X.A.units + 3 < cLine) : CallR X (.type "dict") (fun xs H Q => ∃ (a : Addr) (ps : List Addr) (kvs : List (List Key × V)), xs = [.ref a] ∧ SqL X.K H a (ps.map V.ref) ∧ Paired (fun p kv => ∃ b, SqT X.K H p [.ref b, kv.2] ∧ H b = some (.tup (kv.1.map kV))) ps kvs ∧ (kvs.map (·.1)).Nodup ∧
    ∀ p, H p = none → Q (.ref p) (upd H p (.dT kvs))) := by
  intro pins s σ H xs us Q I r q
  obtain ⟨a, ps, kvs, ex, hq, hp, hnd, q⟩ := q
  subst ex
  obtain ⟨u, eu, rx⟩ := vals1 r
  subst eu
  cases rx
  obtain ⟨its, rv, pl, hz⟩ := I.list hq
  have ei := refs_at rv
  subst ei
  rw [List.length_map] at hz
  obtain ⟨prs, rel, hl, hpr⟩ := pairsT_of I hp
  have hnd' : (prs.map (·.1)).Nodup := by rw [kt_keys rel]; exact hnd
  have P := PairArg.list (prog := X.prog) (w := X.w) a (ps.map Value.ref).toArray (fun j => ps.getD j 0) (prs.map fun q => (Value.ref q.2.1, q.2.2))
  have hfr : H s.heap.objs.size = none := I.hok.fresh (Nat.le_refl _)
  have hin : ∀ q ∈ prs, H q.2.1 = some (.tup (q.1.map kV)) := by
    have gen : ∀ {kvs : List (List Key × V)} {prs : List (List Key × Addr × Value)}, KT H kvs prs → ∀ q ∈ prs, H q.2.1 = some (.tup (q.1.map kV)) := by
      intro kvs prs q
      induction q with
      | nil => intro x hx; exact nomatch hx
      | @cons p q ps qs hq t ih =>
        intro x hx
        rcases List.mem_cons.mp hx with e | hx
        · subst e; rw [← hq.1]; exact hq.2.1
        · exact ih x hx
    exact gen rel
  refine call_dict_pairsH (knd := tupleKind (mixKind X.prog X.w)) (ps := prs) P (I.ok.hd hcalm) (show X.A.units + 2 < cLine by omega) ⟨pl, by simp [hl], fun j k v e => ?_⟩ ⟨by simp, fun i key v e => ?_⟩ (fun h' hk x hx => ?_) (by rw [List.length_map, hl]; exact hz) fun h' tk hd' k => ?_
  · rw [List.getElem?_map] at e
    obtain ⟨q', hq', eq⟩ := Option.map_eq_some_iff.mp e
    cases eq
    obtain ⟨b, e1, e2⟩ := hpr j q' hq'
    have eb : ps.getD j 0 = b := by rw [List.getD_eq_getElem?_getD, e1]; rfl
    show (ps.map Value.ref).toArray[j]? = some (Value.ref (ps.getD j 0)) ∧ PairAt s.heap (ps.getD j 0) (Value.ref q'.2.1) q'.2.2
    rw [eb]
    exact ⟨by simp [e1], e2⟩
  · have e : (prs.map fun q => (Value.ref q.2.1, q.2.2))[i]? = some (key, v) := e
    rw [List.getElem?_map] at e
    obtain ⟨q', hq', eq⟩ := Option.map_eq_some_iff.mp e
    cases eq
    exact ⟨q'.1, q'.2.1, hq', rfl⟩
  · have hx2 := hin x hx
    obtain ⟨o, its, n, h1, h2, h3, h4⟩ := key_of I.hok hx2
    have ne : x.2.1 ≠ s.heap.objs.size := fun z => by rw [z, hfr] at hx2; cases hx2
    exact ⟨o, its, n, hk _ _ ne (by simp) h1, h2, h3, h4⟩
  · have hm : (s.heap.objs.size == sysModules) = false := beq_eq_false_iff_ne.mpr (Nat.ne_of_gt I.big)
    rw [storedAll_new prs [] hnd', List.nil_append] at hd'
    obtain ⟨o, es, ep, g1, g2, g3, g4, _, _⟩ := hd'
    have rel' : KT (upd H s.heap.objs.size (.dT kvs)) kvs prs := by
      have gen : ∀ {kvs' : List (List Key × V)} {prs : List (List Key × Addr × Value)}, KT H kvs' prs → KT (upd H s.heap.objs.size (.dT kvs)) kvs' prs := by
        intro kvs' prs q
        induction q with
        | nil => exact .nil
        | @cons p q ps qs hq t ih =>
          refine .cons ⟨hq.1, ?_, hq.2.2⟩ ih
          rw [upd_ne fun z => by have := hq.2.1; rw [z, hfr] at this; cases this]
          exact hq.2.1
      exact gen rel
    have hlen : kvs.length ≤ sizeLine := by
      have : kvs.length = prs.length := by have := congrArg List.length (kt_keys rel); simpa using this.symm
      rw [this, hl]; exact hz
    exact ⟨.ref s.heap.objs.size, _, I.laid (a := s.heap.objs.size) (o := .dT kvs) (t' := tk) (fun b o e => k b o (by simp) e) (Nat.le_refl _) (show ObjOk X.prog X.w _ _ _ (.dT kvs) from ⟨hlen, hm, prs, rel', o, es, ep, g1, g2, g3, g4, hnd'⟩), rfl, q _ hfr⟩
end Y
set_option Elab.async false
set_option linter.all false
set_option maxRecDepth 100000
set_option maxHeartbeats 4000000
/-! min, max of two texts; min of a list of data. -/
namespace Y
open PySem PySem.Spec PyProof.Rows L2
open PySem.W (AlikeAll dataLt iter_listW readsAll_len cmpIn_lt moved_old)
def strAt (a b : Str) (i : Nat) : Str := if i = 0 then a else b
theorem strItems_at {a b : Str} {t u : Tok} {i : Nat} {v : Value} (h : (#[Value.str a t, Value.str b u] : Array Value)[i]? = some v) : ∃ t, v = .str (strAt a b i) t := by
  match i with
  | 0 => simp at h; exact ⟨t, by rw [← h]; rfl⟩
  | 1 => simp at h; exact ⟨u, by rw [← h]; rfl⟩
  | i + 2 => simp at h
theorem cmpStrs_lt {prog : Program} {w : World} {A : Around} {P : Nat → Value → Prop} (val : Nat → Str) (hval : ∀ i v, P i v → ∃ t, v = .str (val i) t) : CmpOf prog w A .Lt P (fun i j => decide ((val i).cps.toList < (val j).cps.toList)) := fun i j vi vj s Q E hi hj h => by
  obtain ⟨t, rfl⟩ := hval i vi hi
  obtain ⟨u, rfl⟩ := hval j vj hj
  exact (PyProof.Rows.lt_str h : wpAny (model prog w) A (compareOp .Lt (.str (val i) t) (.str (val j) u)) Q E s)
theorem cmpStrs_gt {prog : Program} {w : World} {A : Around} {P : Nat → Value → Prop} (val : Nat → Str) (hval : ∀ i v, P i v → ∃ t, v = .str (val i) t) : CmpOf prog w A .Gt P (fun i j => decide ((val j).cps.toList < (val i).cps.toList)) := fun i j vi vj s Q E hi hj h => by
  obtain ⟨t, rfl⟩ := hval i vi hi
  obtain ⟨u, rfl⟩ := hval j vj hj
  exact (PySem.P.gt_str h : wpAny (model prog w) A (compareOp .Gt (.str (val i) t) (.str (val j) u)) Q E s)
section
variable {prog : Program} {w : World} {A : Around} {E : Value → Shared → Prop} {s : Shared}
theorem min_two_strs {a b : Str} {t u : Tok} {Q : Value → Shared → Prop} (hh : A.handled = none)
    (h : ∀ h' tk, (∀ c o, s.heap.get? c = some o → h'.get? c = some o) → Q (if b.cps.toList < a.cps.toList then .str b u else .str a t) { s with heap := h', toks := tk }) :
    wpAny (model prog w) A (call (.builtin "min") [.str a t, .str b u]) Q E s := by
  have hT : (s.heap.push { cls := .type "tuple", data := .seq #[.str a t, .str b u] }).IsTuple s.heap.objs.size #[.str a t, .str b u] := ⟨_, Heap.get?_push_size _ rfl, rfl, 0, rfl⟩
  refine call_min_two (wpAny_pyIter_tuple hT ?_)
  have hsz : (s.heap.push { cls := .type "tuple", data := .seq #[.str a t, .str b u] }).objs.size = s.heap.objs.size + 1 := Heap.size_push ..
  refine ⟨_, [_, s.heap.objs.size], [_], _, _, _, _, rfl, Walks.tuple (A := A.in1) hh _ s.heap.objs.size (by rw [hsz]; exact Nat.ne_of_lt (Nat.lt_succ_self _)) #[.str a t, .str b u],
    ⟨⟨_, Heap.get?_push_size _ rfl, rfl, rfl⟩, hT.push _⟩, fun c hc => ?_, by simp, cmpStrs_lt (strAt a b) (fun _ _ => strItems_at), fun v h' tk hP hk => ?_⟩
  · show c < ((s.heap.push _).push _).objs.size
    rw [Heap.size_push, hsz]
    rcases List.mem_cons.mp hc with rfl | hc
    · rw [hsz]; exact Nat.lt_succ_self _
    · rcases List.mem_cons.mp hc with rfl | hc
      · exact Nat.lt_succ_of_lt (Nat.lt_succ_self _)
      · cases hc
  · have hold : ∀ c o, s.heap.get? c = some o → h'.get? c = some o := fun c o e => by
      refine hk c o (fun hm => ?_) (Heap.get?_push_of_some _ (Heap.get?_push_of_some _ e))
      rcases List.mem_cons.mp hm with e1 | hm
      · have := Heap.lt_size e; rw [e1, hsz] at this; exact Nat.lt_irrefl _ (Nat.lt_of_succ_lt this)
      · cases hm
    have := h h' tk hold
    have hv : v = if b.cps.toList < a.cps.toList then Value.str b u else Value.str a t := by
      have hP' : (#[Value.str a t, Value.str b u] : Array Value)[argBest (fun i j => decide ((strAt a b i).cps.toList < (strAt a b j).cps.toList)) 1]? = some v := hP
      by_cases hba : b.cps.toList < a.cps.toList
      · have e : argBest (fun i j => decide ((strAt a b i).cps.toList < (strAt a b j).cps.toList)) 1 = 1 := by simp [argBest, strAt, hba]
        rw [e] at hP'
        simpa [hba] using hP'.symm
      · have e : argBest (fun i j => decide ((strAt a b i).cps.toList < (strAt a b j).cps.toList)) 1 = 0 := by simp [argBest, strAt, hba]
        rw [e] at hP'
        simpa [hba] using hP'.symm
    rw [hv]; exact this
theorem max_two_strs {a b : Str} {t u : Tok} {Q : Value → Shared → Prop} (hh : A.handled = none)
    (h : ∀ h' tk, (∀ c o, s.heap.get? c = some o → h'.get? c = some o) → Q (if a.cps.toList < b.cps.toList then .str b u else .str a t) { s with heap := h', toks := tk }) :
    wpAny (model prog w) A (call (.builtin "max") [.str a t, .str b u]) Q E s := by
  have hT : (s.heap.push { cls := .type "tuple", data := .seq #[.str a t, .str b u] }).IsTuple s.heap.objs.size #[.str a t, .str b u] := ⟨_, Heap.get?_push_size _ rfl, rfl, 0, rfl⟩
  refine call_max_two (wpAny_pyIter_tuple hT ?_)
  have hsz : (s.heap.push { cls := .type "tuple", data := .seq #[.str a t, .str b u] }).objs.size = s.heap.objs.size + 1 := Heap.size_push ..
  refine ⟨_, [_, s.heap.objs.size], [_], _, _, _, _, rfl, Walks.tuple (A := A.in1) hh _ s.heap.objs.size (by rw [hsz]; exact Nat.ne_of_lt (Nat.lt_succ_self _)) #[.str a t, .str b u],
    ⟨⟨_, Heap.get?_push_size _ rfl, rfl, rfl⟩, hT.push _⟩, fun c hc => ?_, by simp, cmpStrs_gt (strAt a b) (fun _ _ => strItems_at), fun v h' tk hP hk => ?_⟩
  · show c < ((s.heap.push _).push _).objs.size
    rw [Heap.size_push, hsz]
    rcases List.mem_cons.mp hc with rfl | hc
    · rw [hsz]; exact Nat.lt_succ_self _
    · rcases List.mem_cons.mp hc with rfl | hc
      · exact Nat.lt_succ_of_lt (Nat.lt_succ_self _)
      · cases hc
  · have hold : ∀ c o, s.heap.get? c = some o → h'.get? c = some o := fun c o e => by
      refine hk c o (fun hm => ?_) (Heap.get?_push_of_some _ (Heap.get?_push_of_some _ e))
      rcases List.mem_cons.mp hm with e1 | hm
      · have := Heap.lt_size e; rw [e1, hsz] at this; exact Nat.lt_irrefl _ (Nat.lt_of_succ_lt this)
      · cases hm
    have := h h' tk hold
    have hv : v = if a.cps.toList < b.cps.toList then Value.str b u else Value.str a t := by
      have hP' : (#[Value.str a t, Value.str b u] : Array Value)[argBest (fun i j => decide ((strAt a b j).cps.toList < (strAt a b i).cps.toList)) 1]? = some v := hP
      by_cases hba : a.cps.toList < b.cps.toList
      · have e : argBest (fun i j => decide ((strAt a b j).cps.toList < (strAt a b i).cps.toList)) 1 = 1 := by simp [argBest, strAt, hba]
        rw [e] at hP'
        simpa [hba] using hP'.symm
      · have e : argBest (fun i j => decide ((strAt a b j).cps.toList < (strAt a b i).cps.toList)) 1 = 0 := by simp [argBest, strAt, hba]
        rw [e] at hP'
        simpa [hba] using hP'.symm
    rw [hv]; exact this
/-- min of a list of alike data: the item at the first best place -/
theorem min_list_at {l : Addr} {vs : Array Value} {xs : List PyData} {as : List Addr} {Q : Value → Shared → Prop} (hh : A.handled = none) (hl : s.heap.IsList l vs) (hr : ReadsAll s.heap vs.toList xs as) (ha : AlikeAll xs) (hn : 0 < xs.length) (hu : A.units + 1 + PyData.depthAll xs < cLine)
    (h : ∀ v h' tk, vs[argBest (fun i j => dataLt (xs.getD i .none) (xs.getD j .none)) (vs.size - 1)]? = some v → (∀ b o, s.heap.get? b = some o → h'.get? b = some o) → Q v { s with heap := h', toks := tk }) :
    wpAny (model prog w) A (call (.builtin "min") [.ref l]) Q E s := by
  have hz : vs.size = xs.length := readsAll_len hr
  refine call_min_walkH (iter_listW (A := A.in1) hh hl fun s₂ e W st hfp hw hk => ?_)
  refine ⟨_, _, _, _, _, _, _, s.heap, _, rfl, W, st, hfp, by omega, hw, hk, cmpIn_lt (A := A.in1) hr ha (by show A.units + 1 + _ < _; exact hu), fun v s' hP m => ?_⟩
  obtain ⟨h', tk, rfl, hk'⟩ := moved_old e rfl m
  exact h v h' tk hP hk'
end
section
variable {X : Cx}
theorem call_min2S (hc : X.calm = true) : CallR X (.builtin "min") (fun xs H Q => ∃ i j : Str, xs = [.str i, .str j] ∧ Q (.str (if j.cps.toList < i.cps.toList then j else i)) H) := by
  intro pins s σ H xs us Q I r h
  obtain ⟨i, j, rfl, q⟩ := h
  obtain ⟨u, w', rfl, ⟨t, rfl⟩, ⟨t', rfl⟩⟩ := vals2 r
  refine min_two_strs (I.ok.hd hc) fun h' tk k => ⟨_, H, I.kept k, ?_, q⟩
  by_cases hj : j.cps.toList < i.cps.toList
  · rw [if_pos hj, if_pos hj]; exact ⟨_, rfl⟩
  · rw [if_neg hj, if_neg hj]; exact ⟨_, rfl⟩
theorem call_max2S (hc : X.calm = true) : CallR X (.builtin "max") (fun xs H Q => ∃ i j : Str, xs = [.str i, .str j] ∧ Q (.str (if i.cps.toList < j.cps.toList then j else i)) H) := by
  intro pins s σ H xs us Q I r h
  obtain ⟨i, j, rfl, q⟩ := h
  obtain ⟨u, w', rfl, ⟨t, rfl⟩, ⟨t', rfl⟩⟩ := vals2 r
  refine max_two_strs (I.ok.hd hc) fun h' tk k => ⟨_, H, I.kept k, ?_, q⟩
  by_cases hj : i.cps.toList < j.cps.toList
  · rw [if_pos hj, if_pos hj]; exact ⟨_, rfl⟩
  · rw [if_neg hj, if_neg hj]; exact ⟨_, rfl⟩
theorem vals_len : ∀ {xs : List V} {us : List Value}, Vals xs us → us.length = xs.length
  | [], _, r => by cases r; rfl
  | _ :: xs, _, r => by cases r with | cons h t => rw [List.length_cons, List.length_cons, vals_len t]
theorem vals_at : ∀ {xs : List V} {us : List Value} {i : Nat} {u : Value}, Vals xs us → us[i]? = some u → ∃ x, xs[i]? = some x ∧ RelV x u
  | [], _, i, u, r, h => by cases r; simp at h
  | x :: xs, _, i, u, r, h => by
    cases r with
    | cons a t =>
      cases i with
      | zero => rw [List.getElem?_cons_zero] at h; cases h; exact ⟨x, rfl, a⟩
      | succ i => rw [List.getElem?_cons_succ] at h ⊢; exact vals_at t h
/-- min(a list of data) -/
theorem call_minL (hc : X.calm = true) (hu : X.A.units + 64 < cLine) : CallR X (.builtin "min") (fun xs H Q => ∃ a ys ds, xs = [.ref a] ∧ SqL X.K H a ys ∧ DpAll X.K H ys ds ∧ AlikeAll ds ∧ PyData.depthAll ds ≤ 60 ∧ 0 < ds.length ∧ ∃ x, ys[argBest (fun i j => dataLt (ds.getD i .none) (ds.getD j .none)) (ys.length - 1)]? = some x ∧ Q x H) := by
  intro pins s σ H xs us Q I r h
  obtain ⟨a, ys, ds, rfl, hq, hd, ha, hdp, hn, x, hx, q⟩ := h
  obtain ⟨u, rfl, rx⟩ := vals1 r
  cases rx
  obtain ⟨its, rv, pl, hz⟩ := I.list hq
  obtain ⟨as, hr⟩ := Dp.readsAll I ds ys its hd rv
  have hl := vals_len rv
  refine min_list_at (I.ok.hd hc) pl.isList (by simpa using hr) ha hn (by omega) fun v h' tk hv k => ?_
  rw [List.size_toArray, List.getElem?_toArray, hl] at hv
  obtain ⟨x', hx', rx⟩ := vals_at rv hv
  rw [hx] at hx'
  cases hx'
  exact ⟨x, H, I.kept k, rx, q⟩
end
end Y
set_option Elab.async false
set_option linter.all false
set_option maxRecDepth 100000
set_option maxHeartbeats 4000000
/-! Data at heap level; dict() of pairs; tuples in dicts; min, max; nested targets; defs that return one new object. -/
namespace Z
open PySem PySem.Spec PyProof.Rows L2 Evl Y
section
variable {X : Cx} {ρ : List Sl} {e a b c o : Expr} {es : List Expr} {Q Q' : Dt → Prop} {H0 B B0 B2 H H2 : Hp} {σ : L2.St} {i j : Nat} {d : Dt} {pos pos' p1 p2 q1 q2 : Pos} {nm fnm : Str} {rest : List Stmt} {E : DEnds} {D : Ends}
/-! ### bridges to heap level -/
theorem DE.en (h : DE X ρ e Q) (En : En X.K H0 B ρ σ H) : EN X e σ H fun v H2 => ∃ d, Rp X.K H2 v d ∧ Q d :=
  ⟨fun H1 e1 => h.go (En.more e1) fun B2 v d H2 g E2 r q => ⟨g.h, d, r.ex E2.ex, q⟩⟩
theorem DN.en (h : DN X ρ e Q) (En : En X.K H0 B ρ σ H) : EN X e σ H fun v H2 => ∃ p d, v = .ref p ∧ H p = none ∧ Od X.K H2 H2 p d ∧ Q d :=
  ⟨fun H1 e1 => h.go (En.more e1) fun B2 p d H2 g E2 hp hb o q => ⟨g.h, p, d, rfl, fresh_back e1 hp, o.ex E2.ex rfl, q⟩⟩
theorem DT.tn {Q : Bool → Prop} {bb : Bool} (h : DT X ρ e fun z => z = bb) (En : En X.K H0 B ρ σ H) : TN X e σ H bb :=
  ⟨fun H1 e1 => h.go (En.more e1) fun B2 b H2 g E2 q => ⟨g.h, q⟩⟩
/-! ### keys -/
abbrev keyDt : Key → Dt
  | .inl n => .int n
  | .inr s => .str s
theorem keyD_keyDt (k : Key) : keyD (keyDt k) = some k := by cases k <;> rfl
theorem RpL.keys {K : PySem.W.Frag} {B : Hp} : ∀ {vs : List V} {ks : List Key}, RpL K B vs (ks.map keyDt) → vs = ks.map kV
  | [], [], _ => rfl
  | _, k :: ks, h => by
    rw [List.map_cons] at h
    cases h with
    | cons r t => rw [List.map_cons, ← RpL.keys t, r.key (keyD_keyDt k)]
  | _ :: _, [], h => by cases h
def valT (kvs : List (List Key × Dt)) (k : List Key) : Option Dt := (kvs.find? fun kv => decide (kv.1 = k)).map (·.2)
theorem RpT.valS {K : PySem.W.Frag} {B : Hp} {k : List Key} : ∀ {ys : List (List Key × V)} {kvs : List (List Key × Dt)}, RpT K B ys kvs → (valV ys k).isSome = (valT kvs k).isSome
  | _, _, .nil => rfl
  | _, _, .cons (k := k') (v := v) (d := d) (vs := vs) (ds := ds) r t => by
    by_cases z : k' = k
    · unfold valV valT; rw [List.find?_cons_of_pos (by simpa using z), List.find?_cons_of_pos (by simpa using z)]; rfl
    · have e1 : valV ((k', v) :: vs) k = valV vs k := by unfold valV; rw [List.find?_cons_of_neg (by simpa using z)]
      have e2 : valT ((k', d) :: ds) k = valT ds k := by unfold valT; rw [List.find?_cons_of_neg (by simpa using z)]
      rw [e1, e2]
      exact RpT.valS t
theorem valT_isSome {kvs : List (List Key × Dt)} {k : List Key} : (valT kvs k).isSome = true ↔ ∃ kv ∈ kvs, kv.1 = k := by
  unfold valT
  rw [Option.isSome_map, List.find?_isSome]
  constructor
  · rintro ⟨kv, hk, e⟩; exact ⟨kv, hk, of_decide_eq_true e⟩
  · rintro ⟨kv, hk, e⟩; exact ⟨kv, hk, decide_eq_true e⟩
/-- (a, b) in d -/
theorem d_tin {x1} (hu : X.A.units + 1 < cLine) (h : DL X ρ es fun ds => ds.length ≤ 100000 ∧ DA X ρ b fun x => ∃ kvs ks, x = .dit kvs ∧ ds = ks.map keyDt ∧ Q (.bl (valT kvs ks).isSome)) (hm : behindInMarks .In b = false := by rfl) : DE X ρ (.Compare (.Tuple es x1 p1) [.In] [b] pos) Q :=
  ⟨fun H0 B σ H E => sem_of (pe_cmp (pc_din hu (pe_tup pa_sem) pe_sem) hm) (h.go E fun B2 vs ds H2 g E2 rs q => ⟨sz_of (by rw [rs.len]; exact q.1), fun p hp => q.2.go (E2.gr (Gr.new E2.ex hp)) fun B3 w d' H3 g3 E3 r3 ⟨kvs, ks, ed, eds, q4⟩ => by
    subst ed eds
    have ev := rs.keys
    subst ev
    cases r3 with
    | dit ha hx =>
      exact ⟨_, _, rfl, .inr ⟨_, ks, p, ha, rfl, g3.h _ _ upd_same, rfl⟩, B3, _, (g.trans (Gr.new E2.ex hp)).trans g3, .bl _, by rw [hx.valS]; exact q4⟩⟩)⟩
/-! ### dict() of a list of pairs -/
theorem mergeK_new : ∀ (kvs xs : List (Key × V)), ((xs ++ kvs).map (·.1)).Nodup → mergeK xs kvs = xs ++ kvs
  | [], xs, _ => (List.append_nil _).symm
  | p :: kvs, xs, h => by
    have hn : valV xs p.1 = none := by
      unfold valV
      rw [List.find?_eq_none.mpr]
      · rfl
      · intro q hq z
        rw [List.map_append, List.nodup_append] at h
        exact h.2.2 q.1 (List.mem_map_of_mem hq) p.1 (by simp) (of_decide_eq_true z)
    show mergeK (putK xs p.1 p.2) kvs = _
    rw [putK_new _ hn, mergeK_new kvs _ (by rw [List.append_assoc]; exact h), List.append_assoc]; rfl
theorem RpL.pairs {K : PySem.W.Frag} {B : Hp} : ∀ {vs : List V} {kvs : List (Key × Dt)}, RpL K B vs (kvs.map fun kv => .tup [keyDt kv.1, kv.2]) → ∃ (ps : List Addr) (ys : List (Key × V)), vs = ps.map V.ref ∧ Paired (fun p kv => SqT K B p [kV kv.1, kv.2]) ps ys ∧ RpK K B ys kvs
  | _, [], h => by cases h; exact ⟨[], [], rfl, .nil, .nil⟩
  | _, kv :: kvs, h => by
    rw [List.map_cons] at h
    cases h with
    | cons r t =>
      obtain ⟨ps, ys, ev, hp, hr⟩ := RpL.pairs t
      cases r with
      | tup ha hx => cases hx with
        | cons r1 t1 => cases t1 with
          | cons r2 t2 =>
            cases t2
            rename_i p v1 v2
            refine ⟨p :: ps, (kv.1, v2) :: ys, by rw [ev]; rfl, .cons ?_ hp, .cons r2 hr⟩
            rw [r1.key (keyD_keyDt _)] at ha
            exact ha
theorem RpK.keys {K : PySem.W.Frag} {B : Hp} : ∀ {ys : List (Key × V)} {kvs : List (Key × Dt)}, RpK K B ys kvs → ys.map (·.1) = kvs.map (·.1)
  | _, _, .nil => rfl
  | _, _, .cons r t => by rw [List.map_cons, List.map_cons, RpK.keys t]
theorem n_dictL (hc : X.calm = true) (hg : Gl X "dict") (hm : X.mg "dict" = none) (h : DE X ρ a fun d => ∃ kvs, d = .lst (kvs.map fun kv => .tup [keyDt kv.1, kv.2]) ∧ (kvs.map (·.1)).Nodup ∧ Q (.dic kvs)) (hst : starEach [a] X.env = (false, eval a X.env) :: starEach [] X.env := by rfl) : DN X ρ (.Call (.Name "dict" q1) [a] [] q2) Q :=
  ⟨fun H0 B σ H E => sem_of (pe_callTy (call_dictP hc) hg hm (by decide +kernel) (pa_cons pe_sem pa_nil hst) (he := hst)) (h.go E fun B2 v d H2 g E2 r q => by
    obtain ⟨kvs, hd, hnd, q⟩ := q
    subst hd
    cases r with
    | lst ha hx =>
      obtain ⟨ps, ys, ev, hp, hr⟩ := hx.pairs
      subst ev
      have hp' : Paired (fun p kv => SqT X.K H2 p [kV kv.1, kv.2]) ps ys := by
        clear ha hr hx
        induction hp with
        | nil => exact .nil
        | cons h t ih => exact .cons (ex_t E2.ex h) ih
      refine ⟨_, ps, ys, rfl, ex_l E2.ex ha, hp', fun l hl => ?_⟩
      have hb := fresh_back E2.ex hl
      rw [mergeK_new ys [] (by rw [List.nil_append, hr.keys]; exact hnd), List.nil_append]
      exact ⟨B2, l, .dic kvs, ⟨g.b, g.h.trans (Ex.new hl), Ex.mut E2.ex hb, g.o⟩, rfl, fresh_back g.h hl, hb, ⟨_, upd_same, hr⟩, q⟩)⟩
/-- list(d) -/
theorem RpK.keyL {K : PySem.W.Frag} {B : Hp} : ∀ {ys : List (Key × V)} {kvs : List (Key × Dt)}, RpK K B ys kvs → RpL K B (ys.map fun kv => kV kv.1) (kvs.map fun kv => keyDt kv.1)
  | _, _, .nil => .nil
  | _, _, .cons (k := k) r t => by
    rw [List.map_cons, List.map_cons]
    refine .cons ?_ (RpK.keyL t)
    cases k with
    | inl n => exact .int n
    | inr s => exact .str s
theorem n_listD (hc : X.calm = true) (hg : Gl X "list") (hm : X.mg "list" = none) (h : DE X ρ a fun d => ∃ kvs, d = .dic kvs ∧ Q (.lst (kvs.map fun kv => keyDt kv.1))) (hst : starEach [a] X.env = (false, eval a X.env) :: starEach [] X.env := by rfl) : DN X ρ (.Call (.Name "list" q1) [a] [] q2) Q :=
  ⟨fun H0 B σ H E => sem_of (pe_callTy (call_listD hc) hg hm (by decide +kernel) (pa_cons pe_sem pa_nil hst) (he := hst)) (h.go E fun B2 v d H2 g E2 r q => by
    obtain ⟨kvs, hd, q⟩ := q
    subst hd
    cases r with
    | dic ha hx =>
      refine ⟨_, _, rfl, rd_mono ha E2.ex, fun l hl => ?_⟩
      have hb := fresh_back E2.ex hl
      exact ⟨B2, l, .lst (kvs.map fun kv => keyDt kv.1), ⟨g.b, g.h.trans (Ex.new hl), Ex.mut E2.ex hb, g.o⟩, rfl, fresh_back g.h hl, hb, ⟨_, upd_same, hx.keyL⟩, q⟩)⟩
/-- sorted(ints) -/
theorem rpl_ints {K : PySem.W.Frag} {B : Hp} : ∀ ns : List Int, RpL K B (ns.map V.int) (ns.map Dt.int)
  | [] => .nil
  | n :: ns => .cons (.int n) (rpl_ints ns)
theorem n_sortI (hg : Gl X "sorted") (hm : X.mg "sorted" = none) (h : DE X ρ a fun d => ∃ ns : List Int, d = .lst (ns.map Dt.int) ∧ ∀ ns' : List Int, ns'.Perm ns → ns'.Pairwise (· ≤ ·) → Q (.lst (ns'.map Dt.int))) (hst : starEach [a] X.env = (false, eval a X.env) :: starEach [] X.env := by rfl) : DN X ρ (.Call (.Name "sorted" q1) [a] [] q2) Q :=
  ⟨fun H0 B σ H E => sem_of (pe_callB cr_sortedI hg hm (by decide +kernel) (pa_cons pe_sem pa_nil hst) (he := hst)) (h.go E fun B2 v d H2 g E2 r q => by
    obtain ⟨ns, hd, q⟩ := q
    subst hd
    cases r with
    | lst ha hx =>
      refine ⟨_, ns, rfl, by rw [← hx.ints]; exact ex_l E2.ex ha, fun ns' p h1 h2 hp => ?_⟩
      have hb := fresh_back E2.ex hp
      exact ⟨B2, p, .lst (ns'.map Dt.int), ⟨g.b, g.h.trans (Ex.new hp), Ex.mut E2.ex hb, g.o⟩, rfl, fresh_back g.h hp, hb, ⟨_, upd_same, rpl_ints ns'⟩, q ns' h1 h2⟩)⟩
/-! ### min, max -/
theorem toPL_len : ∀ ds : List Dt, (toPL ds).length = ds.length
  | [] => rfl
  | d :: ds => by rw [toPL_cons, List.length_cons, List.length_cons, toPL_len ds]
theorem d_min2S (hc : X.calm = true) (hg : Gl X "min") (hm : X.mg "min" = none) (h : DE X ρ a fun x => DE X ρ b fun y => ∃ s t : Str, x = .str s ∧ y = .str t ∧ Q (.str (if t.cps.toList < s.cps.toList then t else s))) (he : starEach [a, b] X.env = (false, eval a X.env) :: starEach [b] X.env := by rfl) (he2 : starEach [b] X.env = (false, eval b X.env) :: starEach [] X.env := by rfl) (hpl : (backTo q2 (starEach [b] X.env)).any (·.1) = false := by rfl) : DE X ρ (.Call (.Name "min" q1) [a, b] [] q2) Q :=
  ⟨fun H0 B σ H E => sem_of (pe_callB (call_min2S hc) hg hm (by decide +kernel) (pa_cons pe_sem (pa_cons pe_sem pa_nil he2) he) (he := he) (hpl := hpl)) (h.go E fun B2 v d H2 g E2 r q => q.go E2 fun B3 w d' H3 g3 E3 r3 ⟨s, t, ed, ed', q3⟩ => by
    subst ed ed'
    cases r; cases r3
    exact ⟨s, t, rfl, B3, _, g.trans g3, .str _, q3⟩)⟩
theorem d_max2S (hc : X.calm = true) (hg : Gl X "max") (hm : X.mg "max" = none) (h : DE X ρ a fun x => DE X ρ b fun y => ∃ s t : Str, x = .str s ∧ y = .str t ∧ Q (.str (if s.cps.toList < t.cps.toList then t else s))) (he : starEach [a, b] X.env = (false, eval a X.env) :: starEach [b] X.env := by rfl) (he2 : starEach [b] X.env = (false, eval b X.env) :: starEach [] X.env := by rfl) (hpl : (backTo q2 (starEach [b] X.env)).any (·.1) = false := by rfl) : DE X ρ (.Call (.Name "max" q1) [a, b] [] q2) Q :=
  ⟨fun H0 B σ H E => sem_of (pe_callB (call_max2S hc) hg hm (by decide +kernel) (pa_cons pe_sem (pa_cons pe_sem pa_nil he2) he) (he := he) (hpl := hpl)) (h.go E fun B2 v d H2 g E2 r q => q.go E2 fun B3 w d' H3 g3 E3 r3 ⟨s, t, ed, ed', q3⟩ => by
    subst ed ed'
    cases r; cases r3
    exact ⟨s, t, rfl, B3, _, g.trans g3, .str _, q3⟩)⟩
theorem d_minL (hc : X.calm = true) (hu : X.A.units + 64 < cLine) (hg : Gl X "min") (hm : X.mg "min" = none) (h : DE X ρ a fun d => ∃ ds, d = .lst ds ∧ isPL ds = true ∧ PySem.W.AlikeAll (toPL ds) ∧ PyData.depthAll (toPL ds) ≤ 60 ∧ 0 < ds.length ∧ ∃ x, ds[argBest (fun i j => PySem.W.dataLt ((toPL ds).getD i .none) ((toPL ds).getD j .none)) (ds.length - 1)]? = some x ∧ Q x) (hst : starEach [a] X.env = (false, eval a X.env) :: starEach [] X.env := by rfl) : DE X ρ (.Call (.Name "min" q1) [a] [] q2) Q :=
  ⟨fun H0 B σ H E => sem_of (pe_callB (call_minL hc hu) hg hm (by decide +kernel) (pa_cons pe_sem pa_nil hst) (he := hst)) (h.go E fun B2 v d H2 g E2 r q => by
    obtain ⟨ds, hd, hP, hA, hdp, hn, x, hx, q⟩ := q
    subst hd
    cases r with
    | lst ha hr =>
      obtain ⟨u, hu', ru⟩ := hr.at' hx
      have hl : (toPL ds).length = ds.length := toPL_len ds
      exact ⟨_, _, toPL ds, rfl, ex_l E2.ex ha, (hr.ex E2.ex).dp hP, hA, hdp, by rw [hl]; exact hn, u, by rw [hr.len]; exact hu', B2, x, g, ru, q⟩)⟩
/-! ### (a, b), (c, d) = .. -/
abbrev fTup22 (i j k l : Nat) : List Sl → Dt → Option (List Sl) := fun ρ d => match d with
  | .tup [.tup [x, y], .tup [z, u]] => some ((((ρ.set i (.fr x)).set j (.fr y)).set k (.fr z)).set l (.fr u))
  | _ => none
theorem g_tup22 (i j k l : Nat) {x y z u : Str} {kt k1 k2 : Nat} {px py pz pu pp1 pp2 : Pos} (hc : X.calm = true) (hN : X.N.Nodup) (hi : X.N[i]? = some x := by rfl) (hj : X.N[j]? = some y := by rfl) (hk : X.N[k]? = some z := by rfl) (hl : X.N[l]? = some u := by rfl) (hx : Loc X.env.scope x := by first | exact Or.inl rfl | exact Or.inr rfl) (hy : Loc X.env.scope y := by first | exact Or.inl rfl | exact Or.inr rfl) (hz : Loc X.env.scope z := by first | exact Or.inl rfl | exact Or.inr rfl) (hv : Loc X.env.scope u := by first | exact Or.inl rfl | exact Or.inr rfl)
    (hf : X.fn x = true ∨ X.env.scope.names.lookup x = some .local := by first | exact .inl rfl | exact .inr rfl) (hf2 : X.fn y = true ∨ X.env.scope.names.lookup y = some .local := by first | exact .inl rfl | exact .inr rfl) (hf3 : X.fn z = true ∨ X.env.scope.names.lookup z = some .local := by first | exact .inl rfl | exact .inr rfl) (hf4 : X.fn u = true ∨ X.env.scope.names.lookup u = some .local := by first | exact .inl rfl | exact .inr rfl) :
    DG X (.Tuple [.Tuple [.Name x px, .Name y py] k1 pp1, .Tuple [.Name z pz, .Name u pu] k2 pp2] kt pos) [i, j, k, l] (fTup22 i j k l) :=
  ⟨_, pg_tup hc (pgs_cons (pg_tup hc (pgs_cons (pg_name hN hi hx hf) (pgs_cons (pg_name hN hj hy hf2) pgs_nil))) (pgs_cons (pg_tup hc (pgs_cons (pg_name hN hk hz hf3) (pgs_cons (pg_name hN hl hv hf4) pgs_nil))) pgs_nil)), fun H0 B ρ σ H v d ρ' R E r hf k => by
    unfold fTup22 at hf
    split at hf
    · cases hf
      cases r with
      | tup ha hv => cases hv with
        | cons r1 t => cases t with
          | cons r2 t =>
            cases t
            cases r1 with
            | tup hb hv1 => cases hv1 with
              | cons r3 t => cases t with
                | cons r4 t =>
                  cases t
                  cases r2 with
                  | tup hb2 hv2 => cases hv2 with
                    | cons r5 t => cases t with
                      | cons r6 t =>
                        cases t
                        refine ⟨_, _, rfl, ex_t E.ex ha, rfl, _, _, rfl, ⟨_, _, rfl, ex_t E.ex hb, rfl, _, _, rfl, _, _, rfl, rfl, _, _, rfl, ⟨_, _, rfl, ex_t E.ex hb2, rfl, _, _, rfl, _, _, rfl, rfl, rfl, k _ ((((E.set r3).set r4).set r5).set r6) fun vs h => ?_⟩⟩⟩
                        rw [wipe_set (h _ (by simp)), wipe_set (h _ (by simp)), wipe_set (h _ (by simp)), wipe_set (h _ (by simp))]
    · cases hf⟩
end
/-! ### defs that return one new object -/
section
variable {P : Program} {w : World} {K : PySem.W.Frag} {mg : Str → Option Value} {base : Heap} {nm : Str} {st : Stmt} {N ps : List Str} {k lv : Nat} {S : List Dt → (Dt → Prop) → Prop}
def spD1 (K : PySem.W.Frag) (S : List Dt → (Dt → Prop) → Prop) : Sp := fun vs H Q _ => ∃ B ds, Evl.Ex B H ∧ RpL K B vs ds ∧ S ds fun d => ∀ B2 p H2, Gr B H B2 H2 → B2 p = none → H p = none → Od K B2 H2 p d → Q (.ref p) H2
structure OwnD1 (P : Program) (w : World) (K : PySem.W.Frag) (mg : Str → Option Value) (base : Heap) (nm : Str) (ps : List Str) (lv : Nat) (S : List Dt → (Dt → Prop) → Prop) : Prop where
  own : Own P w K mg base nm ps lv (spD1 K S)
  mono : ∀ ds (Q Q' : Dt → Prop), (∀ d, Q d → Q' d) → S ds Q → S ds Q'
theorem ownD1 (D : Def K mg nm st) (Sc : FnScope N ps (defScope st)) (mono : ∀ ds (Q Q' : Dt → Prop), (∀ d, Q d → Q' d) → S ds Q → S ds Q') (hlen : ∀ ds Q, S ds Q → ds.length = ps.length)
    (hb : ∀ (kV doc pm : Value) (an : Option Addr) (cdv ct : Value) (us : List Value), us.length = ps.length → bindArgs (PySem.W.fnOf nm nm (defArgs st) (defBody st) (defScope st) .none kV doc pm an cdv ct) ⟨us, []⟩ = pure (ps.zip us))
    (hbody : ∀ (X : Cx) (ds : List Dt) (Q : Dt → Prop), (∃ (f : Addr) (cdv : Value) (A : Around) (outer : List Env) (s : Shared) (H : Hp) (E : XK), X = (cxOf CX0 P w K mg base N nm (defScope st) f cdv A outer s H E).nox) → Room k X.A → S ds Q → DS X (startD N ds) (defBody st) { nx := fun _ => False, rt := fun _ => False, r1 := Q }) :
    OwnD1 P w K mg base nm ps (k + 1) S := by
  refine ⟨D.own Sc (fun vs H Q E h => ?_) hb ?_, mono⟩
  · obtain ⟨B, ds, _, r, h⟩ := h
    rw [r.len]; exact hlen _ _ h
  · rintro X H vs Q E ⟨f, cdv, A, outer, s, rfl⟩ hr h
    obtain ⟨B, ds, e, r, h⟩ := h
    refine ⟨fun H1 e1 => ?_⟩
    refine (hbody _ ds _ ⟨f, cdv, A, outer, s, H, E, rfl⟩ hr h).run H1 B B _ H1 _ (Gr.refl (e.trans e1)) (en_start (e.trans e1) r) ⟨fun _ _ _ _ q => q.elim, fun _ _ _ _ q => q.elim, fun _ _ _ _ q => q.elim, fun _ _ _ _ q => q.elim, fun d B2 p H2 q g hb hp o => q B2 p H2 (Gr.back e1 g) hb (fresh_back e1 hp) o, fun _ _ _ _ _ q => q.elim⟩
theorem n_own {X : Cx} {ρ : List Sl} {e : Expr} {es : List Expr} {q1 q2 : Pos} {Q : Dt → Prop} (O : OwnD1 X.prog X.w X.K X.mg X.base nm ps lv S) (hr : Room lv X.A) (hg : Gl X nm) (h : DL X ρ (e :: es) fun ds => S ds Q)
    (hdb : (nm == ("__debug__" : Str)) = false := by decide) (he : starEach (e :: es) X.env = (false, eval e X.env) :: starEach es X.env := by rfl) (hpl : (backTo q2 (starEach es X.env)).any (·.1) = false := by rfl) : DN X ρ (.Call (.Name nm q1) (e :: es) [] q2) Q := by
  obtain ⟨g, fd, F, hk, hb, hm⟩ := O.own.ex
  exact ⟨fun H0 B σ H E => sem_of (pe_call F hr hg hm hk hb .nil pass0 pa_sem hdb he hpl) (h.go E fun B2 vs ds H2 g2 E2 rs q => by
    rw [List.append_nil]
    exact ⟨B2, ds, E2.ex, rs, O.mono _ _ _ (fun d q B3 p H3 g3 hb hp o => ⟨B3, p, d, g2.trans g3, rfl, fresh_back g2.h hp, hb, o, q⟩) q⟩)⟩
end
end Z
set_option Elab.async false
set_option linter.all false
set_option maxRecDepth 100000
set_option maxHeartbeats 4000000
/-! What is one's own, looked at: new lists of scalars made of it. -/
namespace Z
open PySem PySem.Spec PyProof.Rows L2 Evl Y
def frz1 : Sl → Sl
  | .ow d => .fr d
  | s => s
def frzS (ρ : List Sl) : List Sl := ρ.map frz1
section
variable {X : Cx} {K : PySem.W.Frag} {ρ : List Sl} {e : Expr} {Q : Dt → Prop} {H0 B H : Hp} {σ : L2.St}
theorem En.frz (E : En K H0 B ρ σ H) : En K H0 H (frzS ρ) σ H := by
  have g : ∀ (i : Nat) (d : Dt), (frzS ρ)[i]? ≠ some (Sl.ow d) := fun i d h => by
    unfold frzS at h
    rw [List.getElem?_map] at h
    obtain ⟨s, _, h⟩ := Option.map_eq_some_iff.mp h
    cases s <;> cases h
  refine ⟨Ex.refl _, by unfold frzS; rw [List.length_map]; exact E.len, fun i d h => ?_, fun i d h => absurd h (g i d), fun i j d d' p _ h _ _ _ => absurd h (g i d)⟩
  unfold frzS at h
  rw [List.getElem?_map] at h
  obtain ⟨s, hs, h⟩ := Option.map_eq_some_iff.mp h
  cases s with
  | un => cases h
  | fr d' => cases h; obtain ⟨v, a, r⟩ := E.fr i _ hs; exact ⟨v, a, r.ex E.ex⟩
  | ow d' => cases h; obtain ⟨p, a, _, _, o⟩ := E.ow i _ hs; exact ⟨_, a, o.rp E.ex⟩
theorem n_lookL (h : DN X (frzS ρ) e fun d => ∃ ds, d = .lst ds ∧ immL ds = true ∧ Q (.lst ds)) : DN X ρ e Q :=
  ⟨fun H0 B σ H E => h.go E.frz fun B2 p d H2 g E2 hp hb o ⟨ds, ed, im, q⟩ => by
    subst ed
    obtain ⟨xs, hx, rs⟩ := o
    have s2 : Ex B H2 := E.ex.trans g.h
    refine ⟨wT B H2, p, .lst ds, (Gr.more E.ex g.h).trans (Gr.tups s2), rfl, hp, ?_, ⟨xs, hx, RpL.flat wT_t (rs.ex g.s) im⟩, q⟩
    unfold wT
    rw [hx]
    exact fresh_back E.ex hp⟩
end
end Z
set_option Elab.async false
set_option linter.all false
set_option maxRecDepth 100000
set_option maxHeartbeats 4000000
/-! x, y = a, b, both new, where a name is a cell: by way of a tuple. -/
namespace Z
open PySem PySem.Spec PyProof.Rows L2 Evl Y
section
variable {X : Cx} {ρ : List Sl} {a b : Expr} {rest : List Stmt} {E : DEnds} {x y : Str} {pos px py pt pt2 : Pos}
theorem s_parC {kt k2 : Nat} (i j : Nat) (h : DN X ρ a fun d1 => DN X ρ b fun d2 => DS X ((ρ.set i (.ow d1)).set j (.ow d2)) rest E) (hc : X.calm = true) (hN : X.N.Nodup) (hij : i ≠ j) (hi : X.N[i]? = some x := by rfl) (hj : X.N[j]? = some y := by rfl)
    (hx : Loc X.env.scope x := by first | exact Or.inl rfl | exact Or.inr rfl) (hy : Loc X.env.scope y := by first | exact Or.inl rfl | exact Or.inr rfl)
    (hf : X.fn x = true ∨ X.env.scope.names.lookup x = some .local := by first | exact .inl rfl | exact .inr rfl) (hf2 : X.fn y = true ∨ X.env.scope.names.lookup y = some .local := by first | exact .inl rfl | exact .inr rfl)
    (hs : swapsWithSole [.Tuple [.Name x px, .Name y py] kt pt] (.Tuple [a, b] k2 pt2) pos.line X.env = pure false := by rfl) (hw : swappedStores [.Tuple [.Name x px, .Name y py] kt pt] (.Tuple [a, b] k2 pt2) X.env = pure none := by rfl)
    (h1 : (assignEach [.Tuple [.Name x px, .Name y py] kt pt] X.env).map (·.2) = [assign (.Tuple [.Name x px, .Name y py] kt pt) X.env] := by rfl)
    (he : starEach [a, b] X.env = (false, eval a X.env) :: starEach [b] X.env := by rfl) (he2 : starEach [b] X.env = (false, eval b X.env) :: starEach [] X.env := by rfl) :
    DS X ρ (.Assign [.Tuple [.Name x px, .Name y py] kt pt] (.Tuple [a, b] k2 pt2) pos :: rest) E :=
  ⟨fun H0 B0 B σ H D g En L => semS_of (pss_cons (ps_asg (pe_tup (pa_cons pe_sem (pa_cons pe_sem pa_nil he2) he)) (pg_tup hc (pgs_cons (pg_name hN hi hx hf) (pgs_cons (pg_name hN hj hy hf2) pgs_nil))) hs hw h1) pss_sem) (h.go En fun B2 p1 d1 H2 g2 E2 hp1 hb1 o1 q1 => q1.go E2 fun B3 p2 d2 H3 g3 E3 hp2 hb2 o2 q2 => ⟨by show 2 ≤ sizeLine; decide, fun p hp => ⟨p, _, rfl, st_of upd_same, rfl, _, _, rfl, _, _, rfl, rfl, by
    obtain ⟨u, hu, mu⟩ := o1.mut
    obtain ⟨u2, hu2, mu2⟩ := o2.mut
    have hb1' : B3 p1 = none := g3.o p1 u hu mu hb1
    have ne : p1 ≠ p2 := fun z => by subst z; rw [hp2] at hu; cases hu
    have np1 : p1 ≠ p := fun z => by subst z; rw [g3.h _ _ hu] at hp; cases hp
    have np2 : p2 ≠ p := fun z => by subst z; rw [hu2] at hp; cases hp
    have gn := Gr.more E3.ex (Ex.new (o := .tup [.ref p1, .ref p2]) hp)
    have o1' : Od X.K B3 (upd H3 p (.tup [.ref p1, .ref p2])) p1 d1 := o1.ex g3.b (by rw [upd_ne np1, hu, g3.h _ _ hu])
    have o2' : Od X.K B3 (upd H3 p (.tup [.ref p1, .ref p2])) p2 d2 := o2.ex (Ex.refl _) (by rw [upd_ne np2])
    have E3' := E3.gr gn
    have E4 := E3'.setO (i := i) hb1' (fresh_back g.h hp1) o1' (fun k d z1 z2 => Z.En.noSlot (i := i) En hp1 k d z1 z2)
    refine q2.run H0 B0 B3 _ _ D (((g.trans g2).trans g3).trans gn) (E4.setO hb2 (fresh_back (g.trans g2).h hp2) o2' fun k d z1 z2 => ?_) L
    by_cases z : i = k
    · subst z
      by_cases hl : i < σ.length
      · rw [List.getElem?_set_self hl] at z2
        cases z2; exact absurd rfl ne
      · rw [List.getElem?_eq_none (by rw [List.length_set]; omega)] at z2; cases z2
    · rw [List.getElem?_set_ne z] at z1 z2
      exact Z.En.noSlot (i := j) E2 hp2 k d z1 z2⟩⟩)⟩
end
end Z
set_option Elab.async false
set_option linter.all false
set_option maxRecDepth 100000
set_option maxHeartbeats 4000000
/-! list + list, a tuple backwards, three names at once; by data -/
namespace Z
open PySem PySem.Spec PyProof.Rows L2 Evl Y
/-- a list of one's own, or a new one -/
structure DW1 (X : Cx) (ρ : List Sl) (e : Expr) (Q : Dt → Prop) : Prop where
  run : ∀ H0 B σ H, En X.K H0 B ρ σ H → semE X e σ H fun v H2 => ∃ B2 p d, Gr B H B2 H2 ∧ v = .ref p ∧ Od X.K B2 H2 p d ∧ Q d
section
variable {X : Cx} {ρ : List Sl} {e a b c o : Expr} {es : List Expr} {Q Q' : Dt → Prop} {H0 B B0 B2 H H2 : Hp} {σ : L2.St} {d : Dt} {pos pos' p1 p2 p3 q1 q2 px py pz pt : Pos} {nm fnm x : Str} {rest : List Stmt} {E : DEnds} {D : Ends}
theorem DW1.go (h : DW1 X ρ e Q) (E : En X.K H0 B ρ σ H) {R : VK} (k : ∀ B2 p d H2, Gr B H B2 H2 → En X.K H0 B2 ρ σ H2 → Od X.K B2 H2 p d → Q d → R (.ref p) H2) : semE X e σ H R :=
  sem_mono (h.run _ _ _ _ E) fun v H2 ⟨B2, p, d, g, ev, o, q⟩ => by subst ev; exact k B2 p d H2 g (E.gr g) o q
theorem DN.w1 (h : DN X ρ e Q) : DW1 X ρ e Q := ⟨fun H0 B σ H E => h.go E fun B2 p d H2 g _ _ _ o q => ⟨B2, p, d, g, rfl, o, q⟩⟩
theorem w1_nm (i : Nat) (hi : ρ[i]? = some (.ow d)) (q : Q d) (hN : X.N[i]? = some x := by rfl) (hv : Vis X.env.scope x := by first | exact Or.inl rfl | exact Or.inr (Or.inl rfl) | exact Or.inr (Or.inr rfl))
    (hd : (x == ("__debug__" : Str)) = false := by decide) (hcd : (x == ("__classdict__" : Str)) = false := by decide) : DW1 X ρ (.Name x pos) Q :=
  ⟨fun H0 B σ H E => by
    obtain ⟨p, hs, _, _, o⟩ := E.ow i d hi
    exact sem_of (pe_var hN hv hd hcd) ⟨.ref p, hs, B, p, d, Gr.refl E.ex, rfl, o, q⟩⟩
/-- list + list -/
theorem n_cat (h : DW1 X ρ a fun d1 => DW1 X ρ b fun d2 => ∃ xs ys, d1 = .lst xs ∧ d2 = .lst ys ∧ xs.length + ys.length ≤ 100000 ∧ Q (.lst (xs ++ ys))) : DN X ρ (.BinOp a .Add b pos) Q :=
  ⟨fun H0 B σ H E => sem_of (pe_op op_cat pe_sem pe_sem) (h.go E fun B2 p d H2 g E2 od q => q.go E2 fun B3 p' d' H3 g3 E3 od' ⟨xs, ys, ed, ed', hl, qq⟩ => by
    subst ed ed'
    obtain ⟨vs, hp, rv⟩ := od
    obtain ⟨ws, hp', rw'⟩ := od'
    refine ⟨p, p', vs, ws, rfl, rfl, g3.h _ _ hp, hp', sz_of (by rw [rv.len, rw'.len]; exact hl), fun r hr => ?_⟩
    have hb : B3 r = none := fresh_back E3.ex hr
    exact ⟨B3, r, .lst (xs ++ ys), ⟨(g.trans g3).b, (g.trans g3).h.trans (Ex.new hr), Ex.mut E3.ex hb, (g.trans g3).o⟩, rfl, fresh_back (g.trans g3).h hr, hb, ⟨vs ++ ws, upd_same, (rv.ex g3.b).app rw'⟩, qq⟩)⟩
/-- a tuple backwards -/
theorem d_revT {k : Nat} (h : DE X ρ e fun d => ∃ ds, d = .tup ds ∧ Q (.tup ds.reverse)) : DE X ρ (.Subscript e (.Slice none none (some (.UnaryOp .USub (.Constant (.int 1) k p1) p2)) p3) pos) Q :=
  ⟨fun H0 B σ H E => sem_of (pe_revT pe_sem) (h.go E fun B2 v d H2 g E2 r ⟨ds, ed, q⟩ => by
    subst ed
    cases r with
    | tup ha hx =>
      exact ⟨_, _, rfl, ex_t E2.ex ha, fun p hp => ⟨_, _, g.trans (Gr.new E2.ex hp), .tup (st_of upd_same) (hx.rev.ex (Gr.new E2.ex hp).b), q⟩⟩)⟩
/-- a, b, c = x, y, z -/
theorem s_par3 {kt k2 : Nat} {pt2 : Pos} {nx ny nz : Str} (i j l : Nat) (h : DL X ρ [a, b, c] fun ds => ∃ x y z, ds = [x, y, z] ∧ DS X (((ρ.set i (.fr x)).set j (.fr y)).set l (.fr z)) rest E) (hc : X.calm = true) (hN : X.N.Nodup) (hij : i ≠ j) (hil : i ≠ l) (hjl : j ≠ l) (hi : X.N[i]? = some nx := by rfl) (hj : X.N[j]? = some ny := by rfl) (hl : X.N[l]? = some nz := by rfl)
    (hx : X.env.scope.names.lookup nx = some .local := by rfl) (hy : X.env.scope.names.lookup ny = some .local := by rfl) (hz : X.env.scope.names.lookup nz = some .local := by rfl)
    (hw : swappedStores [.Tuple [.Name nx px, .Name ny py, .Name nz pz] kt pt] (.Tuple [a, b, c] k2 pt2) X.env = pure (some [nx, ny, nz]) := by rfl) (hs : swapsWithSole [.Tuple [.Name nx px, .Name ny py, .Name nz pz] kt pt] (.Tuple [a, b, c] k2 pt2) pos.line X.env = pure false := by rfl) :
    DS X ρ (.Assign [.Tuple [.Name nx px, .Name ny py, .Name nz pz] kt pt] (.Tuple [a, b, c] k2 pt2) pos :: rest) E :=
  ⟨fun H0 B0 B σ H D g En L => semS_of (pss_cons (ps_par3 hc hN hi hj hl hij hil hjl hx hy hz pa_sem hw hs) pss_sem) (h.go En fun B2 vs ds H2 g2 E2 rs ⟨x, y, z, ed, q⟩ => by
    subst ed
    cases rs with
    | cons r1 t => cases t with
      | cons r2 t => cases t with
        | cons r3 t =>
          cases t
          exact ⟨_, _, _, rfl, q.run H0 B0 B2 _ H2 D (g.trans g2) (((E2.set r1).set r2).set r3) L⟩)⟩
end
end Z
set_option Elab.async false
set_option linter.all false
set_option maxRecDepth 100000
set_option maxHeartbeats 8000000
/-! sorted(set(a list of hns)) -/
namespace Y
open PySem PySem.Spec PyProof.Rows L2
abbrev setO (w : World) : Obj := { cls := .type "set", dict := none, data := .set #[] 0 (.fresh 0 0 (!w.params.followText "set-order")) }
abbrev setH (w : World) (h : Heap) : Heap := h.push (setO w)
section
variable {P : Program} {w : World} {A : Around} {E : Value → Shared → Prop} {s : Shared}
set_option maxHeartbeats 8000000 in
theorem set_of_list {l : Addr} {us : Array Value} (ns : List Int) {Q : Value → Shared → Prop} (free : A.handled = none) (isl : s.heap.IsList l us) (hns : IntsAre us.toList ns) (room : ns.length + 1 < scanBound)
    (fin : ∀ (h' : Heap) (tk c : Nat), SetR w h' s.heap.objs.size (fun j => decide (j ∈ ns)) c → c ≤ ns.length → (∀ b o, s.heap.get? b = some o → h'.get? b = some o) → Q (.ref s.heap.objs.size) { s with heap := h', toks := tk }) : wpAny (model P w) A (call (.type "set") [.ref l]) Q E s := by
  have sz : us.size = ns.length := (Array.length_toList (xs := us)).symm.trans (IntsAre.length hns)
  have ⟨c, tl, hmro⟩ := F.called_set.mro; have hmade := F.called_set.made; have hsub := F.called_set.sub
  refine wpAny_call <| codeAny_of_tree <| (show wpAny (model P w) _ (callAny (.type "set") _) _ _ s from wpAny_pure ⟨Code.quiet_builtin _ (by decide +kernel), codeAny_builtin F.entry_type_call ?_⟩)
  rw [(Around.under_plain (weight_type_call_type "set" [.ref l] []) rfl)]
  have h1 := F.called_set.notType; have h2 := F.called_set.canCreate; have hct := F.typeCall_set_1 (.ref l)
  (repeat (any_goals (first | assumption | wp_step)))
  refine codeAny_mono (code_set_led1 (.ref l) (E := E) (Q₁ := fun ob z => ob = .ref s.heap.objs.size ∧ z = { s with heap := setH w s.heap }) ⟨rfl, rfl⟩) (fun r z hr => ?_)
  rcases r with e | fl
  · exact hr
  cases fl with
  | ret ob =>
    obtain ⟨rfl, rfl⟩ := hr
    have at0 : (setH w s.heap).get? s.heap.objs.size = some (setO w) := Heap.get?_push_size _ rfl
    have ty0 : Shared.TypeIs { s with heap := setH w s.heap } (.ref s.heap.objs.size) "set" := ⟨_, at0, rfl⟩
    have hli := F.called_set.init.lookup; have hbi := F.called_set.init.bind (.ref s.heap.objs.size)
    (repeat (any_goals (first | assumption | wp_step)))
    refine codeAny_mono (codeAny_call_builtin (R := wants (fun r z => r = .none ∧ ∃ g tk c, z = { s with heap := g, toks := tk } ∧ SetR w g s.heap.objs.size (fun j => decide (j ∈ ns)) c ∧ c ≤ ns.length ∧ (∀ b o, s.heap.get? b = some o → g.get? b = some o)) E) F.called_set.init.plain F.entry_set_init (check_set_init_1 ty0 ?_)) (fun r2 z2 hr2 => ?_)
    · obtain ⟨ob, hob, hcl, nl, hdl⟩ := isl
      rcases ob with ⟨ocls, odict, odata, oslots⟩
      simp only at hcl hdl; subst hcl hdl
      have at1 : (setH w s.heap).get? l = some { cls := .type "list", dict := odict, data := .seq us nl, slots := oslots } := Heap.get?_push_of_some _ hob
      have k1 := F.sub_list_set; have k2 := F.sub_list_frozenset
      have k3 : (Value.type "list" == Value.type "dict") = false := by decide
      have isl1 : (setH w s.heap).IsList l us := ⟨_, at1, rfl, nl, rfl⟩
      unfold Builtin.«set.__init__»; unfold noKeywords; unfold Builtin.Frozenset.updateFrom
      generalize gPI : pyIter = PI
      wp_walk
      subst gPI
      refine wpAny_pyIter_list isl1 (wpAny_bind (wpAny_runValue ?_))
      have old : l < s.heap.objs.size := Heap.lt_size hob
      have free3 : A.in1.in1.in1.handled = none := by simp [free]
      have size1 : (setH w s.heap).objs.size = s.heap.objs.size + 1 := Heap.size_push ..
      have neI : l ≠ (setH w s.heap).objs.size := by rw [size1]; exact Nat.ne_of_lt (Nat.lt_succ_of_lt old)
      have notin : s.heap.objs.size ∉ [(setH w s.heap).objs.size, l] := by
        rw [size1]
        intro z
        rcases List.mem_cons.mp z with z | z
        · exact absurd z (Nat.ne_of_lt (Nat.lt_succ_self _))
        · exact absurd (List.mem_singleton.mp z) (Nat.ne_of_gt old)
      have val : ∀ (i : Nat) (v : Value), us[i]? = some v → ∃ k t, ns[i]? = some k ∧ v = .int k t := fun i v hv => by
        have hi : i < ns.length := sz ▸ (Array.getElem?_eq_some_iff.mp hv).1
        have ⟨t, e⟩ := PyProof.Rows.IntsAre.int_at hns i v (by rw [Array.getElem?_toList]; exact hv)
        exact ⟨ns[i], t, List.getElem?_eq_getElem hi, by rw [e, List.getD_eq_getElem?_getD, List.getElem?_eq_getElem hi]; rfl⟩
      refine set_update_ints ((Walks.list free3 _ l neI us).toS) s.heap.objs.size notin ns sz room val (us.size - 0) 0 _ (by omega) (Nat.zero_le _) ⟨⟨_, Heap.get?_push_size _ rfl, rfl, rfl⟩, isl1.push _⟩ ⟨0, Nat.le_refl 0, setR_new_at (Heap.get?_push_of_some _ at0)⟩ (fun z c' mv hc' hS' => ?_)
      obtain ⟨g, g2, d2, tk2, os2⟩ := z
      have eg : g2 = s.gens := mv.gens
      have ed : d2 = s.drawn := mv.drawn
      have eo : os2 = s.os := mv.os
      subst eg ed eo
      refine (show wpAny _ _ _ _ _ _ from wpAny_pure ?_)
      refine (show wpAny _ _ (ret Value.none) _ _ _ from wpAny_pure ⟨rfl, g, tk2, c', rfl, hS', by omega, fun b o e => ?_⟩)
      have hb := Heap.lt_size e
      refine mv.heap b o (fun z => ?_) (Heap.get?_push_of_some _ (Heap.get?_push_of_some _ e))
      rcases List.mem_cons.mp z with z | z
      · exact absurd z (Nat.ne_of_lt hb)
      · have z2 := List.mem_singleton.mp z
        rw [size1] at z2
        exact absurd z2 (Nat.ne_of_lt (Nat.lt_succ_of_lt hb))
    · rcases r2 with e | fl2
      · exact hr2
      cases fl2 with
      | ret r =>
        obtain ⟨rfl, g, tk2, c', rfl, hS', hc', hk'⟩ := hr2
        (repeat (any_goals (first | assumption | wp_step)))
        exact fin _ _ _ hS' hc' hk'
      | _ => exact hr2.elim
  | _ => exact hr.elim
end
end Y
set_option Elab.async false
set_option linter.all false
set_option maxRecDepth 100000
set_option maxHeartbeats 4000000
/-! sorted(set(a list of ints)), by data -/
namespace Y
open PySem PySem.Spec PyProof.Rows L2
/-- a set of ints that has been made -/
def SetI (w : World) (a : Addr) (ns : List Int) (c : Nat) : HO := .ext fun h => SetR w h a (fun j => decide (j ∈ ns)) c
def rMkSet (K : PySem.W.Frag) (w : World) : List V → Hp → VK → Prop := fun xs H Q => ∃ (l : Addr) (ns : List Int), xs = [V.ref l] ∧ SqL K H l (ns.map V.int) ∧ ns.length < 64 ∧ ∀ a c, H a = none → c ≤ ns.length → Q (.ref a) (upd H a (SetI w a ns c))
theorem cr_mkSet {X : Cx} (hc : X.calm = true) : CallR X (.type "set") (rMkSet X.K X.w) := fun pins s σ H xs us Q I r h => by
  obtain ⟨l, ns, e, sq, few, k⟩ := h
  subst e
  rw [(Vals.ref1 r)]
  have ⟨its, rv, pl, big⟩ := I.list sq
  have nw : H s.heap.objs.size = none := I.hok.fresh (Nat.le_refl _)
  refine set_of_list (P := X.prog) (w := X.w) ns (I.ok.hd hc) pl.isList (ints_of_vals rv) (by unfold scanBound; omega) fun g tk c R le old => ?_
  have ob : ∃ o, g.get? s.heap.objs.size = some o := R.elim fun o z => z.elim fun _ z => z.elim fun _ z => z.elim fun _ z => ⟨o, z.1⟩
  exact ⟨.ref s.heap.objs.size, upd H s.heap.objs.size (SetI X.w s.heap.objs.size ns c), I.laid (t' := tk) old (Nat.le_refl _) ⟨R, ob, fun a b za zb => za.at zb⟩, rfl, k _ c nw le⟩
def rSortSet (w : World) : List V → Hp → VK → Prop := fun xs H Q => ∃ (a : Addr) (ns : List Int) (c : Nat), xs = [V.ref a] ∧ H a = some (SetI w a ns c) ∧ c < 64 ∧ ∀ (out : List Int) (p : Addr), out.Pairwise (· < ·) → (∀ k, k ∈ out ↔ k ∈ ns) → out.length = c → H p = none → Q (.ref p) (upd H p (.lst (out.map V.int)))
theorem vals_ints : ∀ {us : List Value} {ns : List Int}, IntsAre us ns → Vals (ns.map V.int) us := fun {us ns} h => vals_of_ints h
theorem cr_sortSet {X : Cx} (hc : X.calm = true) : CallR X (.builtin "sorted") (rSortSet X.w) := fun pins s σ H xs us Q I r h => by
  obtain ⟨a, ns, c, e, ha, few, k⟩ := h
  subst e
  rw [(Vals.ref1 r)]
  have R : SetR X.w s.heap a (fun j => decide (j ∈ ns)) c := (show ObjOk X.prog X.w H s.heap a (SetI X.w a ns c) from I.hok a _ ha).1
  refine sorted_set R (I.ok.hd hc) few fun z p out n os old eg eo ge at' hi pw mem ln => ?_
  have big : (os.map V.int).length ≤ sizeLine := by rw [List.length_map, ln, sizeLine_eq]; omega
  have nw : H p = none := I.hok.fresh ge
  have J : Inv X pins σ (upd H p (.lst (os.map V.int))) { s with heap := z.heap, gens := z.gens, drawn := z.drawn, toks := z.toks } := I.call (ch := []) (Un.laid old ge nw) (I.hok.laid old ge ⟨big, out.toList, n, vals_ints hi, at'⟩) (by rw [eg]; exact I.bare) (fun _ q => nomatch q)
  have ez : z = { s with heap := z.heap, gens := z.gens, drawn := z.drawn, toks := z.toks } := by cases z; cases s; cases eo; rfl
  rw [ez]
  exact ⟨.ref p, _, J, rfl, k os p pw (fun j => (mem j).trans decide_eq_true_iff) ln nw⟩
end Y
namespace Z
open PySem PySem.Spec PyProof.Rows L2 Evl Y
section
variable {X : Cx} {ρ : List Sl} {a : Expr} {Q : Dt → Prop} {q1 q2 q3 q4 : Pos}
theorem n_sortSet (hc : X.calm = true) (hg : Gl X "sorted") (hm : X.mg "sorted" = none) (hg2 : Gl X "set") (hm2 : X.mg "set" = none) (h : DE X ρ a fun d => ∃ ns : List Int, d = .lst (ns.map Dt.int) ∧ ns.length < 64 ∧ ∀ out : List Int, out.Pairwise (· < ·) → (∀ k, k ∈ out ↔ k ∈ ns) → out.length ≤ ns.length → Q (.lst (out.map Dt.int)))
    (hst : starEach [a] X.env = (false, eval a X.env) :: starEach [] X.env := by rfl) (hst2 : starEach [.Call (.Name "set" q3) [a] [] q4] X.env = (false, eval (.Call (.Name "set" q3) [a] [] q4) X.env) :: starEach [] X.env := by rfl) : DN X ρ (.Call (.Name "sorted" q1) [.Call (.Name "set" q3) [a] [] q4] [] q2) Q :=
  ⟨fun H0 B σ H E => sem_of (pe_callB (cr_sortSet hc) hg hm (by decide +kernel) (pa_cons (pe_callTy (cr_mkSet hc) hg2 hm2 (by decide +kernel) (pa_cons pe_sem pa_nil hst) (he := hst)) pa_nil hst2) (he := hst2)) (h.go E fun B2 v d H2 g E2 r ⟨ns, ed, few, q⟩ => by
    subst ed
    cases r with
    | lst ha hx =>
      refine ⟨_, ns, rfl, by rw [← hx.ints]; exact ex_l E2.ex ha, few, fun t c ht le => ?_⟩
      refine ⟨t, ns, c, rfl, upd_same, by omega, fun out p pw mem ln hp => ?_⟩
      have g2 : Gr B2 H2 B2 (upd H2 t (SetI X.w t ns c)) := Gr.more E2.ex (Ex.new ht)
      have hb := fresh_back g2.s hp
      have gg := g.trans g2
      exact ⟨B2, p, .lst (out.map Dt.int), ⟨gg.b, gg.h.trans (Ex.new hp), Ex.mut g2.s hb, gg.o⟩, rfl, fresh_back gg.h hp, hb, ⟨_, upd_same, rpl_ints out⟩, q out pw mem (by omega)⟩)⟩
end
end Z
set_option Elab.async false
set_option linter.all false
set_option maxRecDepth 100000
set_option maxHeartbeats 4000000
/-! d != {}, by data -/
namespace Z
open PySem PySem.Spec PyProof.Rows L2 Evl Y
section
variable {X : Cx} {ρ : List Sl} {a b : Expr} {pos : Pos}
def rNe0 : R2 := fun x y H Q => ∃ p q kvs, x = .ref p ∧ y = .ref q ∧ Rd H p (.dK kvs) ∧ Rd H q (.dK []) ∧ Q (.bl (!kvs.isEmpty)) H
theorem op_ne0 (hu : X.A.units < cLine) : OpR X (compareOp .NotEq) rNe0 := fun pins s σ H x y v u Q I rx ry h => by
  obtain ⟨p, q, kvs, ex, ey, hp, hq, k⟩ := h
  subst ex ey
  cases rx; cases ry
  have ⟨_, n1, vs, kv, d1⟩ := dk_rd I.hok hp
  have ⟨_, n2, us, ku, d2⟩ := dk_rd I.hok hq
  have eu : us = [] := List.eq_nil_of_length_eq_zero (KV.length ku).symm
  subst eu
  have ln := KV.length kv
  refine PySem.W.keq_ne (r := true) n1 n2 d1 d2 hu (fun z => ?_) ⟨.bl (!kvs.isEmpty), H, I, ?_, k⟩
  · have ev : vs = [] := List.eq_nil_of_length_eq_zero z
    subst ev; exact .nil
  · cases kvs with
    | nil =>
      have ev : vs = [] := List.eq_nil_of_length_eq_zero ln.symm
      subst ev; rfl
    | cons c r =>
      cases vs with
      | nil => cases ln
      | cons => rfl
def ne0Q (x y : Dt) (Q : Bool → Prop) : Prop := ∃ kvs, x = .dic kvs ∧ y = .dic [] ∧ Q (!kvs.isEmpty)
theorem wc_ne0 {K : PySem.W.Frag} : WC K rNe0 ne0Q := fun B H x y d1 d2 Q R s rx ry ⟨kvs, e1, e2, q⟩ k => by
  subst e1 e2
  cases rx with
  | dic h1 h2 =>
    cases ry with
    | dic g1 g2 =>
      cases g2
      refine ⟨_, _, _, rfl, rfl, rd_mono h1 s, rd_mono g1 s, ?_⟩
      have := k _ q
      cases h2 with
      | nil => exact this
      | cons _ _ => exact this
theorem t_ne0 {Q : Bool → Prop} (hu : X.A.units < cLine) (h : DA X ρ a fun d1 => DA X ρ b fun d2 => ne0Q d1 d2 Q) : DT X ρ (.Compare a [.NotEq] [b] pos) Q := t_cmp (op_ne0 hu) wc_ne0 h (nomark _)
end
end Z
set_option Elab.async false
set_option linter.all false
set_option maxRecDepth 100000
set_option maxHeartbeats 4000000
/-! results made of tuples alone; calls of an own def that is promised at heap level, by data -/
namespace Z
open PySem PySem.Spec PyProof.Rows L2 Evl Y
mutual
/-- made of tuples, known or plain, and scalars only -/
def imx : Dt → Bool
  | .non => true | .bl _ => true | .int _ => true | .str _ => true
  | .tup ds => imxL ds
  | .tx ds => imxL ds
  | .tz ds => imxL ds
  | _ => false
def imxL : List Dt → Bool
  | [] => true
  | d :: ds => imx d && imxL ds
end
theorem imx_lst {ds : List Dt} (h : imx (.lst ds) = true) : False := by simp [imx] at h
theorem imx_dic {ds} (h : imx (.dic ds) = true) : False := by simp [imx] at h
theorem imx_dit {ds} (h : imx (.dit ds) = true) : False := by simp [imx] at h
theorem imx_dk {a b f g} (h : imx (.dk a b f g) = true) : False := by simp [imx] at h
theorem imx_obj {C ds} (h : imx (.obj C ds) = true) : False := by simp [imx] at h
theorem imx_tup {ds : List Dt} (h : imx (.tup ds) = true) : imxL ds = true := by simpa [imx] using h
theorem imx_tx {ds : List Dt} (h : imx (.tx ds) = true) : imxL ds = true := by simpa [imx] using h
theorem imx_tz {ds : List Dt} (h : imx (.tz ds) = true) : imxL ds = true := by simpa [imx] using h
theorem imxL_cons {d : Dt} {ds : List Dt} (h : imxL (d :: ds) = true) : imx d = true ∧ imxL ds = true := by simpa [imxL] using h
mutual
theorem Rp.flatx {K : PySem.W.Frag} {B B' : Hp} (m : Flt K B B') (u : ∀ a xs, B a = some (.tup xs) → B' a = some (.tup xs)) : ∀ {v : V} {d : Dt}, Rp K B v d → imx d = true → Rp K B' v d
  | _, _, .non, _ => .non
  | _, _, .bl b, _ => .bl b
  | _, _, .int n, _ => .int n
  | _, _, .str s, _ => .str s
  | _, _, .tup a h, i => .tup (m.t _ _ a) (RpL.flatx m u h (imx_tup i))
  | _, _, .tz a h, i => .tz (m.z _ _ a) (RpL.flatx m u h (imx_tz i))
  | _, _, .tx a h, i => .tx (u _ _ a) (RpL.flatx m u h (imx_tx i))
  | _, _, .lst _ _, i => (imx_lst i).elim
  | _, _, .dic _ _, i => (imx_dic i).elim
  | _, _, .dit _ _, i => (imx_dit i).elim
  | _, _, .obj _ _, i => (imx_obj i).elim
  | _, _, .dk _ _ _, i => (imx_dk i).elim
theorem RpL.flatx {K : PySem.W.Frag} {B B' : Hp} (m : Flt K B B') (u : ∀ a xs, B a = some (.tup xs) → B' a = some (.tup xs)) : ∀ {v : List V} {d : List Dt}, RpL K B v d → imxL d = true → RpL K B' v d
  | _, _, .nil, _ => .nil
  | _, _, .cons a b, i => .cons (Rp.flatx m u a (imxL_cons i).1) (RpL.flatx m u b (imxL_cons i).2)
end
/-- what is made of tuples alone may be taken as frozen -/
theorem gr_imx {K : PySem.W.Frag} {B H H2 : Hp} {v : V} {d : Dt} (s : Ex B H) (e : Ex H H2) (r : Rp K H2 v d) (i : imx d = true) : ∃ B2, Gr B H B2 H2 ∧ Rp K B2 v d :=
  ⟨wT B H2, (Gr.more s e).trans (Gr.tups (s.trans e)), r.flatx wT_t (fun a xs h => by unfold wT; rw [h]) i⟩
section
variable {P : Program} {w : World} {K : PySem.W.Frag} {mg : Str → Option Value} {base : Heap} {nm : Str} {ps : List Str} {lv : Nat}
/-- an own def at heap level, whose result is made of tuples alone, by data -/
theorem OwnD.lift {sp : Sp} {S : List Dt → (Dt → Prop) → Prop} (O : Own P w K mg base nm ps lv sp) (mono : ∀ ds (Q Q' : Dt → Prop), (∀ d, Q d → Q' d) → S ds Q → S ds Q')
    (h : ∀ (B H : Hp) vs ds (Q : VK) (E : XK), Ex B H → RpL K B vs ds → (S ds fun d => ∀ v H2, Ex H H2 → Rp K H2 v d → imx d = true → Q v H2) → sp vs H Q E) : OwnD P w K mg base nm ps lv S :=
  ⟨O.imp fun vs H Q E ⟨B, ds, s, r, q⟩ => h B H vs ds Q E s r (mono ds _ _ (fun d k v H2 e rv i => by
    obtain ⟨B2, g, r2⟩ := gr_imx s e rv i
    exact k B2 v H2 g r2) q), mono⟩
end
end Z
set_option Elab.async false
set_option linter.all false
set_option maxRecDepth 100000
set_option maxHeartbeats 4000000
/-! a dict of one's own walked by a comprehension; d.get(k, x); repr; `is not`; a list unpacked; by data -/
namespace Z
open PySem PySem.Spec PyProof.Rows L2 Evl Y
section
variable {K : PySem.W.Frag} {H0 B B2 H H2 : Hp} {ρ : List Sl} {σ : L2.St} {i : Nat}
/-- a dict of one's own is locked: it may be read as frozen data -/
theorem En.lockAt {kvs : List (Key × Dt)} (E : En K H0 B ρ σ H) (hi : ρ[i]? = some (.ow (.dic kvs))) : ∃ (p : Addr) (ys : List (Key × V)), σ[i]? = some (some (.ref p)) ∧ H p = some (.dK ys) ∧ B p = none ∧ H0 p = none ∧ RpK K B ys kvs ∧
    ∀ od, En K H0 (upd B p (.frz od (.dK ys))) (ρ.set i (.fr (.dic kvs))) σ (upd H p (.frz od (.dK ys))) := by
  obtain ⟨p, a, b, c, ys, hH, rk⟩ := E.ow i _ hi
  have hl := (List.getElem?_eq_some_iff.mp hi).1
  refine ⟨p, ys, a, hH, b, c, rk, fun od => ?_⟩
  have eb : Ex B (upd B p (.frz od (.dK ys))) := Ex.new b
  refine ⟨fun x u h => ?_, by rw [List.length_set]; exact E.len, fun j e h => ?_, fun j e h => ?_, fun j k e e' q n h1 h2 h3 h4 => ?_⟩
  · by_cases z : x = p
    · subst z; rw [upd_same] at h ⊢; exact h
    · rw [upd_ne z] at h ⊢; exact E.ex _ _ h
  · by_cases z : i = j
    · subst z
      rw [List.getElem?_set_self hl] at h
      cases h
      exact ⟨_, a, .dic (.inr ⟨od, upd_same⟩) (rk.ex eb)⟩
    · rw [List.getElem?_set_ne z] at h
      obtain ⟨v, q, r⟩ := E.fr j e h
      exact ⟨v, q, r.ex eb⟩
  · by_cases z : i = j
    · subst z
      rw [List.getElem?_set_self hl] at h; cases h
    · rw [List.getElem?_set_ne z] at h
      obtain ⟨q, q1, q2, q3, q4⟩ := E.ow j e h
      have nq : q ≠ p := fun y => by subst y; exact E.sep i j _ e q z hi h a q1
      exact ⟨q, q1, by rw [upd_ne nq]; exact q2, q3, q4.ex eb (upd_ne nq)⟩
  · have g : ∀ (m : Nat) (e : Dt), (ρ.set i (Sl.fr (.dic kvs)))[m]? = some (Sl.ow e) → i ≠ m := fun m e h z => by
      subst z
      rw [List.getElem?_set_self hl] at h; cases h
    have z1 := g _ _ h1
    have z2 := g _ _ h2
    rw [List.getElem?_set_ne z1] at h1
    rw [List.getElem?_set_ne z2] at h2
    exact E.sep j k e e' q n h1 h2 h3 h4
theorem walk_dk {p : Addr} {od : Obj} {ys : List (Key × V)} {kvs : List (Key × Dt)} (rk : RpK K B ys kvs) (hB : B2 p = some (.frz od (.dK ys))) : DWalk K (Itk p od ys) B2 (kvs.map fun kv => keyDt kv.1) := by
  have hk := rk.keys
  have hl : ys.length = kvs.length := by have := congrArg List.length hk; rwa [List.length_map, List.length_map] at this
  refine ⟨_, _, by rw [List.length_map, ← hl]; exact walk_keys, fun H' e => e _ _ hB, fun n H' x H'' Bn hn e1 e2 y => ?_⟩
  obtain ⟨eh, k, v, hkv, ex⟩ := y
  subst eh ex
  refine ⟨Bn, keyDt k, Gr.refl e2, ?_, ?_⟩
  · have h1 : (ys.map (·.1))[n]? = some k := by rw [List.getElem?_map, hkv]; rfl
    rw [hk, List.getElem?_map] at h1
    obtain ⟨kv, h2, e⟩ := Option.map_eq_some_iff.mp h1
    rw [List.getElem?_map, h2]
    exact congrArg (fun z => some (keyDt z)) e
  · cases k with
    | inl m => exact .int m
    | inr s => exact .str s
end
section
variable {X : Cx} {ρ : List Sl} {e a b c o elt tst tg : Expr} {es : List Expr} {Q Q' : Dt → Prop} {σ : L2.St} {d : Dt} {pos pos' p1 p2 p3 q1 q2 px py pz pt apos cpos : Pos} {nm fnm x : Str} {scope : Scope} {own : List (Str × Nat)}
/-- [.. for k in a dict of one's own if ..] -/
theorem n_lcKt (i : Nat) {kvs : List (Key × Dt)} {js : List Nat} {f : List Sl → Dt → Option (List Sl)} (hi : ρ[i]? = some (.ow (.dic kvs))) (hc : X.calm = true) (hN : X.N.Nodup) (ok : BlkOk X.N X.env.scope scope own) (hg : DGb X scope tg js f) (hj : ∀ j ∈ js, j ∈ own.map (·.2))
    (h : LcQ X scope own (ρ.set i (.fr (.dic kvs))) f (fun ρ' acc P => DTb X scope ρ' tst fun z => (z = true → DEb X scope ρ' elt fun d => P (acc ++ [d])) ∧ (z = false → P acc)) (kvs.map fun kv => keyDt kv.1) fun d => (∃ acc, d = .lst acc ∧ imxL acc = true) ∧ Q d)
    (hx : X.N[i]? = some x := by rfl) (hv : Vis X.env.scope x := by first | exact Or.inl rfl | exact Or.inr (Or.inl rfl) | exact Or.inr (Or.inr rfl)) (hd : (x == ("__debug__" : Str)) = false := by decide) (hcd : (x == ("__classdict__" : Str)) = false := by decide)
    (fo : ∀ y, foldedSetIterable (.Name x px) X.env y = pure y := by intro _; rfl) : DN X ρ (.ListComp elt [⟨tg, .Name x px, [tst], 0⟩] scope pos) Q := by
  obtain ⟨g, pg, gg⟩ := hg
  refine ⟨fun H0 B σ H E => ?_⟩
  obtain ⟨p, ys, hp, hH, hb, h0, rk, lk⟩ := E.lockAt hi
  refine sem_of (pe_lock (pe_lc hc hN (pi_keys (pe_var hx hv hd hcd)) ok pg (fun s H' C cl fp => pts_one (pt_blk s H' C cl fp)) (fun s H' C cl fp => pe_blk s H' C cl fp) fo)) ⟨p, _, hH, trivial, fun od => ⟨.ref p, hp, p, od, rfl, .inl ⟨ys, upd_same, fun D hD => ?_⟩⟩⟩
  have E' := lk od
  have eb : Ex B (upd B p (.frz od (.dK ys))) := Ex.new hb
  refine lc_run gg hj E' (walk_dk (rk.ex eb) upd_same) hD h (fun ρ' σ' B' H' acc P R N E' bd k1 k2 => ?_) fun B3 H3 acc g3 n3 o3 q3 => ?_
  · exact fun s H'' C cl fp => (bd s H'' C cl fp).go E' fun B3 z H3 g3 E3 q3 => by
      cases z with
      | true => exact iteT (B := N H3) fun s H'' C cl fp => (q3.1 rfl s H'' C cl fp).go E3 fun B4 v d H4 g4 _ r4 q4 => k1 B4 d H4 (g3.trans g4) v r4 q4
      | false =>
        rw [if_neg Bool.false_ne_true]
        exact k2 B3 H3 g3 (q3.2 rfl)
  · have hpl : H3 p = some (.frz od (.dK ys)) := g3.h _ _ upd_same
    refine ⟨hpl, ?_⟩
    obtain ⟨⟨acc', ea, ia⟩, q4⟩ := q3
    cases ea
    obtain ⟨vs, hvs, rv⟩ := o3
    have nDp : D ≠ p := fun z => by subst z; rw [upd_same] at hD; cases hD
    have hHD : H D = none := by rw [upd_ne nDp] at hD; exact hD
    let B4 : Hp := fun y => if y = p then none else B3 y
    have b4 : ∀ y, y ≠ p → B4 y = B3 y := fun y n => if_neg n
    have b4p : B4 p = none := if_pos rfl
    have st : ∀ a xs, SqT X.K B3 a xs → SqT X.K B4 a xs := fun y xs s => by
      rcases s with s | s
      · have n : y ≠ p := fun z => by
          subst z
          have := g3.b _ _ upd_same
          rcases s with s | ⟨o, s⟩ <;> rw [this] at s <;> cases s
        refine .inl ?_
        rcases s with s | ⟨o, s⟩
        · exact .inl (by rw [b4 y n]; exact s)
        · exact .inr ⟨o, by rw [b4 y n]; exact s⟩
      · exact .inr s
    have ut : ∀ a xs, B3 a = some (.tup xs) → B4 a = some (.tup xs) := fun y xs s => by
      have n : y ≠ p := fun z => by
        subst z
        have := g3.b _ _ upd_same
        rw [this] at s; cases s
      rw [b4 y n]; exact s
    have zt : ∀ a xs, TzAt B3 a xs → TzAt B4 a xs := fun y xs ⟨o, s, hd⟩ => by
      have n : y ≠ p := fun z => by
        subst z
        have := g3.b _ _ upd_same
        rw [this] at s; cases s
      exact ⟨o, by rw [b4 y n]; exact s, hd⟩
    refine ⟨B4, D, .lst acc, ⟨fun y u hu => ?_, fun y u hu => ?_, fun y u hu => ?_, fun y u hu m q => ?_⟩, rfl, hHD, by rw [b4 D nDp]; exact n3, ⟨vs, by rw [upd_ne nDp]; exact hvs, RpL.flatx ⟨st, zt⟩ ut rv ia⟩, q4⟩
    · have n : y ≠ p := fun z => by subst z; rw [hb] at hu; cases hu
      rw [b4 y n]
      exact g3.b _ _ (by rw [upd_ne n]; exact hu)
    · by_cases n : y = p
      · subst n; rw [upd_same, ← hH]; exact hu
      · rw [upd_ne n]; exact g3.h _ _ (by rw [upd_ne n]; exact hu)
    · have n : y ≠ p := fun z => by subst z; rw [b4p] at hu; cases hu
      rw [b4 y n] at hu
      rw [upd_ne n]; exact g3.s _ _ hu
    · by_cases n : y = p
      · subst n; exact b4p
      · rw [b4 y n]
        exact g3.o y u (by rw [upd_ne n]; exact hu) m (by rw [upd_ne n]; exact q)
end
end Z
set_option Elab.async false
set_option linter.all false
set_option maxRecDepth 100000
set_option maxHeartbeats 4000000
/-! d.get(k, x), repr, `is not`, a list unpacked, sorted pairs; by data -/
namespace Z
open PySem PySem.Spec PyProof.Rows L2 Evl Y
theorem Rp.un {K : PySem.W.Frag} {B : Hp} {v : V} {ds : List Dt} (h : Rp K B v (.tx ds)) : Rp K B v (.tup ds) := by
  cases h with
  | tx a b => exact .tup (st_of a) b
section
variable {X : Cx} {ρ : List Sl} {e a b c o : Expr} {es : List Expr} {Q Q' : Dt → Prop} {σ : L2.St} {d : Dt} {pos p1 p2 p3 q1 q2 px py pz pt apos cpos : Pos}
theorem d_get2 (hu : X.A.units + 1 < cLine) (h : DA X ρ o fun x => ∃ kvs, x = .dic kvs ∧ DE X ρ a fun y => ∃ k, keyD y = some k ∧ DE X ρ b fun z => imm ((valD kvs k).getD z) = true ∧ Q ((valD kvs k).getD z)) (m : M2 X o "get" apos a b cpos := by exact ⟨rfl, rfl, rfl, rfl⟩) : DE X ρ (.Call (.Attribute o "get" apos) [a, b] [] cpos) Q :=
  DA.de ⟨fun H0 B σ H E => sem_of (pe_dget2 hu pe_sem pe_sem pe_sem m) (h.go E fun B2 v d H2 g E2 r ⟨kvs, ed, q⟩ => by
    subst ed
    cases r with
    | dic ha hx =>
      refine ⟨_, rfl, .inl ⟨_, ha⟩, q.go E2 fun B3 w d' H3 g3 E3 r3 ⟨k, hk, q3⟩ => q3.go E3 fun B4 z d4 H4 g4 E4 r4 q4 => ?_⟩
      refine ⟨_, .inl ⟨_, k, rd_mono ha (g3.h.trans g4.h), r3.key hk, rfl⟩, B4, (valD kvs k).getD d4, (g.trans g3).trans g4, ?_, q4.1, q4.2⟩
      rcases hx.val (k := k) with ⟨h1, h2⟩ | ⟨u, d5, h1, h2, ru⟩
      · rw [h1, h2]; exact r4.ex E4.ex
      · rw [h1, h2]; exact ru.ex (g3.h.trans g4.h))⟩
/-- repr of a tuple -/
theorem d_reprT (hgu : X.A.guards = some []) (hu : X.A.units + 64 < cLine) (hg : Gl X "repr") (hm : X.mg "repr" = none) (h : DE X ρ a fun d => ∃ ds, d = .tup ds ∧ isP (.tup ds) = true ∧ (toP (.tup ds)).showable = true ∧ (toP (.tup ds)).hasDict = false ∧ (toP (.tup ds)).depth ≤ 60 ∧ (toP (.tup ds)).shown.length ≤ sizeLine ∧ Q (.str (toP (.tup ds)).shown))
    (hst : starEach [a] X.env = (false, eval a X.env) :: starEach [] X.env := by rfl) : DE X ρ (.Call (.Name "repr" q1) [a] [] q2) Q :=
  ⟨fun H0 B σ H E => sem_of (pe_callB (cr_reprD hgu hu) hg hm (by decide +kernel) (pa_cons pe_sem pa_nil hst) (he := hst)) (h.go E fun B2 v d H2 g E2 r ⟨ds, ed, i, h1, h2, h3, h4, q⟩ => by
    subst ed
    have hd := (r.ex E2.ex).dp i
    cases r with
    | tup _ _ => exact ⟨_, _, rfl, hd, h1, h2, h3, h4, B2, _, g, .str _, q⟩)⟩
/-- repr of a truth value -/
theorem d_reprB (hg : Gl X "repr") (hm : X.mg "repr" = none) (h : DE X ρ a fun d => ∃ z, d = .bl z ∧ Q (.str (if z then "True" else "False"))) (hst : starEach [a] X.env = (false, eval a X.env) :: starEach [] X.env := by rfl) : DE X ρ (.Call (.Name "repr" q1) [a] [] q2) Q :=
  ⟨fun H0 B σ H E => sem_of (pe_callB call_reprB hg hm (by decide +kernel) (pa_cons pe_sem pa_nil hst) (he := hst)) (h.go E fun B2 v d H2 g E2 r ⟨z, ed, q⟩ => by
    subst ed
    cases r
    exact ⟨z, rfl, B2, _, g, .str _, q⟩)⟩
/-- a is not True -/
def isnQ (x y : Dt) (Q : Bool → Prop) : Prop := ∃ a b, x = .bl a ∧ y = .bl b ∧ Q (!decide (a = b))
theorem wc_isn {K : PySem.W.Frag} : WC K (fun x y H Q => ∃ a b, x = V.bl a ∧ y = V.bl b ∧ Q (.bl (!decide (a = b))) H) isnQ := fun B H x y d1 d2 Q R s rx ry ⟨a, b, e1, e2, q⟩ k => by
  subst e1 e2
  cases rx; cases ry
  exact ⟨a, b, rfl, rfl, k _ q⟩
theorem t_isn {Q : Bool → Prop} (h : DA X ρ a fun d1 => DA X ρ b fun d2 => isnQ d1 d2 Q) : DT X ρ (.Compare a [.IsNot] [b] pos) Q := t_cmp op_isnot_bl wc_isn h (nomark _)
/-- x, y, z = a list of three -/
def fLst3 (i j l : Nat) : List Sl → Dt → Option (List Sl) := fun ρ d => match d with
  | .lst [a, b, c] => some (((ρ.set i (.fr a)).set j (.fr b)).set l (.fr c))
  | _ => none
theorem g_lst3 (i j l : Nat) {x y z : Str} {kt : Nat} (hc : X.calm = true) (hN : X.N.Nodup) (hi : X.N[i]? = some x := by rfl) (hj : X.N[j]? = some y := by rfl) (hl : X.N[l]? = some z := by rfl) (hx : Loc X.env.scope x := by first | exact Or.inl rfl | exact Or.inr rfl) (hy : Loc X.env.scope y := by first | exact Or.inl rfl | exact Or.inr rfl) (hz : Loc X.env.scope z := by first | exact Or.inl rfl | exact Or.inr rfl)
    (hf : X.fn x = true ∨ X.env.scope.names.lookup x = some .local := by first | exact .inl rfl | exact .inr rfl) (hf2 : X.fn y = true ∨ X.env.scope.names.lookup y = some .local := by first | exact .inl rfl | exact .inr rfl) (hf3 : X.fn z = true ∨ X.env.scope.names.lookup z = some .local := by first | exact .inl rfl | exact .inr rfl) :
    DG X (.Tuple [.Name x px, .Name y py, .Name z pz] kt pos) [i, j, l] (fLst3 i j l) :=
  ⟨_, pg_lst hc (pgs_cons (pg_name hN hi hx hf) (pgs_cons (pg_name hN hj hy hf2) (pgs_cons (pg_name hN hl hz hf3) pgs_nil))), fun H0 B ρ σ H v d ρ' R E r hf k => by
    cases r with
    | lst ha hv =>
      unfold fLst3 at hf
      split at hf
      · rename_i q
        cases q
        cases hf
        cases hv with
        | cons r1 t => cases t with
          | cons r2 t => cases t with
            | cons r3 t =>
              cases t
              exact ⟨_, _, rfl, ex_l E.ex ha, rfl, _, _, rfl, _, _, rfl, _, _, rfl, rfl, k _ (((E.set r1).set r2).set r3) fun vs h => by rw [wipe_set (h l (by simp)), wipe_set (h j (by simp)), wipe_set (h i (by simp))]⟩
      · cases hf
    | _ => cases hf⟩
end
end Z
set_option Elab.async false
set_option linter.all false
set_option maxRecDepth 100000
set_option maxHeartbeats 4000000
/-! tuples displayed as known ones; sorted lists of pairs of ints; by data -/
namespace Z
open PySem PySem.Spec PyProof.Rows L2 Evl Y
abbrev pX (p : Int × Int) : Dt := .tx [.int p.1, .int p.2]
abbrev pT (p : Int × Int) : Dt := .tup [.int p.1, .int p.2]
/-- pairs in order -/
def LeP (p q : Int × Int) : Prop := p.1 < q.1 ∨ (p.1 = q.1 ∧ p.2 ≤ q.2)
theorem LeP.anti {p q : Int × Int} (h : LeP p q) (g : LeP q p) : p = q := by
  obtain ⟨a, b⟩ := p
  obtain ⟨c, d⟩ := q
  unfold LeP at h g
  dsimp only at h g
  have h1 : a = c := by omega
  have h2 : b = d := by omega
  rw [h1, h2]
/-- one order of the same pairs -/
theorem pairs_uniq {as bs : List (Int × Int)} (h : as.Perm bs) (ha : as.Pairwise LeP) (hb : bs.Pairwise LeP) : as = bs := List.Perm.eq_of_pairwise (fun a b _ _ x y => LeP.anti x y) ha hb h
open Classical in
noncomputable def keyP (H : Hp) (v : V) : Int × Int := if h : ∃ p : Int × Int, ∃ t, v = .ref t ∧ H t = some (.tup [.int p.1, .int p.2]) then Classical.choose h else (0, 0)
theorem keyP_eq {H : Hp} {t : Addr} {p : Int × Int} (h : H t = some (.tup [.int p.1, .int p.2])) : keyP H (.ref t) = p := by
  have hx : ∃ p : Int × Int, ∃ t', V.ref t = .ref t' ∧ H t' = some (.tup [.int p.1, .int p.2]) := ⟨p, t, rfl, h⟩
  unfold keyP
  rw [dif_pos hx]
  obtain ⟨t', e, h2⟩ := Classical.choose_spec hx
  cases e
  rw [h] at h2
  simp only [Option.some.injEq, HO.tup.injEq, List.cons.injEq, V.int.injEq, and_true] at h2
  exact Prod.ext h2.1.symm h2.2.symm
theorem rpl_pX {K : PySem.W.Frag} {B : Hp} : ∀ {xs : List V} {ps : List (Int × Int)}, RpL K B xs (ps.map pX) → (∀ x ∈ xs, ∃ t, x = V.ref t ∧ B t = some (.tup [.int (keyP B x).1, .int (keyP B x).2])) ∧ xs.map (keyP B) = ps
  | _, [], h => by cases h; exact ⟨fun _ z => (nomatch z), rfl⟩
  | _, p :: ps, h => by
    rw [List.map_cons] at h
    cases h with
    | cons r t =>
      obtain ⟨h1, h2⟩ := rpl_pX t
      cases r with
      | tx a b =>
        cases b with
        | cons b1 b2 =>
          cases b1
          cases b2 with
          | cons c1 c2 =>
            cases c1
            cases c2
            have hk := keyP_eq (p := p) a
            refine ⟨fun x hx => ?_, by rw [List.map_cons, h2, hk]⟩
            rcases List.mem_cons.mp hx with rfl | hx
            · exact ⟨_, rfl, by rw [hk]; exact a⟩
            · exact h1 x hx
theorem rpl_pT {K : PySem.W.Frag} {B : Hp} : ∀ {ys : List V}, (∀ x ∈ ys, ∃ t, x = V.ref t ∧ B t = some (.tup [.int (keyP B x).1, .int (keyP B x).2])) → RpL K B ys ((ys.map (keyP B)).map pT)
  | [], _ => .nil
  | y :: ys, h => by
    obtain ⟨t, e, ht⟩ := h y List.mem_cons_self
    rw [List.map_cons, List.map_cons]
    refine .cons ?_ (rpl_pT fun x hx => h x (List.mem_cons_of_mem _ hx))
    rw [e] at ht ⊢
    exact .tup (st_of ht) (.cons (.int _) (.cons (.int _) .nil))
section
variable {X : Cx} {ρ : List Sl} {e a b c o : Expr} {es : List Expr} {Q Q' : Dt → Prop} {σ : L2.St} {d : Dt} {pos p1 p2 p3 q1 q2 : Pos}
/-- a tuple of at least one item displayed: known as such -/
theorem d_tx {x1} (h : DL X ρ es fun ds => ds.length ≤ 100000 ∧ Q (.tx ds)) : DE X ρ (.Tuple es x1 pos) Q :=
  ⟨fun H0 B σ H E => sem_of (pe_tup pa_sem) (h.go E fun B2 vs ds H2 g E2 rs q => ⟨sz_of (by rw [rs.len]; exact q.1), fun p hp => ⟨_, _, g.trans (Gr.new E2.ex hp), .tx upd_same (rs.ex (Gr.new E2.ex hp).b), q.2⟩⟩)⟩
/-- sorted(pairs) -/
theorem n_sortPX (hg : Gl X "sorted") (hm : X.mg "sorted" = none) (h : DE X ρ a fun d => ∃ ps : List (Int × Int), d = .lst (ps.map pX) ∧ ∀ ps' : List (Int × Int), ps'.Perm ps → ps'.Pairwise LeP → Q (.lst (ps'.map pT))) (hst : starEach [a] X.env = (false, eval a X.env) :: starEach [] X.env := by rfl) : DN X ρ (.Call (.Name "sorted" q1) [a] [] q2) Q :=
  ⟨fun H0 B σ H E => sem_of (pe_callB cr_sortedPO hg hm (by decide +kernel) (pa_cons pe_sem pa_nil hst) (he := hst)) (h.go E fun B2 v d H2 g E2 r ⟨ps, ed, q⟩ => by
    subst ed
    cases r with
    | lst ha hx =>
      rename_i p0 xs
      obtain ⟨k1, k2⟩ := rpl_pX (hx.ex E2.ex)
      refine ⟨_, xs, keyP H2, rfl, ex_l E2.ex ha, k1, fun ys p sd sb hp => ?_⟩
      have hb := fresh_back E2.ex hp
      have hys : ∀ y ∈ ys, ∃ t, y = V.ref t ∧ H2 t = some (.tup [.int (keyP H2 y).1, .int (keyP H2 y).2]) := fun y hy => k1 y (sb.perm.mem_iff.mp hy)
      have hpm : (ys.map (keyP H2)).Perm ps := by rw [← k2]; exact sb.perm.map _
      have hpw : (ys.map (keyP H2)).Pairwise LeP := List.pairwise_map.mpr (sd.imp fun {x y} hxy => ?_)
      · have g2 := Gr.tups E2.ex
        have hW : RpL X.K (wT B2 H2) ys ((ys.map (keyP H2)).map pT) := (rpl_pT hys).flat wT_t (by
          generalize ys.map (keyP H2) = zs
          induction zs with
          | nil => rfl
          | cons z zs ih => rw [List.map_cons]; show (imm (pT z) && immL (zs.map pT)) = true; rw [ih]; rfl)
        have gg := g.trans g2
        have hbw : wT B2 H2 p = none := fresh_back g2.s hp
        exact ⟨wT B2 H2, p, .lst ((ys.map (keyP H2)).map pT), ⟨gg.b, gg.h.trans (Ex.new hp), Ex.mut g2.s hbw, gg.o⟩, rfl, fresh_back gg.h hp, hbw, ⟨_, upd_same, hW⟩, q _ hpm hpw⟩
      · have := SrtO.lexB_no.mp (show SrtO.lexB (keyP H2 y) (keyP H2 x) = false from hxy)
        unfold LeP
        omega)⟩
end
end Z
set_option Elab.async false
set_option linter.all false
set_option maxRecDepth 100000
set_option maxHeartbeats 4000000
/-! known tuples: their items, forgotten; tuple() of a list; membership of pairs in tuples; by data -/
namespace Z
open PySem PySem.Spec PyProof.Rows L2 Evl Y
mutual
/-- known tuples forgotten -/
def unx : Dt → Dt
  | .tup ds => .tup (unxL ds)
  | .tx ds => .tup (unxL ds)
  | .tz ds => .tup (unxL ds)
  | .non => .non | .bl b => .bl b | .int n => .int n | .str s => .str s
  | .lst ds => .lst ds | .dic k => .dic k | .dit k => .dit k | .obj C f => .obj C f | .dk a b f g => .dk a b f g
def unxL : List Dt → List Dt
  | [] => []
  | d :: ds => unx d :: unxL ds
end
mutual
theorem Rp.unx {K : PySem.W.Frag} {B : Hp} : ∀ {v : V} {d : Dt}, Rp K B v d → Rp K B v (Z.unx d)
  | _, _, .non => by simp only [Z.unx]; exact .non
  | _, _, .bl b => by simp only [Z.unx]; exact .bl b
  | _, _, .int n => by simp only [Z.unx]; exact .int n
  | _, _, .str s => by simp only [Z.unx]; exact .str s
  | _, _, .tup a h => by simp only [Z.unx]; exact .tup a (RpL.unx h)
  | _, _, .tx a h => by simp only [Z.unx]; exact .tup (st_of a) (RpL.unx h)
  | _, _, .tz a h => by simp only [Z.unx]; exact .tup a.st (RpL.unx h)
  | _, _, .lst a h => by simp only [Z.unx]; exact .lst a h
  | _, _, .dic a h => by simp only [Z.unx]; exact .dic a h
  | _, _, .dit a h => by simp only [Z.unx]; exact .dit a h
  | _, _, .obj a h => by simp only [Z.unx]; exact .obj a h
  | _, _, .dk a b n => by simp only [Z.unx]; exact .dk a b n
theorem RpL.unx {K : PySem.W.Frag} {B : Hp} : ∀ {vs : List V} {ds : List Dt}, RpL K B vs ds → RpL K B vs (unxL ds)
  | _, _, .nil => by simp only [unxL]; exact .nil
  | _, _, .cons a b => by simp only [unxL]; exact .cons (Rp.unx a) (RpL.unx b)
end
section
variable {X : Cx} {ρ : List Sl} {e a b c o : Expr} {es : List Expr} {Q Q' : Dt → Prop} {σ : L2.St} {d : Dt} {pos p1 p2 p3 q1 q2 : Pos}
theorem d_unx (h : DE X ρ e fun d => Q (unx d)) : DE X ρ e Q := ⟨fun H0 B σ H E => h.go E fun B2 v d H2 g E2 r q => ⟨B2, unx d, g, r.unx, q⟩⟩
/-- an item of a known tuple -/
theorem d_ixX (h : DE X ρ a fun x => ∃ ds, x = .tx ds ∧ DE X ρ b fun y => ∃ n d, y = .int n ∧ atI ds n = some d ∧ Q d) (hs : PlainIx b := by exact fun _ _ => rfl) : DE X ρ (.Subscript a b pos) Q :=
  ⟨fun H0 B σ H E => sem_of (pe_ix ix_tup pe_sem pe_sem hs) (h.go E fun B2 v d H2 g E2 r ⟨ds, ed, q⟩ => by
    subst ed
    cases r with
    | tx ha hx =>
      exact q.go E2 fun B3 w d' H3 g3 E3 r3 ⟨n, d2, e2, hz, q4⟩ => by
        subst e2
        cases r3
        obtain ⟨u, hu, ru⟩ := (hx.ex g3.b).ix hz
        exact ⟨_, _, n, u, rfl, rfl, st_of (E3.ex _ _ (g3.b _ _ ha)), hu, B3, d2, g.trans g3, ru, q4⟩)⟩
/-- tuple(a list): a new tuple, known as such -/
theorem d_tupleX (hg : Gl X "tuple") (hm : X.mg "tuple" = none) (h : DA X ρ a fun d => ∃ ds, d = .lst ds ∧ imxL ds = true ∧ Q (.tx ds)) (hst : starEach [a] X.env = (false, eval a X.env) :: starEach [] X.env := by rfl) : DE X ρ (.Call (.Name "tuple" q1) [a] [] q2) Q :=
  ⟨fun H0 B σ H E => sem_of (pe_callTy call_tuple_of hg hm (by decide +kernel) (pa_cons pe_sem pa_nil hst) (he := hst)) (h.go E fun B2 v d H2 g E2 r ⟨ds, ed, i, q⟩ => by
    subst ed
    cases r with
    | lst ha hx =>
      refine ⟨_, _, rfl, .inl ⟨ha, fun p hp => ?_⟩⟩
      have hw : RpL X.K (wT B2 H2) _ ds := hx.flatx wT_t (fun a xs h => by unfold wT; rw [h]) i
      have g2 := Gr.tups E2.ex
      exact ⟨_, _, (g.trans g2).trans (Gr.new g2.s hp), .tx upd_same (hw.ex (Gr.new g2.s hp).b), q⟩)⟩
/-- (a, b) in a tuple of tuples -/
abbrev inTQ (f : Bool → Bool) (y x : Dt) (Q : Bool → Prop) : Prop := ∃ ds, x = .tup ds ∧ (isP y = true ∧ isPL ds = true ∧ SeqAt.shaped (toP y) = true ∧ SeqAt.shaped (.tuple (toPL ds)) = true) ∧ Q (f ((toPL ds).any fun z => PyData.eqv z (toP y)))
def rInT (K : PySem.W.Frag) : R2 := fun x y H Q => ∃ d ds, Dp K H x d ∧ Dp K H y (.tuple ds) ∧ SeqAt.shaped d = true ∧ SeqAt.shaped (.tuple ds) = true ∧ Q (.bl (ds.any fun z => PyData.eqv z d)) H
theorem op_inT (hu : X.A.units + 65 < cLine) : OpR X (compareOp .In) (rInT X.K) := fun pins s σ H x y v u Q I rx ry ⟨d, ds, hd, he, sd, se, q⟩ => by
  have ⟨as, h1⟩ := Dp.reads I d x v hd rx
  have ⟨bs, h2⟩ := Dp.reads I (.tuple ds) y u he ry
  exact SeqAt.in_tuple_reads h2 h1 (SeqAt.canLay_of_shaped se) (SeqAt.canLay_of_shaped sd) (room_in_shaped sd hu) (by exact ⟨.bl _, H, I, rfl, q⟩)
theorem wc_inT {K : PySem.W.Frag} : WC K (rInT K) (inTQ id) := fun B H x y d1 d2 Q R s rx ry ⟨ds, ed, w, q⟩ k => by
  subst ed
  have rx := rx.ex s
  have ry := ry.ex s
  cases ry with
  | tup ha hx => exact ⟨_, _, rx.dp w.1, .tup ha (hx.dp w.2.1), w.2.2.1, w.2.2.2, k _ q⟩
theorem t_inT {Q : Bool → Prop} (hu : X.A.units + 65 < cLine) (h : DA X ρ a fun d1 => DA X ρ b fun d2 => inTQ id d1 d2 Q) (hm : behindInMarks .In b = false := by rfl) : DT X ρ (.Compare a [.In] [b] pos) Q := t_cmp (op_inT hu) wc_inT h hm
theorem d_inT (hu : X.A.units + 65 < cLine) (h : DA X ρ a fun d1 => DA X ρ b fun d2 => inTQ id d1 d2 fun z => Q (.bl z)) (hm : behindInMarks .In b = false := by rfl) : DE X ρ (.Compare a [.In] [b] pos) Q := d_cmp (op_inT hu) wc_inT h hm
end
end Z
set_option Elab.async false
set_option linter.all false
set_option maxRecDepth 100000
set_option maxHeartbeats 4000000
/-! texts compared, walked, joined, sorted; or as a value; powers; tuple * int; items of lists set; chains; zip of lists -/
namespace Z
open PySem PySem.Spec PyProof.Rows L2 Y
open Evl (Ex st_of sq_of ex_l ex_t fresh_back sz_of sz_lt)
/-- a text ahead of another one -/
def ltB (i j : Str) : Bool := decide (i.cps.toList < j.cps.toList)
abbrev ordSQ (f : Str → Str → Bool) (x y : Dt) (Q : Bool → Prop) : Prop := match x, y with
  | .str n, .str m => Q (f n m)
  | _, _ => False
theorem wc_ordS {K : PySem.W.Frag} {f : Str → Str → Bool} : WC K (fun x y H Q => ∃ i j, x = V.str i ∧ y = V.str j ∧ Q (.bl (f i j)) H) (ordSQ f) := fun B H x y d1 d2 Q R s rx ry w k => by
  cases rx with
  | str n => cases ry with
    | str m => exact ⟨n, m, rfl, rfl, k _ w⟩
    | _ => exact w.elim
  | _ => cases ry <;> exact w.elim
section
variable {X : Cx} {ρ : List Sl} {e a b c o tg value : Expr} {es : List Expr} {Q : Dt → Prop} {H0 B B0 B2 H H2 : Hp} {σ : L2.St} {i j : Nat} {d : Dt} {pos pos' p2 q1 q2 apos cpos spos px py pt : Pos} {nm x : Str} {rest : List Stmt} {E : DEnds}
theorem d_ltS (h : DA X ρ a fun d1 => DA X ρ b fun d2 => ordSQ ltB d1 d2 fun z => Q (.bl z)) : DE X ρ (.Compare a [.Lt] [b] pos) Q := d_cmp op_lt_str wc_ordS h (nomark _)
theorem d_leS (h : DA X ρ a fun d1 => DA X ρ b fun d2 => ordSQ (fun i j => !ltB j i) d1 d2 fun z => Q (.bl z)) : DE X ρ (.Compare a [.LtE] [b] pos) Q := d_cmp op_le_str wc_ordS h (nomark _)
theorem t_ltS {Q : Bool → Prop} (h : DA X ρ a fun d1 => DA X ρ b fun d2 => ordSQ ltB d1 d2 Q) : DT X ρ (.Compare a [.Lt] [b] pos) Q := t_cmp op_lt_str wc_ordS h (nomark _)
theorem t_leS {Q : Bool → Prop} (h : DA X ρ a fun d1 => DA X ρ b fun d2 => ordSQ (fun i j => !ltB j i) d1 d2 Q) : DT X ρ (.Compare a [.LtE] [b] pos) Q := t_cmp op_le_str wc_ordS h (nomark _)
theorem t_geS {Q : Bool → Prop} (h : DA X ρ a fun d1 => DA X ρ b fun d2 => ordSQ (fun i j => !ltB i j) d1 d2 Q) : DT X ρ (.Compare a [.GtE] [b] pos) Q := t_cmp op_ge_str wc_ordS h (nomark _)
theorem t_gtS {Q : Bool → Prop} (h : DA X ρ a fun d1 => DA X ρ b fun d2 => ordSQ (fun i j => ltB j i) d1 d2 Q) : DT X ρ (.Compare a [.Gt] [b] pos) Q := t_cmp op_gt_str wc_ordS h (nomark _)
/-- a or b, a an int -/
theorem d_orI (h : DE X ρ a fun d => ∃ n, d = .int n ∧ (n ≠ 0 → Q (.int n)) ∧ (n = 0 → DE X ρ b Q)) : DE X ρ (.BoolOp .Or [a, b] pos) Q :=
  ⟨fun H0 B σ H E => sem_of (pe_orT pe_sem (pe_one pe_sem)) (h.go E fun B2 v d H2 g E2 r ⟨n, ed, q1, q2⟩ => by
    subst ed
    cases r
    refine ⟨n != 0, rfl, ?_⟩
    by_cases z : n = 0
    · subst z
      rw [if_neg (by decide)]
      exact (q2 rfl).go E2 fun B3 w d' H3 g3 _ r3 q3 => ⟨B3, d', g.trans g3, r3, q3⟩
    · rw [if_pos (by simpa using z)]
      exact ⟨B2, _, g, .int n, q1 z⟩)⟩
/-- n ** m -/
theorem d_pow (h : DE X ρ a fun d1 => DE X ρ b fun d2 => intQ (fun n m => n ^ m.toNat) CPow d1 d2 Q) : DE X ρ (.BinOp a .Pow b pos) Q := d_op op_pow wr_int h
/-- a walk over a text -/
def sgnD (s : Str) : List Dt := s.cps.toList.map fun c => .str ⟨#[c]⟩
theorem sgnD_len {s : Str} : (sgnD s).length = s.length := by unfold sgnD; rw [List.length_map]; rfl
theorem i_str {Q : List Dt → Prop} (h : DE X ρ e fun d => ∃ s, d = .str s ∧ Q (sgnD s)) (fo : ∀ x, foldedSetIterable e X.env x = pure x := by intro _; rfl) : DI X ρ tg e Q :=
  ⟨⟨_, pi_str pe_sem, fun H0 B σ H R E k => h.go E fun B2 v d H2 g E2 r ⟨s, ed, q⟩ => by
    subst ed
    cases r
    refine ⟨s, rfl, k B2 H2 _ _ g E2 ⟨_, _, by rw [sgnD_len]; exact walk_str, fun _ _ => True.intro, fun i H' x H'' Bn hi e1 e2 y => ?_⟩ q⟩
    obtain ⟨rfl, c, hc, rfl⟩ := y
    refine ⟨Bn, .str ⟨#[c]⟩, Gr.refl e2, ?_, .str _⟩
    unfold sgnD
    rw [List.getElem?_map, Array.getElem?_toList, hc]; rfl⟩, fo⟩
/-- one sign in a text -/
theorem wc_inSg {K : PySem.W.Frag} : WC K (fun x y H Q => ∃ (c : Nat) (z : Str), x = V.str ⟨#[c]⟩ ∧ y = V.str z ∧ Q (.bl (decide (c ∈ z.cps.toList))) H) fun x y Q => ∃ (c : Nat) (z : Str), x = .str ⟨#[c]⟩ ∧ y = .str z ∧ Q (decide (c ∈ z.cps.toList)) := fun B H x y d1 d2 Q R s rx ry ⟨c, z, e1, e2, q⟩ k => by
  subst e1 e2
  cases rx; cases ry
  exact ⟨c, z, rfl, rfl, k _ q⟩
theorem d_inSg (h : DA X ρ a fun d1 => DA X ρ b fun d2 => ∃ (c : Nat) (z : Str), d1 = .str ⟨#[c]⟩ ∧ d2 = .str z ∧ Q (.bl (decide (c ∈ z.cps.toList)))) (hm : behindInMarks .In b = false := by rfl) : DE X ρ (.Compare a [.In] [b] pos) Q := d_cmp op_in_sign wc_inSg h hm
/-- a <= b <= c, a < b < c .. of ints, as a test -/
theorem t_chain {op op' : CmpOp} {r r' : R2} {f f' : Int → Int → Bool} {Q : Bool → Prop} (ho : OpR X (compareOp op) r) (ho' : OpR X (compareOp op') r') (hr : ∀ n m H Q, Q (.bl (f n m)) H → r (.int n) (.int m) H Q) (hr' : ∀ n m H Q, Q (.bl (f' n m)) H → r' (.int n) (.int m) H Q)
    (h : DE X ρ a fun d1 => DE X ρ b fun d2 => ∃ n m, d1 = .int n ∧ d2 = .int m ∧ (f n m = true → DE X ρ c fun d3 => ∃ u, d3 = .int u ∧ Q (f' m u)) ∧ (f n m = false → Q false)) (hm : lastMarks [op, op'] [b, c] = false) : DT X ρ (.Compare a [op, op'] [b, c] pos) Q :=
  ⟨fun H0 B σ H E => semT_of (pt_chain ho ho' pe_sem pe_sem pe_sem hm) (h.go E fun B1 v1 d1 H1 g1 E1 r1 q => q.go E1 fun B2 v2 d2 H2 g2 E2 r2 ⟨n, m, e1, e2, q1, q2⟩ => by
    subst e1 e2
    cases r1; cases r2
    refine hr n m H2 _ ⟨_, rfl, ?_⟩
    cases z : f n m with
    | true =>
      rw [if_pos rfl]
      exact (q1 z).go E2 fun B3 v3 d3 H3 g3 E3 r3 ⟨u, e3, q3⟩ => by
        subst e3
        cases r3
        exact hr' m u H3 _ ⟨_, rfl, B3, (g1.trans g2).trans g3, q3⟩
    | false =>
      rw [if_neg Bool.false_ne_true]
      exact ⟨_, rfl, B2, g1.trans g2, q2 z⟩)⟩
end
end Z
set_option Elab.async false
set_option linter.all false
set_option maxRecDepth 100000
set_option maxHeartbeats 8000000
/-! tuple * int for any number -/
namespace Y
open PySem PySem.Spec PyProof.Rows L2
section
variable {l : Addr} {its : Array Value} {n : Nat} {dd : Option Addr} {sl : Array (Option Value)} {x : Int} {u : Tok}
theorem mul_few (hx : x ≤ 0) (hx2 : -1000 ≤ x) (hne : its.isEmpty = false) : Meets (Builtin.«tuple.__mul__» ⟨[.ref l, .int x u], []⟩) (fun _ R s => s.heap.get? l = some { cls := .type "tuple", dict := dd, data := .seq its n, slots := sl } ∧
    R (.ok (.ret (Value.ref s.heap.objs.size))) { s with heap := s.heap.push { cls := Value.type "tuple", data := Data.seq #[] }, toks := s.toks }) := .of_wp fun prog w A R s h => by
  obtain ⟨hp, g, d, tk, os⟩ := s
  obtain ⟨hl, h⟩ := h
  have f1 := AutoSeq1.idx_int
  have z0 : (decide (x < -(2 ^ 63)) || decide (x ≥ 2 ^ 63)) = false := by rw [decide_eq_false (by omega), decide_eq_false (by omega)]; rfl
  have z1 : (its.isEmpty || x == 1) = false := by rw [hne, Bool.false_or]; exact beq_eq_false_iff_ne.mpr (by omega)
  have z2 : (decide (x ≤ 0) || its.isEmpty) = true := by rw [decide_eq_true hx]; rfl
  wp_walk using wpAny_loadPart' hl
  repeat (first
    | (refine wpAny_ite_false (decide_eq_false (by rw [z0]; decide)) ?_; wp_walk using wpAny_loadPart' hl)
    | (refine wpAny_ite_false (decide_eq_false (by rw [z1]; decide)) ?_; wp_walk using wpAny_loadPart' hl)
    | (refine wpAny_ite_true (decide_eq_true z2) ?_; wp_walk using wpAny_loadPart' hl))
  all_goals first | exact ⟨_, rfl, h⟩ | skip
theorem mul_one : Meets (Builtin.«tuple.__mul__» ⟨[.ref l, .int 1 u], []⟩) (fun _ R s => s.heap.get? l = some { cls := .type "tuple", dict := dd, data := .seq its n, slots := sl } ∧ R (.ok (.ret (Value.ref l))) s) := .of_wp fun prog w A R s h => by
  obtain ⟨hp, g, d, tk, os⟩ := s
  obtain ⟨hl, h⟩ := h
  have f1 := AutoSeq1.idx_int
  have z0 : (decide ((1 : Int) < -(2 ^ 63)) || decide ((1 : Int) ≥ 2 ^ 63)) = false := by decide
  have z1 : (its.isEmpty || (1 : Int) == 1) = true := by rw [Bool.or_comm]; rfl
  wp_walk using wpAny_loadPart' hl
  repeat (first
    | (refine wpAny_ite_false (decide_eq_false (by rw [z0]; decide)) ?_; wp_walk using wpAny_loadPart' hl)
    | (refine wpAny_ite_true (decide_eq_true z1) ?_; wp_walk using wpAny_loadPart' hl))
  all_goals first | exact ⟨_, rfl, h⟩ | skip
end
/-- tuple * int, few times, once, often -/
def rMulT (K : PySem.W.Frag) : R2 := fun x y H Q => ∃ l k xs, x = .ref l ∧ y = .int k ∧ SqT K H l xs ∧ xs ≠ [] ∧ (-1000 ≤ k ∧ k ≤ 1000) ∧ xs.length ≤ 1000 ∧ (k = 1 → Q (.ref l) H) ∧ (k ≠ 1 → ∀ p, H p = none → Q (.ref p) (upd H p (.tup (List.replicate k.toNat xs).flatten)))
theorem op_mulT {X : Cx} : OpR X (binaryOp .Mult) (rMulT X.K) := fun pins s σ H x y v u Q I rx ry h => by
  obtain ⟨l, k, xs, ex, ey, sq, ne, ⟨k1, k2⟩, few, q1, q2⟩ := h
  by_cases big : 2 ≤ k
  · exact op_repT pins s σ H x y v u Q I rx ry ⟨l, k, xs, ex, ey, sq, ne, big, k2, few, q2 (by omega)⟩
  subst ex ey
  cases rx
  obtain ⟨t, rfl⟩ := ry
  obtain ⟨its, r, ⟨⟨cls, dd, data, sl⟩, ho, hc, n, hd⟩, hs⟩ := I.tuple sq
  simp only at hc hd
  subst hc hd
  have full : its.toArray.isEmpty = false := by
    cases its with
    | nil => cases r; exact absurd rfl ne
    | cons a b => rfl
  by_cases one : k = 1
  · subst one
    exact wpAny_binaryOp_repeat_ref (T := "tuple") (U := "int") (by decide) ⟨_, ho, rfl⟩ (fun s' => typeIs_int s' 1 t) noFill_tuple_mul F.fills_int_mul F.slot_int_rmul repeat_tuple F.slot_int_index.lookup
      (call_meets F.slot_int_rmul (typeIs_int s 1 t) F.entry_int_rmul (F.args_int_rmul_2 _ _) (int_rmul_tuple 1 t l its.toArray n dd sl)
        ⟨ho, rfl, ⟨_, ho, rfl⟩, call_meets F.slot_tuple_mul ⟨_, ho, rfl⟩ F.entry_tuple_mul (F.args_tuple_mul_2 _ _) mul_one ⟨ho, .ref l, H, I, rfl, q1 rfl⟩⟩)
  · refine wpAny_binaryOp_repeat_ref (T := "tuple") (U := "int") (by decide) ⟨_, ho, rfl⟩ (fun s' => typeIs_int s' k t) noFill_tuple_mul F.fills_int_mul F.slot_int_rmul repeat_tuple F.slot_int_index.lookup
      (call_meets F.slot_int_rmul (typeIs_int s k t) F.entry_int_rmul (F.args_int_rmul_2 _ _) (int_rmul_tuple k t l its.toArray n dd sl)
        ⟨ho, rfl, ⟨_, ho, rfl⟩, call_meets F.slot_tuple_mul ⟨_, ho, rfl⟩ F.entry_tuple_mul (F.args_tuple_mul_2 _ _) (mul_few (by omega) k1 full) ⟨ho, ?_⟩⟩)
    have e0 : k.toNat = 0 := by omega
    have q3 := q2 one s.heap.objs.size (I.hok.fresh (Nat.le_refl _))
    rw [e0] at q3
    exact ⟨.ref s.heap.objs.size, _, I.laid (t' := s.toks) (o := .tup []) (fun b ob q => Heap.get?_push_of_some _ q) (Nat.le_refl _) ⟨Nat.zero_le _, [], .nil, IsTup.new _ _⟩, rfl, q3⟩
end Y
namespace Z
open PySem PySem.Spec PyProof.Rows L2 Y
open Evl (Ex st_of sq_of ex_l ex_t fresh_back sz_of sz_lt)
theorem RpL.rep {K : PySem.W.Frag} {B : Hp} {vs : List V} {ds : List Dt} (r : RpL K B vs ds) : ∀ m : Nat, RpL K B (List.replicate m vs).flatten (List.replicate m ds).flatten
  | 0 => .nil
  | m + 1 => by
    rw [List.replicate_succ, List.replicate_succ, List.flatten_cons, List.flatten_cons]
    exact r.app (RpL.rep r m)
def mulTQ (x y : Dt) (Q : Dt → Prop) : Prop := ∃ ds k, x = .tup ds ∧ y = .int k ∧ ds ≠ [] ∧ (-1000 ≤ k ∧ k ≤ 1000) ∧ ds.length ≤ 1000 ∧ Q (.tup (List.replicate k.toNat ds).flatten)
theorem wr_mulT {K : PySem.W.Frag} : WR K (rMulT K) mulTQ := fun B H x y d1 d2 Q R s rx ry ⟨ds, k, e1, e2, ne, hk, few, q⟩ kk => by
  subst e1 e2
  cases ry
  cases rx with
  | tup ha hx =>
    refine ⟨_, k, _, rfl, rfl, ex_t s ha, fun z => ne (by subst z; cases hx; rfl), hk, by rw [hx.len]; exact few, fun z => ?_, fun z p hp => ?_⟩
    · subst z
      refine kk B _ _ H (Gr.refl s) (.tup ha hx) ?_
      have e : (List.replicate (1 : Int).toNat ds).flatten = ds := by show (List.replicate 1 ds).flatten = ds; simp
      rw [e] at q
      exact q
    · exact kk _ _ _ _ (Gr.new s hp) (.tup (st_of upd_same) ((hx.rep _).ex (Gr.new s hp).b)) q
section
variable {X : Cx} {ρ : List Sl} {e a b c o tg value : Expr} {es : List Expr} {Q : Dt → Prop} {H0 B B0 B2 H H2 : Hp} {σ : L2.St} {i j : Nat} {d : Dt} {pos pos' p2 q1 q2 apos cpos spos px py pt : Pos} {nm x : Str} {rest : List Stmt} {E : DEnds}
theorem d_mulT (h : DE X ρ a fun d1 => DE X ρ b fun d2 => mulTQ d1 d2 Q) : DE X ρ (.BinOp a .Mult b pos) Q := d_op op_mulT wr_mulT h
/-- x[n] = e of a list of one's own -/
theorem s_lput (i : Nat) {ds : List Dt} (hi : ρ[i]? = some (.ow (.lst ds))) (h : DE X ρ e fun d => DE X ρ b fun z => ∃ n k, z = .int n ∧ ixN ds.length n = some k ∧ DS X (ρ.set i (.ow (.lst (ds.set k d)))) rest E) (hN : X.N[i]? = some x := by rfl) (hv : Vis X.env.scope x := by first | exact Or.inl rfl | exact Or.inr (Or.inl rfl) | exact Or.inr (Or.inr rfl))
    (hd : (x == ("__debug__" : Str)) = false := by decide) (hcd : (x == ("__classdict__" : Str)) = false := by decide)
    (hs : swapsWithSole [.Subscript (.Name x px) b pos'] e pos.line X.env = pure false := by rfl) (hw : swappedStores [.Subscript (.Name x px) b pos'] e X.env = pure none := by rfl)
    (h1 : (assignEach [.Subscript (.Name x px) b pos'] X.env).map (·.2) = [assign (.Subscript (.Name x px) b pos') X.env] := by rfl)
    (ha : ∀ v, assign (.Subscript (.Name x px) b pos') X.env v = (do
      let ov ← holding [v] (eval (.Name x px) X.env)
      let iv ← holding [v, ov] (eval b X.env)
      standAt pos'
      holding [v, ov, iv] (setItem ov iv v)
      release [v, ov, iv] []) := by intro _; rfl) : DS X ρ (.Assign [.Subscript (.Name x px) b pos'] e pos :: rest) E :=
  ⟨fun H0 B0 B σ H D g En => fun L => by
    obtain ⟨p, hσ, hb, h0, xs, hp, rs⟩ := En.ow i _ hi
    refine semS_of (pss_cons (ps_asg pe_sem (pg_sub pe_sem pe_sem set_list ha) hs hw h1) pss_sem) (h.go En fun B2 v d H2 g2 E2 r q => ?_)
    refine EV.ev (ev_nm i hσ hN hv hd hcd) H2 (Ex.refl _) _ fun H3 e3 => q.go (E2.more e3) fun B4 w z H4 g4 E4 r4 ⟨n, k, ez, hk, q4⟩ => ?_
    subst ez
    cases r4
    have gg := (g2.trans (Gr.more g2.s e3)).trans g4
    have hq : H4 p = some (.lst xs) := gg.h _ _ hp
    have nb : B4 p = none := gg.o p _ hp rfl hb
    refine ⟨p, xs, n, k, rfl, rfl, hq, by rw [rs.len]; exact hk, ?_⟩
    refine q4.run H0 B0 B4 σ _ D ((g.trans gg).mutO nb h0) (E4.put (d' := .lst (ds.set k d)) hi hσ ⟨_, upd_same, ?_⟩) L
    have r5 := rs.ex gg.b
    have r6 := r.ex g4.b
    refine .of ?_
    have gen : ∀ (vs : List V) (es : List Dt) (m : Nat), All2 (Rp X.K B4) vs es → All2 (Rp X.K B4) (vs.set m v) (es.set m d) := fun vs => by
      induction vs with
      | nil => intro es m h; cases es with
        | nil => exact True.intro
        | cons _ _ => exact h.elim
      | cons y ys ih => intro es m h; cases es with
        | nil => exact h.elim
        | cons f fs => cases m with
          | zero => exact ⟨r6, h.2⟩
          | succ m => exact ⟨h.1, ih fs m h.2⟩
    exact gen _ _ k r5.all2⟩
/-- s.join(list of texts) -/
theorem d_join {e o : Expr} (h : DE X ρ o fun d1 => ∃ s, d1 = .str s ∧ DE X ρ e fun d2 => ∃ ys : List Str, d2 = .lst (ys.map Dt.str) ∧ (ys.map (·.length)).sum + ys.length * s.length ≤ 16777216 ∧ Q (.str (Txt.join s ys)))
    (hs : starEach [e] X.env = [(false, eval e X.env)] := by rfl) (hbase : attributeBase o "join" X.env (eval o X.env) = eval o X.env := by rfl) (hline : (apos.endLine == pos.line) = true := by rfl) : DE X ρ (.Call (.Attribute o "join" apos) [e] [] pos) Q :=
  ⟨fun H0 B σ H E => sem_of (pe_join pe_sem pe_sem hs hbase hline) (h.go E fun B2 v d H2 g E2 r ⟨s, ed, q⟩ => by
    subst ed
    cases r
    exact ⟨⟨s, rfl⟩, q.go E2 fun B3 w d' H3 g3 E3 r3 ⟨ys, e3, hz, q3⟩ => by
      subst e3
      cases r3 with
      | lst ha hx => exact ⟨s, _, ys, rfl, rfl, .inl (by rw [← hx.strs]; exact ex_l E3.ex ha), hz, B3, _, g.trans g3, .str _, q3⟩⟩)⟩
theorem rpl_strs {K : PySem.W.Frag} {B : Hp} : ∀ ns : List Str, RpL K B (ns.map V.str) (ns.map Dt.str)
  | [] => .nil
  | n :: r => .cons (.str n) (rpl_strs r)
/-- sorted(list of texts) -/
theorem n_sortS (hg : Gl X "sorted") (hm : X.mg "sorted" = none) (h : DE X ρ a fun d => ∃ ns : List Str, d = .lst (ns.map Dt.str) ∧ ns.length < 64 ∧ ∀ out : List Str, out.Perm ns → sortedS out = true → Q (.lst (out.map Dt.str)))
    (hst : starEach [a] X.env = (false, eval a X.env) :: starEach [] X.env := by rfl) : DN X ρ (.Call (.Name "sorted" q1) [a] [] q2) Q :=
  ⟨fun H0 B σ H E => sem_of (pe_callB cr_sortedS hg hm (by decide +kernel) (pa_cons pe_sem pa_nil hst) (he := hst)) (h.go E fun B2 v d H2 g E2 r ⟨ns, ed, few, q⟩ => by
    subst ed
    cases r with
    | lst ha hx =>
      refine ⟨_, ns, rfl, by rw [← hx.strs]; exact ex_l E2.ex ha, few, fun out p pm srt hp => ?_⟩
      have hb := fresh_back E2.ex hp
      exact ⟨B2, p, .lst (out.map Dt.str), ⟨g.b, g.h.trans (Ex.new hp), Ex.mut E2.ex hb, g.o⟩, rfl, fresh_back g.h hp, hb, ⟨_, upd_same, rpl_strs out⟩, q out pm srt⟩)⟩
/-- max(list of ints) -/
theorem d_maxL (hc : X.calm = true) (hg : Gl X "max") (hm : X.mg "max" = none) (h : DE X ρ a fun d => ∃ ns : List Int, d = .lst (ns.map Dt.int) ∧ 0 < ns.length ∧ ∀ m, m ∈ ns → (∀ y, y ∈ ns → y ≤ m) → Q (.int m))
    (hst : starEach [a] X.env = (false, eval a X.env) :: starEach [] X.env := by rfl) : DE X ρ (.Call (.Name "max" q1) [a] [] q2) Q :=
  ⟨fun H0 B σ H E => sem_of (pe_callB (cr_max hc) hg hm (by decide +kernel) (pa_cons pe_sem pa_nil hst) (he := hst)) (h.go E fun B2 v d H2 g E2 r ⟨ns, ed, few, q⟩ => by
    subst ed
    cases r with
    | lst ha hx => exact ⟨_, ns, rfl, by rw [← hx.ints]; exact ex_l E2.ex ha, few, fun m h1 h2 => ⟨B2, _, g, .int m, q m h1 h2⟩⟩)⟩
theorem d_minLI (hc : X.calm = true) (hg : Gl X "min") (hm : X.mg "min" = none) (h : DE X ρ a fun d => ∃ ns : List Int, d = .lst (ns.map Dt.int) ∧ 0 < ns.length ∧ ∀ m, m ∈ ns → (∀ y, y ∈ ns → m ≤ y) → Q (.int m))
    (hst : starEach [a] X.env = (false, eval a X.env) :: starEach [] X.env := by rfl) : DE X ρ (.Call (.Name "min" q1) [a] [] q2) Q :=
  ⟨fun H0 B σ H E => sem_of (pe_callB (cr_min hc) hg hm (by decide +kernel) (pa_cons pe_sem pa_nil hst) (he := hst)) (h.go E fun B2 v d H2 g E2 r ⟨ns, ed, few, q⟩ => by
    subst ed
    cases r with
    | lst ha hx => exact ⟨_, ns, rfl, by rw [← hx.ints]; exact ex_l E2.ex ha, few, fun m h1 h2 => ⟨B2, _, g, .int m, q m h1 h2⟩⟩)⟩
/-- max(n, m) -/
theorem d_max2 (hc : X.calm = true) (hg : Gl X "max") (hm : X.mg "max" = none) (h : DE X ρ a fun x => DE X ρ b fun y => ∃ n m : Int, x = .int n ∧ y = .int m ∧ Q (.int (if m > n then m else n)))
    (he : starEach [a, b] X.env = (false, eval a X.env) :: starEach [b] X.env := by rfl) (he2 : starEach [b] X.env = (false, eval b X.env) :: starEach [] X.env := by rfl) (hpl : (backTo q2 (starEach [b] X.env)).any (·.1) = false := by rfl) : DE X ρ (.Call (.Name "max" q1) [a, b] [] q2) Q :=
  ⟨fun H0 B σ H E => sem_of (pe_callB (call_max2 hc) hg hm (by decide +kernel) (pa_cons pe_sem (pa_cons pe_sem pa_nil he2) he) (he := he) (hpl := hpl)) (h.go E fun B2 v d H2 g E2 r q => q.go E2 fun B3 w d' H3 g3 E3 r3 ⟨n, m, e1, e2, q3⟩ => by
    subst e1 e2
    cases r; cases r3
    exact (⟨n, m, rfl, B3, _, g.trans g3, .int _, q3⟩ : ∃ i j, ([V.int n, V.int m] : List V) = [V.int i, V.int j] ∧ ∃ B4 d, Gr B H B4 H3 ∧ Rp X.K B4 (V.int (if j > i then j else i)) d ∧ Q d))⟩
theorem walk_zL {K : PySem.W.Frag} {a b : Addr} {xs ys : List V} {n : Nat} (hn : n = min xs.length ys.length) : Walk (Itz K a b) n (fun H => SqL K H a xs ∧ SqL K H b ys) (YPair (fun i => xs[i]?) (fun i => ys[i]?)) := by
  subst hn
  refine ⟨fun i _ hi q => ?_, fun _ q => ⟨xs, ys, q.1, q.2, by omega⟩, fun i H v H' _ q y => ?_⟩
  · have h1 : i < xs.length := by omega
    have h2 : i < ys.length := by omega
    exact ⟨xs, ys, xs[i], ys[i], q.1, q.2, List.getElem?_eq_getElem h1, List.getElem?_eq_getElem h2⟩
  · obtain ⟨T, x, z, h1, h2, h3, h4, h5⟩ := y
    exact ⟨T, x, z, h1, h2, h3, h4 xs q.1, h5 ys q.2⟩
theorem i_zipL {Q : List Dt → Prop} {p tpos : Pos} {elts : List Expr} {kk : Nat} (hg : Gl X "zip") (hm : X.mg "zip" = none) (h : DE X ρ a fun d => lstQ d fun ds => DE X ρ b fun d' => lstQ d' fun es => Q (zipD ds es)) (hs : starEach [a, b] X.env = (false, eval a X.env) :: starEach [b] X.env := by rfl) (hs2 : starEach [b] X.env = (false, eval b X.env) :: starEach [] X.env := by rfl)
    (hpl : (backTo pos (starEach [b] X.env)).any (·.1) = false := by rfl) (fo : ∀ x, foldedSetIterable (.Call (.Name "zip" p) [a, b] [] pos) X.env x = pure x := by intro _; rfl) : DI X ρ (.Tuple elts kk tpos) (.Call (.Name "zip" p) [a, b] [] pos) Q :=
  ⟨⟨_, pi_zip hg hm (pa_cons pe_sem (pa_cons pe_sem pa_nil hs2) hs) hs hpl, fun H0 B σ H R E k => h.go E fun B2 v d H2 g E2 r q => by
    cases r with
    | lst ha hx =>
      refine q.go E2 fun B3 w d' H3 g3 E3 r3 q3 => ?_
      cases r3 with
      | lst hb hy =>
        refine ⟨_, _, _, _, rfl, ex_l (g3.b.trans E3.ex) ha, ex_l E3.ex hb, k B3 H3 _ _ (g.trans g3) E3 ⟨_, _, walk_zL ?_, fun H' e' => ⟨ex_l (g3.b.trans e') ha, ex_l e' hb⟩, ?_⟩ q3⟩
        · unfold zipD; rw [List.length_map, List.length_zip, hx.len, hy.len]
        · refine ypair (fun i v h _ => (hx.ex g3.b).at h) (fun i v h _ => hy.at h) fun i a b ha hb _ => ?_
          unfold zipD
          have hz : (List.zip _ _)[i]? = some (a, b) := List.getElem?_zip_eq_some.mpr ⟨ha, hb⟩
          rw [List.getElem?_map, hz]; rfl
      | _ => exact q3.elim
    | _ => exact q.elim⟩, fo⟩
end
/-! calls by keyword, by data -/
structure DK (X : Cx) (ρ : List Sl) (kws : List Keyword) (Q : List Dt → Prop) : Prop where
  run : ∀ H0 B σ H, En X.K H0 B ρ σ H → semK X kws σ H fun vs H2 => ∃ B2 ds, Gr B H B2 H2 ∧ RpL X.K B2 vs ds ∧ Q ds
structure OwnDK (P : Program) (w : World) (K : PySem.W.Frag) (mg : Str → Option Value) (base : Heap) (nm : Str) (ps qs : List Str) (ix : List Nat) (lv : Nat) (S : List Dt → (Dt → Prop) → Prop) : Prop where
  own : OwnK P w K mg base nm ps qs ix lv (spD K S)
  mono : ∀ ds (Q Q' : Dt → Prop), (∀ d, Q d → Q' d) → S ds Q → S ds Q'
theorem RpL.atI {K : PySem.W.Frag} {B : Hp} {vs : List V} {ds : List Dt} (r : RpL K B vs ds) : ∀ ix : List Nat, RpL K B (at_ ix vs) (at_ ix ds)
  | [] => .nil
  | i :: t => by
    have ih := RpL.atI r t
    unfold at_ at ih ⊢
    rw [List.filterMap_cons, List.filterMap_cons]
    cases e : vs[i]? with
    | none =>
      have e2 : ds[i]? = none := by rw [List.getElem?_eq_none_iff] at e ⊢; rw [← r.len]; exact e
      rw [e2]; exact ih
    | some v =>
      obtain ⟨d, e2, rd⟩ := r.at e
      rw [e2]; exact .cons rd ih
section
variable {X : Cx} {ρ : List Sl} {e : Expr} {kws : List Keyword} {kn : Option Str} {kp q1 q2 : Pos} {Q : Dt → Prop} {nm : Str} {ps qs : List Str} {ix : List Nat} {lv : Nat} {S : List Dt → (Dt → Prop) → Prop}
theorem k_nil {Q : List Dt → Prop} (q : Q []) : DK X ρ [] Q := ⟨fun H0 B σ H E => semK_of pk_nil ⟨B, [], Gr.refl E.ex, .nil, q⟩⟩
theorem k_cons {Q : List Dt → Prop} (h : DE X ρ e fun d => DK X ρ kws fun ds => Q (d :: ds)) : DK X ρ (⟨kn, e, kp⟩ :: kws) Q :=
  ⟨fun H0 B σ H E => semK_of (pk_cons pe_sem pk_sem) (h.go E fun B2 v d H2 g E2 r q => semK_mono (q.run H0 B2 σ H2 E2) fun vs H3 ⟨B3, ds, g3, rs, q3⟩ => ⟨B3, _, g.trans g3, .cons (r.ex g3.b) rs, q3⟩)⟩
theorem d_ownK (O : OwnDK X.prog X.w X.K X.mg X.base nm ps qs ix lv S) (hr : Room lv X.A) (hg : Gl X nm) (h : DK X ρ kws fun ds => ds.length = qs.length ∧ S (at_ ix ds) Q)
    (hall : (backToKw q2 (keywordEach kws X.env)).all (·.1.isSome) = true := by rfl) (hks : (backToKw q2 (keywordEach kws X.env)).filterMap (·.1) = qs := by rfl) (hdb : (nm == ("__debug__" : Str)) = false := by decide)
    (hpl : ((backTo q2 (starEach [] X.env)).any (·.1) || (backToKw q2 (keywordEach kws X.env)).any (·.1.isNone)) = false := by rfl) : DE X ρ (.Call (.Name nm q1) [] kws q2) Q := by
  obtain ⟨g, fd, F, hk, hb, hm⟩ := O.own.ex
  refine ⟨fun H0 B σ H En pins s I => wpAny_Call_Name_kw (ld_glob I hg hm (PySem.W.callWith_KW0 (h₀ := X.base) I.ok.mod.kin hk hall ?_ hpl) hdb)⟩
  refine thn (h.run H0 B σ H En q2 pins s I) fun ws s2 ⟨vs, H2, I2, rz, B2, ds, g2, rs, hl, q⟩ => ⟨I2.kIn, ?_⟩
  rw [hks]
  have hl2 : ws.length = qs.length := by rw [← rz.length, rs.len]; exact hl
  have hsp : spD X.K S (at_ ix vs) H2 (fun v H3 => ∃ B3 d, Gr B H B3 H3 ∧ Rp X.K B3 v d ∧ Q d) (fun _ _ _ => False) := ⟨B2, at_ ix ds, g2.s, rs.atI ix, O.mono _ _ _ (fun d q B3 v H3 g3 r => ⟨B3, d, g2.trans g3, r, q⟩) q⟩
  refine wpAny_call (codeAny_mono (F.run X.A X.stack s2 H2 ⟨[], qs.zip ws⟩ (at_ ix ws) (at_ ix vs) _ _ hr I2.env0 (hb s2 ws hl2) (Vals.at_ rz ix) hsp) fun r s' hq => ?_)
  match r, hq with
  | .error e, hq => exact False.elim (by obtain ⟨_, _, _, _, _, _, _, _, h⟩ := hq)
  | .ok (.ret u), hq => exact I2.after hq
  | .ok .next, hq => exact False.elim hq
  | .ok .brk, hq => exact False.elim hq
  | .ok .cont, hq => exact False.elim hq
end
end Z
set_option Elab.async false
set_option linter.all false
set_option maxRecDepth 100000
set_option maxHeartbeats 8000000
/-! sorted(set(a list of texts)) -/
namespace Y
open PySem PySem.Spec PyProof.Rows L2
/-- the text of a row of a set's table -/
def txOf (e : Int × Value) : Str := match e.2 with
  | .str s _ => s
  | _ => Str.empty
def TxRow (w : World) (e : Int × Value) : Prop := ∃ s u, e.2 = .str s u ∧ e.1 = hashStr w s
/-- the rows es are those of the texts L -/
structure TxRows (w : World) (es : Array (Int × Value)) (L : List Str) : Prop where
  g : ∀ e ∈ es.toList, TxRow w e
  p : (es.toList.map txOf).Perm L
  n : L.Nodup
def Led (w : World) (t : SetTable) : Prop := w.params.followText "set-order" = true ∨ t.led = true
/-- a set of texts that can be walked -/
structure TxSet (w : World) (h : Heap) (a : Addr) (L : List Str) : Prop where
  ex : ∃ o es ep t, h.get? a = some o ∧ o.ExactSet ∧ o.data = .set es ep t ∧ TxRows w es L ∧ es.size < scanBound ∧ t.fits es.size = true ∧ Ris t.place.toList ∧ Led w t
section
variable {P : Program} {w : World} {h h' : Heap} {a : Addr} {L : List Str} {es es' : Array (Int × Value)}
theorem TxSet.keep (R : TxSet w h a L) (k : ∀ o, h.get? a = some o → h'.get? a = some o) : TxSet w h' a L := let ⟨o, es, ep, t, ho, r⟩ := R.ex; ⟨o, es, ep, t, k o ho, r⟩
theorem TxRows.size (r : TxRows w es L) : es.size = L.length := by rw [← r.p.length_eq, List.length_map, Array.length_toList]
theorem TxRows.elems (r : TxRows w es L) : ElemsOf (strKind P w) es.toList := fun e he => by
  obtain ⟨s, u, e1, e2⟩ := r.g e he
  exact ⟨⟨s, by rw [e1]; exact PySem.Froz.is_str s u, e2⟩, by rw [e1]; rfl⟩
theorem txRow_is {e : Int × Value} (g : TxRow w e) (k : Str) : (strKind P w).is k e.2 = true ↔ txOf e = k := by
  obtain ⟨s, u, e1, _⟩ := g
  unfold txOf; rw [e1]
  exact ⟨fun z => (strKind P w).inj (.str s u) s k (PySem.Froz.is_str s u) z, fun z => by subst z; exact PySem.Froz.is_str _ u⟩
theorem TxRows.mem (r : TxRows w es L) (k : Str) : k ∈ L ↔ ∃ e ∈ es.toList, (strKind P w).is k e.2 = true := by
  rw [← r.p.mem_iff, List.mem_map]
  exact ⟨fun ⟨e, he, z⟩ => ⟨e, he, (txRow_is (r.g e he) k).2 z⟩, fun ⟨e, he, z⟩ => ⟨e, he, (txRow_is (r.g e he) k).1 z⟩⟩
theorem TxRows.perm (r : TxRows w es L) (p : es'.toList.Perm es.toList) : TxRows w es' L := ⟨fun e he => r.g e (p.mem_iff.mp he), (p.map txOf).trans r.p, r.n⟩
end
section
variable {P : Program} {w : World} {A : Around} {E : Value → Shared → Prop} {s : Shared} {a : Addr} {L : List Str}
/-- what is left of an add once the row is laid -/
theorem txSet_tail {g : Bool → Sem Unit} (hg : ∀ (b : Bool) (z : Shared) (Q' : Unit → Shared → Prop), Q' () z → wpAny (model P w) A (g b) Q' E z) {o : Obj} {es0 es1 : Array (Int × Value)} {ep : Nat} {t0 t1 : SetTable}
    (ho : s.heap.get? a = some o) (hx : o.ExactSet) (hd : o.data = .set es0 ep t0) (rows : TxRows w es1 L) (few : es1.size < scanBound) (fit : t1.fits es1.size = true) (ris : Ris t1.place.toList) (led : Led w t1) {dum : Bool} {R : Option Bool → Shared → Prop}
    (fin : ∀ h2, Heap.SameBut a s.heap h2 → TxSet w h2 a L → R (some true) { s with heap := h2 }) : wpAny (model P w) A (do
        storeSet a es1 t1
        if (!dum && t1.tooFull) = true then do
            g (relayAll t1 es1 (SetTable.grown es1.size)).2.2
            storeSet a (relayAll t1 es1 (SetTable.grown es1.size)).1 (relayAll t1 es1 (SetTable.grown es1.size)).2.1
            pure (some true)
          else pure (some true)) R E s := by
  have at1 := store_at (es' := es1) (t' := t1) ho hd
  have same := Heap.SameBut.update s.heap a (Obj.putSet es1 t1)
  refine wpAny_bind (wpAny_storeSet_of ho hd ?_ (fits_of_scanBound few))
  by_cases full : (!dum && t1.tooFull) = true
  · rw [if_pos full]
    have q1 := relayAll_perm t1 es1 (SetTable.grown es1.size); have q2 := relayAll_fits t1 es1 (SetTable.grown es1.size)
    have q3 := relayAll_ris t1 es1 (SetTable.grown es1.size); have q4 := relayAll_led t1 es1 (SetTable.grown es1.size)
    revert q1 q2 q3 q4
    generalize relayAll t1 es1 (SetTable.grown es1.size) = Y
    obtain ⟨es2, t2, gv⟩ := Y
    intro q1 q2 q3 q4
    simp only at q1 q2 q3 q4 ⊢
    have sz : es2.size = es1.size := (Array.length_toList (xs := es2)).symm.trans (q1.length_eq.trans Array.length_toList)
    have few2 : es2.size < scanBound := sz ▸ few
    refine wpAny_bind (hg gv _ _ (wpAny_bind (wpAny_storeSet_of at1 rfl (wpAny_pure (fin _ (same.trans (Heap.SameBut.update _ a _)) ?_)) (fits_of_scanBound few2))))
    exact ⟨_, es2, _, t2, store_at (es' := es2) (t' := t2) at1 rfl, hx, rfl, rows.perm q1, few2, q2, q3, led.imp id fun z => q4.trans z⟩
  · rw [if_neg full]
    exact wpAny_pure (fin _ same ⟨_, es1, _, t1, at1, hx, rfl, rows, few, fit, ris, led⟩)
theorem txSet_add {k : Str} {u : Tok} {Q : Bool → Shared → Prop} (R : TxSet w s.heap a L) (room : L.length + 1 < scanBound)
    (fin : ∀ h2, Heap.SameBut a s.heap h2 → TxSet w h2 a (if k ∈ L then L else k :: L) → Q (!decide (k ∈ L)) { s with heap := h2 }) : wpAny (model P w) A (setAddHashed a (.str k u) ((strKind P w).hash k)) Q E s := by
  obtain ⟨o, es, ep, t, ho, hx, hd, rows, few, fit, ris, led⟩ := R.ex
  have is0 : (strKind P w).is k (.str k u) = true := PySem.Froz.is_str k u
  have el : ElemsOf (strKind P w) es.toList := rows.elems
  have sc : (Value.str k u).scannable = true := rfl
  unfold setAddHashed setAddHashedIn
  refine wpAny_holding (wpAny_bind (wpAny_setState_of ho hd fit ?_))
  dsimp only; rw [byScan_of sc few el]; simp only [↓reduceIte]
  unfold setAddByScan
  refine wpAny_bind (wpAny_bind (wpAny_rule (wpAny_bind (wpAny_setScan_of is0 ho hd fit el ?_))))
  cases there : List.findIdx? (fun e => (strKind P w).is k e.2) es.toList with
  | some j =>
    have ⟨hj, pj, _⟩ := List.findIdx?_eq_some_iff_getElem.mp there
    have km : k ∈ L := (rows.mem (P := P) k).2 ⟨_, List.getElem_mem hj, pj⟩
    have q := fin s.heap (Heap.SameBut.refl a s.heap)
    rw [if_pos km, decide_eq_true km] at q
    exact wpAny_pure (wpAny_pure (q R))
  | none =>
    have km : k ∉ L := fun z => by
      obtain ⟨e, he, z⟩ := (rows.mem (P := P) k).1 z
      exact absurd z (by rw [List.findIdx?_eq_none_iff.mp there e he]; decide)
    rw [if_neg km, decide_eq_false km] at fin
    have q1 := layNew_perm t es ((strKind P w).hash k) (.str k u); have q2 := layNew_fits t es ((strKind P w).hash k) (.str k u)
    have q3 := layNew_ris t es ((strKind P w).hash k) (.str k u) ris; have q4 := layNew_led t es ((strKind P w).hash k) (.str k u)
    dsimp only
    revert q1 q2 q3 q4
    generalize layNew t es ((strKind P w).hash k) (.str k u) = Y
    obtain ⟨es1, t1, dum, gv⟩ := Y
    intro q1 q2 q3 q4
    simp only at q1 q2 q3 q4 ⊢
    rw [Array.toList_push] at q1
    have p1 : es1.toList.Perm (((strKind P w).hash k, Value.str k u) :: es.toList) := q1.trans List.perm_append_comm
    have rows1 : TxRows w es1 (k :: L) := ⟨fun e he => (List.mem_cons.mp (p1.mem_iff.mp he)).elim (fun z => ⟨k, u, by rw [z], by rw [z]; rfl⟩) (rows.g e), (p1.map txOf).trans (.cons k rows.p), List.nodup_cons.mpr ⟨km, rows.n⟩⟩
    have few1 : es1.size < scanBound := by rw [rows1.size]; exact room
    have led1 : Led w t1 := led.imp id fun z => q4.trans z
    have gave : ∀ (b : Bool) (z : Shared) (Q' : Unit → Shared → Prop), Q' () z → wpAny (model P w) A (match b with | true => rule "set.scan.the-table-gave-way" | false => pure ()) Q' E z := fun b z Q' q => by
      cases b
      · exact wpAny_pure q
      · exact wpAny_rule q
    refine wpAny_bind (gave gv _ _ ?_)
    by_cases pl : t1.plain = true
    · rw [if_pos pl]
      refine wpAny_bind ?_
      rw [hashByValue_scannable 8 sc]
      refine wpAny_pure (txSet_tail ?_ ho hx hd rows1 few1 ?_ ?_ ?_ fun h2 sb r => wpAny_pure (fin h2 sb r))
      · intro b z Q' q; cases b <;> first | exact wpAny_pure q | exact wpAny_rule q
      all_goals first | exact SetTable.fits_plain_off q2 | exact q2 | exact q3 | exact led1 | (split <;> first | exact SetTable.fits_plain_off q2 | exact q2 | exact q3 | exact led1)
    · rw [if_neg pl]
      refine wpAny_bind (wpAny_pure ?_)
      simp only [↓reduceIte]
      refine txSet_tail ?_ ho hx hd rows1 few1 q2 q3 led1 fun h2 sb r => wpAny_pure (fin h2 sb r)
      intro b z Q' q; cases b <;> first | exact wpAny_pure q | exact wpAny_rule q
/-- what has been put in of xs -/
structure Into (xs L : List Str) : Prop where
  m : ∀ k, k ∈ L ↔ k ∈ xs
  l : L.length ≤ xs.length
  n : L.Nodup
theorem Into.next {xs L : List Str} {i : Nat} {k : Str} (g : Into (xs.take i) L) (h : xs[i]? = some k) : Into (xs.take (i + 1)) (if k ∈ L then L else k :: L) := by
  have e : xs.take (i + 1) = xs.take i ++ [k] := by rw [List.take_add_one, h]; rfl
  rw [e]
  refine ⟨fun q => ?_, ?_, ?_⟩
  · rw [List.mem_append, List.mem_singleton, ← g.m q]
    by_cases m : k ∈ L
    · rw [if_pos m]; exact ⟨.inl, fun z => z.elim id fun z => z ▸ m⟩
    · rw [if_neg m, List.mem_cons]; exact or_comm
  · rw [List.length_append, List.length_singleton]
    have := g.l
    split
    · omega
    · rw [List.length_cons]; omega
  · split
    · exact g.n
    · rename_i m; exact List.nodup_cons.mpr ⟨m, g.n⟩
theorem txSet_loop {I : Addr} {fp wr : List Addr} {G : Array GenState → Array GenState → Prop} {n : Nat} {Pv : Nat → Value → Prop} {St : Nat → Shared → Prop} {R : Result → Shared → Prop} (W : WalksS P w A.in1 I fp wr G n Pv St)
    (S : Addr) (out : S ∉ fp) (xs : List Str) (hn : n = xs.length) (room : xs.length + 1 < scanBound) (val : ∀ i v, Pv i v → ∃ k u, xs[i]? = some k ∧ v = .str k u) : ∀ (m i : Nat) (s : Shared), n - i = m → i ≤ n → St i s → (∃ L, Into (xs.take i) L ∧ TxSet w s.heap S L) →
      (∀ z L, Moved (S :: wr) G s z → Into xs L → TxSet w z.heap S L → R (.ok (.ret .none)) z) → codeAny (model P w) A (.builtin "set.update.loop" ⟨[.ref S, .ref I], []⟩) R s := by
  have o2 : S ∉ wr := fun z => out (W.sub _ z)
  have o3 : ∀ b ∈ wr, b ∈ S :: wr := fun _ z => List.mem_cons_of_mem _ z
  intro m
  induction m with
  | zero =>
    intro i s hm hi st ⟨L, g, T⟩ fin
    obtain rfl : i = n := by omega
    refine codeAny_builtin F.entry_set_update_loop ?_
    rw [(Around.under_plainId F.plain_set_update_loop _)]
    refine (show wpAny _ A.in1 (pyNext (.ref I) >>= _) _ _ s from wpAny_bind (W.done s _ _ st fun z mv => ?_))
    rw [List.take_of_length_le (by omega)] at g
    exact (show wpAny _ A.in1 (ret Value.none) _ _ z from wpAny_pure (fin z L (mv.mono o3) g (T.keep fun o e => mv.heap S o o2 e)))
  | succ m ih =>
    intro i s hm hi st ⟨L, g, T⟩ fin
    have lt : i < n := by omega
    refine codeAny_builtin F.entry_set_update_loop ?_
    rw [(Around.under_plainId F.plain_set_update_loop _)]
    refine (show wpAny _ A.in1 (pyNext (.ref I) >>= _) _ _ s from wpAny_bind (W.item i s _ _ lt st fun v z pv st2 mv => ?_))
    obtain ⟨k, u, hk, ev⟩ := val i v pv
    subst ev
    have T2 : TxSet w z.heap S L := T.keep fun o e => mv.heap S o o2 e
    have few : L.length + 1 < scanBound := by have := g.l; rw [List.length_take] at this; omega
    refine (show wpAny _ A.in1 (holding [Value.str k u] (setAdd S (.str k u)) >>= _) _ _ z from wpAny_bind (wpAny_holding ?_))
    unfold setAdd
    refine wpAny_holding (wpAny_bind ((strKind P w).pyHash (k := k) (PySem.Froz.is_str k u) (txSet_add (s := { z with toks := z.toks + 1 }) T2 few fun h2 sb T3 => ?_)))
    refine wpAny_pure ⟨plainId_quiet F.plain_set_update_loop _, ih (i + 1) _ (by omega) lt (W.frame _ z _ _ st2 (Nat.le_succ _) fun b hb o e => ?_) ⟨_, g.next hk, T3⟩ fun z2 L2 mv2 g2 T4 => ?_⟩
    · rw [sb.2 b fun y => out (by rw [← y]; exact hb)]; exact e
    · refine fin z2 L2 (Moved.trans W.gtrans ((mv.mono o3).then_heap (Nat.le_succ _) fun b o hb e => ?_) mv2) g2 T4
      rw [sb.2 b fun y => hb (by rw [y]; exact List.mem_cons_self)]; exact e
theorem txSet_new {h : Heap} (ho : h.get? a = some (setO w)) : TxSet w h a [] := ⟨_, #[], 0, _, ho, ⟨rfl, rfl, rfl⟩, rfl, ⟨fun e he => by simp at he, .refl _, List.nodup_nil⟩, by decide, by rfl, List.Pairwise.nil, by
  show _ ∨ (!w.params.followText "set-order") = true
  cases w.params.followText "set-order"
  · exact .inr rfl
  · exact .inl rfl⟩
set_option maxHeartbeats 8000000 in
theorem txSet_of_list {l : Addr} {us : Array Value} (xs : List Str) {Q : Value → Shared → Prop} (free : A.handled = none) (isl : s.heap.IsList l us) (hns : StrsAre us.toList xs) (room : xs.length + 1 < scanBound)
    (fin : ∀ (h' : Heap) (tk : Nat) (L : List Str), TxSet w h' s.heap.objs.size L → Into xs L → (∀ b o, s.heap.get? b = some o → h'.get? b = some o) → Q (.ref s.heap.objs.size) { s with heap := h', toks := tk }) : wpAny (model P w) A (call (.type "set") [.ref l]) Q E s := by
  have sz : us.size = xs.length := (Array.length_toList (xs := us)).symm.trans (StrsAre.length hns)
  have ⟨c, tl, hmro⟩ := F.called_set.mro; have hmade := F.called_set.made; have hsub := F.called_set.sub
  refine wpAny_call <| codeAny_of_tree <| (show wpAny (model P w) _ (callAny (.type "set") _) _ _ s from wpAny_pure ⟨Code.quiet_builtin _ (by decide +kernel), codeAny_builtin F.entry_type_call ?_⟩)
  rw [(Around.under_plain (weight_type_call_type "set" [.ref l] []) rfl)]
  have h1 := F.called_set.notType; have h2 := F.called_set.canCreate; have hct := F.typeCall_set_1 (.ref l)
  (repeat (any_goals (first | assumption | wp_step)))
  refine codeAny_mono (code_set_led1 (.ref l) (E := E) (Q₁ := fun ob z => ob = .ref s.heap.objs.size ∧ z = { s with heap := setH w s.heap }) ⟨rfl, rfl⟩) (fun r z hr => ?_)
  rcases r with e | fl
  · exact hr
  cases fl with
  | ret ob =>
    obtain ⟨rfl, rfl⟩ := hr
    have at0 : (setH w s.heap).get? s.heap.objs.size = some (setO w) := Heap.get?_push_size _ rfl
    have ty0 : Shared.TypeIs { s with heap := setH w s.heap } (.ref s.heap.objs.size) "set" := ⟨_, at0, rfl⟩
    have hli := F.called_set.init.lookup; have hbi := F.called_set.init.bind (.ref s.heap.objs.size)
    (repeat (any_goals (first | assumption | wp_step)))
    refine codeAny_mono (codeAny_call_builtin (R := wants (fun r z => r = .none ∧ ∃ g tk L, z = { s with heap := g, toks := tk } ∧ TxSet w g s.heap.objs.size L ∧ Into xs L ∧ (∀ b o, s.heap.get? b = some o → g.get? b = some o)) E) F.called_set.init.plain F.entry_set_init (check_set_init_1 ty0 ?_)) (fun r2 z2 hr2 => ?_)
    · obtain ⟨ob, hob, hcl, nl, hdl⟩ := isl
      rcases ob with ⟨ocls, odict, odata, oslots⟩
      simp only at hcl hdl; subst hcl hdl
      have at1 : (setH w s.heap).get? l = some { cls := .type "list", dict := odict, data := .seq us nl, slots := oslots } := Heap.get?_push_of_some _ hob
      have k1 := F.sub_list_set; have k2 := F.sub_list_frozenset
      have k3 : (Value.type "list" == Value.type "dict") = false := by decide
      have isl1 : (setH w s.heap).IsList l us := ⟨_, at1, rfl, nl, rfl⟩
      unfold Builtin.«set.__init__»; unfold noKeywords; unfold Builtin.Frozenset.updateFrom
      generalize gPI : pyIter = PI
      wp_walk
      subst gPI
      refine wpAny_pyIter_list isl1 (wpAny_bind (wpAny_runValue ?_))
      have old : l < s.heap.objs.size := Heap.lt_size hob
      have free3 : A.in1.in1.in1.handled = none := by simp [free]
      have size1 : (setH w s.heap).objs.size = s.heap.objs.size + 1 := Heap.size_push ..
      have neI : l ≠ (setH w s.heap).objs.size := by rw [size1]; exact Nat.ne_of_lt (Nat.lt_succ_of_lt old)
      have notin : s.heap.objs.size ∉ [(setH w s.heap).objs.size, l] := by
        rw [size1]
        intro z
        rcases List.mem_cons.mp z with z | z
        · exact absurd z (Nat.ne_of_lt (Nat.lt_succ_self _))
        · exact absurd (List.mem_singleton.mp z) (Nat.ne_of_gt old)
      have val : ∀ (i : Nat) (v : Value), us[i]? = some v → ∃ k t, xs[i]? = some k ∧ v = .str k t := fun i v hv => by
        have hi : i < xs.length := sz ▸ (Array.getElem?_eq_some_iff.mp hv).1
        have ⟨t, e⟩ := SS.strs_at hns i v (by rw [Array.getElem?_toList]; exact hv)
        exact ⟨xs[i], t, List.getElem?_eq_getElem hi, by rw [e, List.getD_eq_getElem?_getD, List.getElem?_eq_getElem hi]; rfl⟩
      refine txSet_loop ((Walks.list free3 _ l neI us).toS) s.heap.objs.size notin xs sz room val (us.size - 0) 0 _ (by omega) (Nat.zero_le _) ⟨⟨_, Heap.get?_push_size _ rfl, rfl, rfl⟩, isl1.push _⟩ ⟨[], ⟨fun k => by simp, Nat.le_refl _, List.nodup_nil⟩, txSet_new (Heap.get?_push_of_some _ at0)⟩ (fun z L mv g' T' => ?_)
      obtain ⟨g, g2, d2, tk2, os2⟩ := z
      have eg : g2 = s.gens := mv.gens
      have ed : d2 = s.drawn := mv.drawn
      have eo : os2 = s.os := mv.os
      subst eg ed eo
      refine (show wpAny _ _ _ _ _ _ from wpAny_pure ?_)
      refine (show wpAny _ _ (ret Value.none) _ _ _ from wpAny_pure ⟨rfl, g, tk2, L, rfl, T', g', fun b o e => ?_⟩)
      have hb := Heap.lt_size e
      refine mv.heap b o (fun z => ?_) (Heap.get?_push_of_some _ (Heap.get?_push_of_some _ e))
      rcases List.mem_cons.mp z with z | z
      · exact absurd z (Nat.ne_of_lt hb)
      · have z2 := List.mem_singleton.mp z
        rw [size1] at z2
        exact absurd z2 (Nat.ne_of_lt (Nat.lt_succ_of_lt hb))
    · rcases r2 with e | fl2
      · exact hr2
      cases fl2 with
      | ret r =>
        obtain ⟨rfl, g, tk2, L, rfl, T', g', hk'⟩ := hr2
        (repeat (any_goals (first | assumption | wp_step)))
        exact fin _ _ _ T' g' hk'
      | _ => exact hr2.elim
  | _ => exact hr.elim
end
end Y
set_option Elab.async false
set_option linter.all false
set_option maxRecDepth 100000
set_option maxHeartbeats 8000000
namespace Y
open PySem PySem.Spec PyProof.Rows L2
section
variable {P : Program} {w : World} {A : Around} {E : Value → Shared → Prop} {s : Shared} {a : Addr} {L : List Str}
/-- the texts of a set, sorted -/
theorem txSet_sorted {Q : Value → Shared → Prop} (R : TxSet w s.heap a L) (free : A.handled = none) (few : L.length < 64)
    (fin : ∀ z p (out : Array Value) (c : Nat) (ys : List Str), (∀ b o, s.heap.get? b = some o → z.heap.get? b = some o) → z.gens = s.gens → z.os = s.os → s.heap.objs.size ≤ p → z.heap.get? p = some (seqObj "list" out c) → StrsAre out.toList ys → ys.Perm L → sortedS ys = true → Q (.ref p) z) :
    wpAny (model P w) A (call (.builtin "sorted") [.ref a]) Q E s := by
  obtain ⟨o, es, ep, t, ho, hx, hd, rows, small, fit, ris, led⟩ := R.ex
  refine Calls.call_function_entry kind_sorted plain_sorted entry_sorted (args_sorted1 _) ?_
  unfold Builtin.«sorted»
  refine wpAny_bind (m := checkCount "sorted" 1 1 _) (wpAny_pure (wpAny_bind (collect_set (A := A.in1) free ⟨o, ho, hx.1, hd⟩ fit small ris led fun z vs old ge eg eo pm => ?_)))
  have ln : vs.length = L.length := by rw [pm.length_eq, List.length_map, Array.length_toList]; exact rows.size
  have allS : ∀ us : List Value, (∀ v ∈ us, ∃ e ∈ es.toList, v = e.2) → ∃ ks, StrsAre us ks ∧ ks = us.map fun v => txOf (0, v) := fun us => by
    induction us with
    | nil => exact fun _ => ⟨[], .nil, rfl⟩
    | cons v us ih =>
      intro hv
      obtain ⟨ks, h1, h2⟩ := ih fun u hu => hv u (List.mem_cons_of_mem _ hu)
      obtain ⟨e, he, ev⟩ := hv v List.mem_cons_self
      obtain ⟨k, u, ek, _⟩ := rows.g e he
      rw [ek] at ev
      subst ev
      exact ⟨k :: ks, .cons k u h1, by rw [List.map_cons, ← h2]; rfl⟩
  obtain ⟨ks, sk, ek⟩ := allS vs fun v hv => let ⟨e, he, ev⟩ := List.mem_map.mp (pm.mem_iff.mp hv); ⟨e, he, ev.symm⟩
  have pk : ks.Perm L := by
    rw [ek]
    have q := pm.map fun v => txOf (0, v)
    rw [List.map_map] at q
    exact q.trans rows.p
  refine wpAny_bind (wpAny_newList ?_ (by rw [ln, sizeLine_eq]; omega))
  have lay : (z.heap.push (seqObj "list" vs.toArray 0)).get? z.heap.objs.size = some (seqObj "list" vs.toArray 0) := Heap.get?_push_size _ rfl
  refine wpAny_bind (wpAny_holding (wpAny_call_entry slot_list_sort ⟨_, lay, rfl⟩ entry_list_sort (list_sort_treeK strKind_oneLt lay sk.keysOf (fun v₁ v₂ rest e => keyKind_strs (by rw [← e]; exact sk)) (by rw [ln]; exact few) fun st' hp hs => ⟨_, rfl, ?_⟩) (args_list_sort _)))
  obtain ⟨ys, g1, g2, g3⟩ := sorted_out_str sk hp hs
  obtain ⟨c, hc⟩ := sortedHeap_at (vs := vs) (out := (arrOf st').map (·.2)) lay
  refine wpAny_pure ⟨_, rfl, fin _ z.heap.objs.size _ c ys (fun b u e => ?_) eg eo ge hc g1 (g2.trans pk) g3⟩
  have q := old b u e
  refine (show (sortedHeap (z.heap.push (seqObj "list" vs.toArray 0)) z.heap.objs.size vs ((arrOf st').map (·.2))).get? b = some u from ?_)
  rw [sortedHeap_old (Nat.ne_of_lt (Heap.lt_size q)) (by rw [size_push']; exact Nat.lt_succ_of_lt (Heap.lt_size q))]
  exact Heap.get?_push_of_some _ q
end
/-- a set of texts that has been made -/
def SetX (w : World) (a : Addr) (L : List Str) : HO := .ext fun h => TxSet w h a L
def rMkSetX (K : PySem.W.Frag) (w : World) : List V → Hp → VK → Prop := fun xs H Q => ∃ (l : Addr) (ns : List Str), xs = [V.ref l] ∧ SqL K H l (ns.map V.str) ∧ ns.length < 1000 ∧ ∀ a L, H a = none → Into ns L → Q (.ref a) (upd H a (SetX w a L))
theorem cr_mkSetX {X : Cx} (hc : X.calm = true) : CallR X (.type "set") (rMkSetX X.K X.w) := fun pins s σ H xs us Q I r h => by
  obtain ⟨l, ns, e, sq, few, k⟩ := h
  subst e
  rw [(Vals.ref1 r)]
  have ⟨its, rv, pl, big⟩ := I.list sq
  have nw : H s.heap.objs.size = none := I.hok.fresh (Nat.le_refl _)
  refine txSet_of_list (P := X.prog) (w := X.w) ns (I.ok.hd hc) pl.isList rv.strs (by unfold scanBound; omega) fun g tk L R le old => ?_
  have ob : ∃ o, g.get? s.heap.objs.size = some o := let ⟨o, _, _, _, z, _⟩ := R.ex; ⟨o, z⟩
  exact ⟨.ref s.heap.objs.size, upd H s.heap.objs.size (SetX X.w s.heap.objs.size L), I.laid (t' := tk) old (Nat.le_refl _) ⟨R, ob, fun a b za zb => za.keep zb⟩, rfl, k _ L nw le⟩
def rSortSetX (w : World) : List V → Hp → VK → Prop := fun xs H Q => ∃ (a : Addr) (L : List Str), xs = [V.ref a] ∧ H a = some (SetX w a L) ∧ L.length < 64 ∧ L.Nodup ∧ ∀ (out : List Str) (p : Addr), out.Perm L → sortedS out = true → H p = none → Q (.ref p) (upd H p (.lst (out.map V.str)))
theorem cr_sortSetX {X : Cx} (hc : X.calm = true) : CallR X (.builtin "sorted") (rSortSetX X.w) := fun pins s σ H xs us Q I r h => by
  obtain ⟨a, L, e, ha, few, nd, k⟩ := h
  subst e
  rw [(Vals.ref1 r)]
  have R : TxSet X.w s.heap a L := (show ObjOk X.prog X.w H s.heap a (SetX X.w a L) from I.hok a _ ha).1
  refine txSet_sorted R (I.ok.hd hc) few fun z p out n ys old eg eo ge at' hi pm srt => ?_
  have big : (ys.map V.str).length ≤ sizeLine := by rw [List.length_map, pm.length_eq, sizeLine_eq]; omega
  have nw : H p = none := I.hok.fresh ge
  have J : Inv X pins σ (upd H p (.lst (ys.map V.str))) { s with heap := z.heap, gens := z.gens, drawn := z.drawn, toks := z.toks } := I.call (ch := []) (Un.laid old ge nw) (I.hok.laid old ge ⟨big, out.toList, n, vals_of_strs hi, at'⟩) (by rw [eg]; exact I.bare) (fun _ q => nomatch q)
  have ez : z = { s with heap := z.heap, gens := z.gens, drawn := z.drawn, toks := z.toks } := by cases z; cases s; cases eo; rfl
  rw [ez]
  exact ⟨.ref p, _, J, rfl, k ys p pm srt nw⟩
end Y
namespace Z
open PySem PySem.Spec PyProof.Rows L2 Evl Y
section
variable {X : Cx} {ρ : List Sl} {a : Expr} {Q : Dt → Prop} {q1 q2 q3 q4 : Pos}
/-- sorted(set(a list of texts)): the texts, each once -/
theorem n_sortSetX (hc : X.calm = true) (hg : Gl X "sorted") (hm : X.mg "sorted" = none) (hg2 : Gl X "set") (hm2 : X.mg "set" = none) (h : DE X ρ a fun d => ∃ ns : List Str, d = .lst (ns.map Dt.str) ∧ ns.length < 64 ∧ ∀ out : List Str, out.Nodup → sortedS out = true → (∀ k, k ∈ out ↔ k ∈ ns) → out.length ≤ ns.length → Q (.lst (out.map Dt.str)))
    (hst : starEach [a] X.env = (false, eval a X.env) :: starEach [] X.env := by rfl) (hst2 : starEach [.Call (.Name "set" q3) [a] [] q4] X.env = (false, eval (.Call (.Name "set" q3) [a] [] q4) X.env) :: starEach [] X.env := by rfl) : DN X ρ (.Call (.Name "sorted" q1) [.Call (.Name "set" q3) [a] [] q4] [] q2) Q :=
  ⟨fun H0 B σ H E => sem_of (pe_callB (cr_sortSetX hc) hg hm (by decide +kernel) (pa_cons (pe_callTy (cr_mkSetX hc) hg2 hm2 (by decide +kernel) (pa_cons pe_sem pa_nil hst) (he := hst)) pa_nil hst2) (he := hst2)) (h.go E fun B2 v d H2 g E2 r ⟨ns, ed, few, q⟩ => by
    subst ed
    cases r with
    | lst ha hx =>
      refine ⟨_, ns, rfl, by rw [← hx.strs]; exact ex_l E2.ex ha, by omega, fun t L ht le => ?_⟩
      have nd : L.Nodup := le.n
      have ln := le.l
      refine ⟨t, L, rfl, upd_same, by omega, nd, fun out p pm srt hp => ?_⟩
      have g2 : Gr B2 H2 B2 (upd H2 t (SetX X.w t L)) := Gr.more E2.ex (Ex.new ht)
      have hb := fresh_back g2.s hp
      have gg := g.trans g2
      exact ⟨B2, p, .lst (out.map Dt.str), ⟨gg.b, gg.h.trans (Ex.new hp), Ex.mut g2.s hb, gg.o⟩, rfl, fresh_back gg.h hp, hb, ⟨_, upd_same, rpl_strs out⟩, q out (pm.nodup_iff.mpr nd) srt (fun k => (pm.mem_iff).trans (le.m k)) (by rw [pm.length_eq]; exact ln)⟩)⟩
end
end Z
set_option Elab.async false
set_option linter.all false
set_option maxRecDepth 100000
set_option maxHeartbeats 4000000
/-! slices of tuples and lists by data; comparisons of known outcome -/
namespace Z
open PySem PySem.Spec PyProof.Rows L2 Y
open Evl (Ex st_of sq_of ex_l ex_t fresh_back sz_of sz_lt)
theorem cutD_dr {ds : List Dt} {n : Nat} : cutD ds (some (n : Int)) none = ds.drop n := by
  unfold cutD
  rw [show HT.sIx ds.length 0 (some (n : Int)) = min n ds.length from HT.sIx_nat _ 0 n, HT.sIx_none]
  by_cases h : n ≤ ds.length
  · rw [Nat.min_eq_left h]
    exact List.take_of_length_le (by rw [List.length_drop]; exact Nat.le_refl _)
  · rw [Nat.min_eq_right (by omega), List.drop_of_length_le (Nat.le_refl _), List.drop_of_length_le (by omega)]
    exact List.take_nil
theorem cutD_tk {ds : List Dt} {n : Nat} : cutD ds none (some (n : Int)) = ds.take n := by
  unfold cutD
  rw [show HT.sIx ds.length ds.length (some (n : Int)) = min n ds.length from HT.sIx_nat _ _ n, HT.sIx_none, List.drop_zero, Nat.sub_zero]
  by_cases h : n ≤ ds.length
  · rw [Nat.min_eq_left h]
  · rw [Nat.min_eq_right (by omega), List.take_of_length_le (Nat.le_refl _), List.take_of_length_le (by omega)]
theorem ord_v {f : Int → Int → Bool} {n m : Int} {b : Bool} {Q : Bool → Prop} (h : f n m = b) (q : Q b) : ordQ f (.int n) (.int m) Q := by
  show Q (f n m)
  rw [h]; exact q
theorem ord_f {f : Int → Int → Bool} {n m : Int} {A B : Prop} (h : f n m = false) (b : B) : ordQ f (.int n) (.int m) fun z => (z = true → A) ∧ (z = false → B) := by
  show _ ∧ _
  rw [h]; exact two_f b
theorem ord_t {f : Int → Int → Bool} {n m : Int} {A B : Prop} (h : f n m = true) (b : A) : ordQ f (.int n) (.int m) fun z => (z = true → A) ∧ (z = false → B) := by
  show _ ∧ _
  rw [h]; exact two_t b
section
variable {X : Cx} {ρ : List Sl} {a b c : Expr} {Q : Dt → Prop} {p1 p2 : Pos}
theorem d_drT (h : DE X ρ a fun x => ∃ ds, x = .tup ds ∧ DE X ρ b fun y => ∃ n : Nat, y = .int (n : Int) ∧ Q (.tup (ds.drop n))) : DE X ρ (.Subscript a (.Slice (some b) none none p2) p1) Q :=
  d_sl (h.weak fun x ⟨ds, ex, q⟩ => (show DE X ρ b _ from q.weak fun y ⟨n, ey, q⟩ => by
    subst ex ey
    show Q _
    rw [cutD_dr]; exact q))
theorem d_tkT (h : DE X ρ a fun x => ∃ ds, x = .tup ds ∧ DE X ρ b fun y => ∃ n : Nat, y = .int (n : Int) ∧ Q (.tup (ds.take n))) : DE X ρ (.Subscript a (.Slice none (some b) none p2) p1) Q :=
  d_sl (h.weak fun x ⟨ds, ex, q⟩ => (show DE X ρ b _ from q.weak fun y ⟨n, ey, q⟩ => by
    subst ex ey
    show Q _
    rw [cutD_tk]; exact q))
theorem n_drL (h : DE X ρ a fun x => ∃ ds, x = .lst ds ∧ DE X ρ b fun y => ∃ n : Nat, y = .int (n : Int) ∧ Q (.lst (ds.drop n))) : DN X ρ (.Subscript a (.Slice (some b) none none p2) p1) Q :=
  n_sl (h.weak fun x ⟨ds, ex, q⟩ => (show DE X ρ b _ from q.weak fun y ⟨n, ey, q⟩ => by
    subst ex ey
    show Q _
    rw [cutD_dr]; exact q))
theorem n_tkL (h : DE X ρ a fun x => ∃ ds, x = .lst ds ∧ DE X ρ b fun y => ∃ n : Nat, y = .int (n : Int) ∧ Q (.lst (ds.take n))) : DN X ρ (.Subscript a (.Slice none (some b) none p2) p1) Q :=
  n_sl (h.weak fun x ⟨ds, ex, q⟩ => (show DE X ρ b _ from q.weak fun y ⟨n, ey, q⟩ => by
    subst ex ey
    show Q _
    rw [cutD_tk]; exact q))
end
end Z
set_option Elab.async false
set_option linter.all false
set_option maxRecDepth 100000
set_option maxHeartbeats 4000000
/-! own defs by position and by name; a law, by data from its first row on; calls without arguments -/
namespace Z
open PySem PySem.Spec PyProof.Rows L2 Y
open Evl (Ex st_of sq_of ex_l ex_t fresh_back sz_of sz_lt)
section
variable {P : Program} {w : World} {K : PySem.W.Frag} {mg : Str → Option Value} {base : Heap} {nm : Str} {ps qs N : List Str} {ix : List Nat} {k : Nat} {st : Stmt} {S : List Dt → (Dt → Prop) → Prop}
theorem ownDB (D : Def K mg nm st) (Sc : FnScope N ps (defScope st)) (mono : ∀ ds (Q Q' : Dt → Prop), (∀ d, Q d → Q' d) → S ds Q → S ds Q') (hlen : ∀ ds Q, S ds Q → ds.length = ps.length)
    (hb : ∀ (kV doc pm : Value) (an : Option Addr) (cdv ct : Value) (us : List Value), us.length = ps.length → bindArgs (PySem.W.fnOf nm nm (defArgs st) (defBody st) (defScope st) .none kV doc pm an cdv ct) ⟨us, []⟩ = pure (ps.zip us))
    (hbK : ∀ (kV doc pm : Value) (an : Option Addr) (cdv ct : Value) (us : List Value), us.length = qs.length → bindArgs (PySem.W.fnOf nm nm (defArgs st) (defBody st) (defScope st) .none kV doc pm an cdv ct) ⟨[], qs.zip us⟩ = pure (ps.zip (at_ ix us)))
    (hbody : ∀ (X : Cx) (ds : List Dt) (Q : Dt → Prop), (∃ (f : Addr) (cdv : Value) (A : Around) (outer : List Env) (s : Shared) (H : Hp) (E : XK), X = (cxOf CX0 P w K mg base N nm (defScope st) f cdv A outer s H E).nox) → Room k X.A → S ds Q → DS X (startD N ds) (defBody st) { nx := fun _ => Q .non, rt := Q }) :
    OwnD P w K mg base nm ps (k + 1) S ∧ OwnDK P w K mg base nm ps qs ix (k + 1) S := by
  obtain ⟨a, b⟩ := Def.both (P := P) (w := w) (base := base) (lv := k + 1) (sp := spD K S) (ps := ps) (qs := qs) (ix := ix) D (fun f fd F => (fun_own (sp := spD K S) (ps := ps) (k := k) F Sc (fun vs H Q E h => by
    obtain ⟨B, ds, _, r, h⟩ := h
    rw [r.len]; exact hlen _ _ h) hb (by
    rintro X H vs Q E ⟨f, cdv, A, outer, s, rfl⟩ hr h
    obtain ⟨B, ds, e, r, h⟩ := h
    refine ⟨fun H1 e1 => ?_⟩
    exact (hbody _ ds _ ⟨f, cdv, A, outer, s, H, E, rfl⟩ hr h).run H1 B B _ H1 _ (Gr.refl (e.trans e1)) (en_start (e.trans e1) r) ⟨fun ρ B2 σ H2 q g E => q B2 .non H2 (Gr.back e1 g) .non, fun d B2 v H2 q g r => q B2 v H2 (Gr.back e1 g) r, fun _ _ _ _ q => q.elim, fun _ _ _ _ q => q.elim, fun _ _ _ _ q => q.elim, fun _ _ _ _ _ q => q.elim⟩)).1) hb hbK
  exact ⟨⟨a, mono⟩, ⟨b, mono⟩⟩
/-- what a law is asked -/
def spLaw (K : PySem.W.Frag) : Sp := fun vs H Q _ => ∃ (a : Addr) (ns : List Int), vs = [.ref a] ∧ SqL K H a (ns.map V.int) ∧ ns.length ≤ 63 ∧ ∀ H', Ex H H' → Q (.bl true) H'
/-- a law, by data -/
theorem law_D {lf : Addr} {fd : FuncData} (F : Fun K "law" "law" st lf fd) (Sc : FnScope N ["_law_script"] (defScope st))
    (hbody : ∀ (X : Cx) (ns : List Int), (∃ (f : Addr) (cdv : Value) (A : Around) (outer : List Env) (s : Shared) (H : Hp) (E : XK), X = (cxOf CX0 P w K mg base N "law" (defScope st) f cdv A outer s H E).nox) → X.A.guards = some [] → Room k X.A → ns.length ≤ 63 →
      DS X (startD N [.lst (ns.map Dt.int)]) (defBody st) { nx := fun _ => False, rt := fun d => d = .bl true }) : FnG P w K mg base (k + 1) lf fd ["_law_script"] (spLaw K) := by
  refine fun_G (sp := spLaw K) (ps := ["_law_script"]) (k := k) F Sc (fun vs H Q E h => ?_) ?_
  · obtain ⟨a, ns, rfl, _⟩ := h
    rfl
  · rintro X H vs Q E ⟨f, cdv, A, outer, st', rfl⟩ hgu hr h
    obtain ⟨sa, ns, rfl, hx, hz, q⟩ := h
    refine ⟨fun H1 e1 => ?_⟩
    refine (hbody _ ns ⟨f, cdv, A, outer, st', H, E, rfl⟩ hgu hr hz).run H1 H1 H1 _ H1 _ (Gr.refl (Ex.refl _)) (en_start (Ex.refl _) (.cons (.lst (ex_l e1 hx) (rpl_ints ns)) .nil)) ⟨fun ρ B2 σ H2 q g E => q.elim, fun d B2 v H2 qd g r => ?_, fun _ _ _ _ q => q.elim, fun _ _ _ _ q => q.elim, fun _ _ _ _ q => q.elim, fun _ _ _ _ _ q => q.elim⟩
    subst qd
    cases r
    exact q H2 (e1.trans g.h)
end
section
variable {X : Cx} {ρ : List Sl} {Q : Dt → Prop} {q1 q2 : Pos} {nm : Str} {lv : Nat} {S : List Dt → (Dt → Prop) → Prop}
/-- a call without arguments -/
theorem d_own0 (O : OwnD X.prog X.w X.K X.mg X.base nm [] lv S) (hr : Room lv X.A) (hg : Gl X nm) (h : S [] Q) (hdb : (nm == ("__debug__" : Str)) = false := by decide) : DE X ρ (.Call (.Name nm q1) [] [] q2) Q := by
  obtain ⟨g, fd, F, hk, hb, hm⟩ := O.own.ex
  exact ⟨fun H0 B σ H E => sem_of (pe_call0 F hr hg hm hk hb .nil pass0 hdb) (by exact ⟨B, [], E.ex, .nil, O.mono _ _ _ (fun d q B3 v H3 g3 r => ⟨B3, d, g3, r, q⟩) h⟩)⟩
end
end Z
set_option Elab.async false
set_option linter.all false
set_option maxRecDepth 100000
set_option maxHeartbeats 4000000
/-! x, y = a, b: the one frozen, the other new -/
namespace Z
open PySem PySem.Spec PyProof.Rows L2 Y
open Evl (Ex st_of sq_of ex_l ex_t fresh_back sz_of sz_lt)
section
variable {X : Cx} {ρ : List Sl} {a b : Expr} {rest : List Stmt} {E : DEnds} {x y : Str} {pos px py pt pt2 : Pos}
theorem s_parFO {kt k2 : Nat} (i j : Nat) (h : DE X ρ a fun d1 => DN X ρ b fun d2 => DS X ((ρ.set i (.fr d1)).set j (.ow d2)) rest E) (hc : X.calm = true) (hN : X.N.Nodup) (hij : i ≠ j) (hi : X.N[i]? = some x := by rfl) (hj : X.N[j]? = some y := by rfl)
    (hx : X.env.scope.names.lookup x = some .local := by rfl) (hy : X.env.scope.names.lookup y = some .local := by rfl)
    (hw : swappedStores [.Tuple [.Name x px, .Name y py] kt pt] (.Tuple [a, b] k2 pt2) X.env = pure (some [x, y]) := by rfl) (hs : swapsWithSole [.Tuple [.Name x px, .Name y py] kt pt] (.Tuple [a, b] k2 pt2) pos.line X.env = pure false := by rfl)
    (he : starEach [a, b] X.env = (false, eval a X.env) :: starEach [b] X.env := by rfl) (he2 : starEach [b] X.env = (false, eval b X.env) :: starEach [] X.env := by rfl) :
    DS X ρ (.Assign [.Tuple [.Name x px, .Name y py] kt pt] (.Tuple [a, b] k2 pt2) pos :: rest) E :=
  ⟨fun H0 B0 B σ H D g En => fun L => semS_of (pss_cons (ps_par hc hN hi hj hij hx hy (pa_cons pe_sem (pa_cons pe_sem pa_nil he2) he) hw hs) pss_sem) (h.go En fun B2 v1 d1 H2 g2 E2 r1 q1 => q1.go E2 fun B3 p2 d2 H3 g3 E3 hp2 hb2 o2 q2 => ⟨_, _, rfl, by
    have E4 := E3.set (i := i) (r1.ex g3.b)
    refine q2.run H0 B0 B3 _ H3 D ((g.trans g2).trans g3) (E4.setO hb2 (fresh_back (g.trans g2).h hp2) o2 fun k d z1 z2 => ?_) L
    by_cases z : i = k
    · subst z
      by_cases hl : i < ρ.length
      · rw [List.getElem?_set_self hl] at z1; cases z1
      · rw [List.getElem?_eq_none (by rw [List.length_set]; omega)] at z1; cases z1
    · rw [List.getElem?_set_ne z] at z1 z2
      exact Z.En.noSlot (i := j) E2 hp2 k d z1 z2⟩)⟩
end
end Z
set_option Elab.async false
set_option linter.all false
set_option maxRecDepth 100000
set_option maxHeartbeats 4000000
/-! sorted(pairs of a text and a number): a new list of the same pairs, by their texts; by data -/
namespace Z
open PySem PySem.Spec PyProof.Rows L2 Evl Y
/-- a pair of a text and a number, in the heap -/
def IsTI (h : Heap) (v : Value) (k : Str × Int) : Prop := ∃ (a : Addr) (o : Obj) (t u : Tok) (n : Nat), v = .ref a ∧ h.get? a = some o ∧ o.cls = .type "tuple" ∧ o.data = .seq #[.str k.1 t, .int k.2 u] n
def shTI : Nat → Bool := fun i => i == 0
theorem IsTI.key {h : Heap} {v : Value} {k : Str × Int} (e : IsTI h v k) : PyProof.Rows.G.tupKeyC h shTI v = some [Sum.inr k.1.cps.toList, Sum.inl k.2] := by
  obtain ⟨a, o, t, u, n, rfl, ho, hc, hd⟩ := e
  exact PyProof.Rows.G.tupKeyC_of ho hc hd rfl
theorem IsTI.tups {h : Heap} {k : Value → Str × Int} : ∀ {vs : List Value}, (∀ v ∈ vs, IsTI h v (k v)) → ∃ fs, TupsOf h shTI vs fs
  | [], _ => ⟨[], .nil⟩
  | v :: vs, e => by
    obtain ⟨fs, hf⟩ := IsTI.tups (vs := vs) fun x hx => e x (List.mem_cons_of_mem _ hx)
    obtain ⟨a, o, t, u, n, ev, ho, hc, hd⟩ := e v List.mem_cons_self
    exact ⟨_ :: fs, .cons ⟨a, o, _, n, ev, ho, hc, hd, rfl, fun z => by simp [shTI] at z, fun _ => ⟨_, _, rfl⟩⟩ hf⟩
section
variable {prog : Program} {w : World} {A : Around} {E : Value → Shared → Prop} {s : Shared}
theorem sorted_TI {l : Addr} {vs : List Value} {k : Value → Str × Int} {Q : Value → Shared → Prop} (hl : s.heap.IsList l vs.toArray) (hz : vs.length ≤ sizeLine) (hp : ∀ v ∈ vs, IsTI s.heap v (k v))
    (h : ∀ (h' : Heap) (d : Addr) (out : List Value), out.Pairwise (fun v u => ltB (k u).1 (k v).1 = false) → out.Perm vs → (∀ b o, s.heap.get? b = some o → h'.get? b = some o) → s.heap.objs.size ≤ d → (∃ n, h'.get? d = some (seqObj "list" out.toArray n)) → Q (.ref d) { s with heap := h' }) :
    wpAny (model prog w) A (call (.builtin "sorted") [.ref l]) Q E s := by
  obtain ⟨fs, ht⟩ := IsTI.tups hp
  refine PyProof.Rows.G.sorted_tups hl ht (fun v hv => ⟨_, (hp v hv).key⟩) hz fun st' pm hs _ => ?_
  have hl2 : (arrOf st').toList.Perm (vs.zip vs) := by rw [← pairsOf_toList]; exact Array.perm_iff_toList_perm.mp pm
  have e2 : ((arrOf st').map (·.2)) = ((arrOf st').toList.map (·.2)).toArray := by apply Array.ext'; simp
  rw [e2]
  refine h _ _ ((arrOf st').toList.map (·.2)) ?_ ?_ (fun b o e => sortedAll_old e) (Nat.le_succ _) (sortedAll_at s.heap vs _)
  · rw [List.pairwise_map, List.pairwise_iff_getElem]
    intro i j hi hj hij
    have hi' : i < (arrOf st').size := by simpa using hi
    have hj' : j < (arrOf st').size := by simpa using hj
    have h1 := hs i j (Nat.le_of_lt hij) (by rw [← pm.size_eq]; exact hj')
    obtain ⟨a1, a2⟩ := mem_zip_self (hl2.mem_iff.mp (show (arrOf st').toList[i] ∈ (arrOf st').toList from List.getElem_mem _))
    obtain ⟨b1, b2⟩ := mem_zip_self (hl2.mem_iff.mp (show (arrOf st').toList[j] ∈ (arrOf st').toList from List.getElem_mem _))
    have k1 : KK (PyProof.Rows.G.tupKindC s.heap shTI) (arrOf st') i = [Sum.inr (k (arrOf st').toList[i].2).1.cps.toList, Sum.inl (k (arrOf st').toList[i].2).2] := by
      unfold KK
      rw [getElem?_pos (arrOf st') i hi']
      have := (hp _ a2).key
      rw [Array.getElem_toList] at this a1 ⊢
      show (PyProof.Rows.G.tupKeyC s.heap shTI (arrOf st')[i].1).getD [] = _
      rw [this, ← a1]; rfl
    have k2 : KK (PyProof.Rows.G.tupKindC s.heap shTI) (arrOf st') j = [Sum.inr (k (arrOf st').toList[j].2).1.cps.toList, Sum.inl (k (arrOf st').toList[j].2).2] := by
      unfold KK
      rw [getElem?_pos (arrOf st') j hj']
      have := (hp _ b2).key
      rw [Array.getElem_toList] at this b1 ⊢
      show (PyProof.Rows.G.tupKeyC s.heap shTI (arrOf st')[j].1).getD [] = _
      rw [this, ← b1]; rfl
    rw [k1, k2] at h1
    exact (lex_false (O := itemOrd).mp (show lexLt itemOrd _ _ = false from h1)).1
  · have := hl2.map (·.2)
    rwa [List.map_snd_zip (Nat.le_refl _)] at this
end
abbrev pTI (p : Str × Int) : Dt := .tup [.str p.1, .int p.2]
open Classical in
noncomputable def keyTI (K : PySem.W.Frag) (H : Hp) (v : V) : Str × Int := if h : ∃ p : Str × Int, ∃ t, v = .ref t ∧ SqT K H t [.str p.1, .int p.2] then Classical.choose h else ("", 0)
theorem rpl_TI {K : PySem.W.Frag} {H : Hp} : ∀ {xs : List V} {ps : List (Str × Int)}, RpL K H xs (ps.map pTI) → ∀ x ∈ xs, ∃ (t : Addr) (p : Str × Int), x = V.ref t ∧ SqT K H t [.str p.1, .int p.2]
  | _, [], h => by cases h; exact fun _ z => (nomatch z)
  | _, p :: ps, h => by
    rw [List.map_cons] at h
    cases h with
    | cons r t =>
      intro x hx
      rcases List.mem_cons.mp hx with rfl | hx
      · cases r with
        | tup a b =>
          cases b with
          | cons b1 b2 =>
            cases b1
            cases b2 with
            | cons c1 c2 =>
              cases c1
              cases c2
              exact ⟨_, p, rfl, a⟩
      · exact rpl_TI t x hx
theorem keyTI_sp {K : PySem.W.Frag} {H : Hp} {v : V} (h : ∃ (t : Addr) (p : Str × Int), v = V.ref t ∧ SqT K H t [.str p.1, .int p.2]) : ∃ t, v = V.ref t ∧ SqT K H t [.str (keyTI K H v).1, .int (keyTI K H v).2] := by
  obtain ⟨t, p, e, q⟩ := h
  have hx : ∃ p : Str × Int, ∃ t', v = .ref t' ∧ SqT K H t' [.str p.1, .int p.2] := ⟨p, t, e, q⟩
  unfold keyTI
  rw [dif_pos hx]
  exact Classical.choose_spec hx
theorem rpl_keys {K : PySem.W.Frag} {H : Hp} : ∀ {ys : List V}, (∀ x ∈ ys, ∃ (t : Addr) (p : Str × Int), x = V.ref t ∧ SqT K H t [.str p.1, .int p.2]) → RpL K H ys ((ys.map (keyTI K H)).map pTI)
  | [], _ => .nil
  | y :: ys, h => by
    obtain ⟨t, e, q⟩ := keyTI_sp (h y List.mem_cons_self)
    rw [List.map_cons, List.map_cons]
    refine .cons ?_ (rpl_keys fun x hx => h x (List.mem_cons_of_mem _ hx))
    rw [e] at q ⊢
    exact .tup q (.cons (.str _) (.cons (.int _) .nil))
/-- sorted(xs), xs a list of pairs of a text and a number -/
def rSortedTI (K : PySem.W.Frag) : List V → Hp → VK → Prop := fun vs H Q => ∃ (a : Addr) (xs : List V) (ps : List (Str × Int)), vs = [V.ref a] ∧ SqL K H a xs ∧ RpL K H xs (ps.map pTI) ∧
  ∀ (ys : List V) (ps' : List (Str × Int)) (p : Addr), RpL K H ys (ps'.map pTI) → ps'.Perm ps → ps'.Pairwise (fun v u => ltB u.1 v.1 = false) → H p = none → Q (.ref p) (upd H p (.lst ys))
section
variable {X : Cx}
theorem keys_eq {pins : List (Addr × Obj)} {σ : L2.St} {H : Hp} {s : Shared} (I : Inv X pins σ H s) : ∀ {xs : List V} {ps : List (Str × Int)}, RpL X.K H xs (ps.map pTI) → xs.map (keyTI X.K H) = ps
  | _, [], h => by cases h; rfl
  | _, p :: ps, h => by
    have h0 := rpl_TI h
    rw [List.map_cons] at h
    cases h with
    | cons r t =>
      rw [List.map_cons, keys_eq I t]
      congr 1
      cases r with
      | tup a b =>
        cases b with
        | cons b1 b2 =>
          cases b1
          cases b2 with
          | cons c1 c2 =>
            cases c1
            cases c2
            obtain ⟨t', e, q⟩ := keyTI_sp (h0 _ List.mem_cons_self)
            cases e
            have := I.tuple_inj q a
            simp only [List.cons.injEq, V.str.injEq, V.int.injEq, and_true] at this
            exact Prod.ext this.1 this.2
theorem cr_sortedTI : CallR X (.builtin "sorted") (rSortedTI X.K) := by
  intro pins s σ H vs us Q I r h
  obtain ⟨a, xs, ps, rfl, hs, hx, q⟩ := h
  obtain ⟨its, rv, hl, hz⟩ := I.list hs
  obtain ⟨u, rfl, ru⟩ := vals1 r
  obtain rfl : u = Value.ref a := ru
  have hx2 := rpl_TI hx
  obtain ⟨e1, e2⟩ := refs_back rv fun x m => by
    obtain ⟨t, _, e, _⟩ := hx2 x m
    exact ⟨t, e⟩
  refine sorted_TI (k := fun u => keyTI X.K H (backV u)) hl.isList (by rw [← rv.length]; exact hz) (fun v hv => ?_) fun h' d out h1 h2 kp hd hn => ?_
  · obtain ⟨t, rfl⟩ := e2 v hv
    have hm : V.ref t ∈ xs := by rw [e1]; exact List.mem_map.mpr ⟨_, hv, rfl⟩
    obtain ⟨t', e, ht⟩ := keyTI_sp (hx2 _ hm)
    cases e
    obtain ⟨its2, r2, ⟨o, ho, hc, n, hd⟩, _⟩ := I.tuple ht
    obtain ⟨u1, u2, rfl, ri, rj⟩ := vals2 r2
    obtain ⟨t1, rfl⟩ := ri
    obtain ⟨t2, rfl⟩ := rj
    exact ⟨t, o, t1, t2, n, rfl, ho, hc, hd⟩
  · have h3 : ∀ u ∈ out, ∃ a, u = Value.ref a := fun u hu => e2 u (h2.mem_iff.mp hu)
    obtain ⟨n, hn⟩ := hn
    have hb : (out.map backV).Perm xs := by
      rw [e1]
      exact h2.map backV
    refine ⟨.ref d, upd H d (.lst (out.map backV)), I.laid (t' := s.toks) kp hd ⟨?_, out, n, vals_back h3, hn⟩, rfl, q _ ((out.map backV).map (keyTI X.K H)) d (rpl_keys fun x hx => hx2 x (hb.mem_iff.mp hx)) ?_ (List.pairwise_map.mpr (List.pairwise_map.mpr h1)) (I.hok.fresh hd)⟩
    · rw [hb.length_eq]
      exact hz
    · rw [← keys_eq I hx]; exact hb.map _
variable {ρ : List Sl} {a : Expr} {Q : Dt → Prop} {q1 q2 : Pos}
/-- sorted(pairs of a text and a number) -/
theorem n_sortTI (hg : Gl X "sorted") (hm : X.mg "sorted" = none) (h : DE X ρ a fun d => ∃ ps : List (Str × Int), d = .lst (ps.map pTI) ∧ ∀ ps' : List (Str × Int), ps'.Perm ps → ps'.Pairwise (fun v u => ltB u.1 v.1 = false) → Q (.lst (ps'.map pTI))) (hst : starEach [a] X.env = (false, eval a X.env) :: starEach [] X.env := by rfl) : DN X ρ (.Call (.Name "sorted" q1) [a] [] q2) Q :=
  ⟨fun H0 B σ H E => sem_of (pe_callB cr_sortedTI hg hm (by decide +kernel) (pa_cons pe_sem pa_nil hst) (he := hst)) (h.go E fun B2 v d H2 g E2 r ⟨ps, ed, q⟩ => by
    subst ed
    cases r with
    | lst ha hx =>
      rename_i p0 xs
      refine ⟨_, xs, ps, rfl, ex_l E2.ex ha, hx.ex E2.ex, fun ys ps' p ry hpm hpw hp => ?_⟩
      have hb := fresh_back E2.ex hp
      have g2 := Gr.tups E2.ex
      have hW : RpL X.K (wT B2 H2) ys (ps'.map pTI) := ry.flat wT_t (by
        generalize ps' = zs
        induction zs with
        | nil => rfl
        | cons z zs ih => rw [List.map_cons]; show (imm (pTI z) && immL (zs.map pTI)) = true; rw [ih]; rfl)
      have gg := g.trans g2
      have hbw : wT B2 H2 p = none := fresh_back g2.s hp
      exact ⟨wT B2 H2, p, .lst (ps'.map pTI), ⟨gg.b, gg.h.trans (Ex.new hp), Ex.mut g2.s hbw, gg.o⟩, rfl, fresh_back gg.h hp, hbw, ⟨_, upd_same, hW⟩, q _ hpm hpw⟩)⟩
end
end Z
set_option Elab.async false
set_option linter.all false
set_option maxRecDepth 100000
set_option maxHeartbeats 4000000
/-! tuples that have no dict: made, read as pairs by dict(); list * int; int(truth); three names at once, the first one's own; by data -/
namespace Y
open PySem PySem.Spec PyProof.Rows L2
section
variable {X : Cx} {es : List Expr} {t : TA} {pos : Pos}
def tTupZ (t : TA) : TE := fun σ H Q => t σ H fun xs H1 => xs.length ≤ sizeLine ∧ ∀ p o, H1 p = none → o.dict = none → Q (.ref p) (upd H1 p (.frz o (.tup xs)))
theorem pe_tupZ {x1} (h : PA X es t) : PE X (.Tuple es x1 pos) (tTupZ t) := by
  refine ⟨fun pins s σ H Q I hq => ?_⟩
  refine wpAny_Tuple_spliced (thn (h.run pos pins s σ H _ I hq) fun us s1 ⟨xs, H1, I1, r, z, q⟩ => ⟨by rw [← r.length]; exact z, ?_⟩)
  have hf : H1 s1.heap.objs.size = none := I1.hok.fresh (Nat.le_refl _)
  refine ⟨.ref s1.heap.objs.size, upd H1 s1.heap.objs.size (.frz { cls := .type "tuple", data := .seq us.toArray } (.tup xs)), I1.laid (t' := s1.toks) (fun b u e => Heap.get?_push_of_some _ e) (Nat.le_refl _) ?_, rfl, q _ _ hf rfl⟩
  exact ⟨Heap.get?_push_size _ rfl, z, us, r, ⟨_, Heap.get?_push_size _ rfl, rfl, _, rfl⟩⟩
theorem call_tupleZ : CallR X (.type "tuple") (fun xs H Q => ∃ p ys, xs = [.ref p] ∧ SqL X.K H p ys ∧ ∀ l o, H l = none → o.dict = none → Q (.ref l) (upd H l (.frz o (.tup ys)))) := by
  intro pins s σ H xs us Q I r h
  obtain ⟨p, ys, rfl, hq, q⟩ := h
  obtain ⟨u, rfl, rx⟩ := vals1 r
  cases rx
  obtain ⟨its, r', pl, hz⟩ := I.list hq
  have hlen := r'.length
  refine call_tuple_list pl.isList (fun h' kp => ?_) (by simp only [List.size_toArray] <;> omega)
  have I1 : Inv X pins σ H { s with heap := h' } := I.kept (t' := s.toks) kp
  have I2 : Inv X pins σ (upd H h'.objs.size (.frz { cls := .type "tuple", data := .seq its.toArray } (.tup ys))) { s with heap := h'.push { cls := .type "tuple", data := .seq its.toArray } } :=
    I1.laid (t' := s.toks) (fun b o e => Heap.get?_push_of_some _ e) (Nat.le_refl _) ⟨Heap.get?_push_size _ rfl, hz, its, r', IsTup.new _ _⟩
  exact ⟨.ref h'.objs.size, _, I2, rfl, q _ _ (I1.hok.fresh (Nat.le_refl _)) rfl⟩
theorem choose_list {α β : Type} {R : Nat → α → β → Prop} : ∀ (l : List α) (n : Nat), (∀ j q, l[j]? = some q → ∃ x, R (n + j) q x) → ∃ xs : List β, xs.length = l.length ∧ ∀ j q, l[j]? = some q → ∃ x, xs[j]? = some x ∧ R (n + j) q x
  | [], n, _ => ⟨[], rfl, fun j q e => by simp at e⟩
  | a :: l, n, h => by
    obtain ⟨x, hx⟩ := h 0 a rfl
    obtain ⟨xs, hl, hr⟩ := choose_list l (n + 1) fun j q e => by
      have := h (j + 1) q (by simpa using e)
      rwa [show n + (j + 1) = n + 1 + j by omega] at this
    refine ⟨x :: xs, by simp [hl], fun j q e => ?_⟩
    cases j with
    | zero => cases (show a = q from Option.some.inj e); exact ⟨x, rfl, hx⟩
    | succ j =>
      obtain ⟨y, hy, ry⟩ := hr j q (by simpa using e)
      exact ⟨y, by simpa using hy, by rwa [show n + (j + 1) = n + 1 + j by omega]⟩
/-- dict(t), t a tuple of pairs that has no dict -/
theorem call_dictZ (hcalm : X.calm = true) : CallR X (.type "dict") (fun xs H Q => ∃ (a : Addr) (o : Obj) (ps : List Addr) (kvs : List (Key × V)), xs = [.ref a] ∧ H a = some (.frz o (.tup (ps.map V.ref))) ∧ o.dict = none ∧ Paired (fun p kv => SqT X.K H p [kV kv.1, kv.2]) ps kvs ∧
    ∀ p, H p = none → Q (.ref p) (upd H p (.dK (mergeK [] kvs)))) := by
  intro pins s σ H xs us Q I r q
  obtain ⟨a, o, ps, kvs, ex, hq, hd, hp, q⟩ := q
  subst ex
  obtain ⟨u, eu, rx⟩ := vals1 r
  subst eu
  cases rx
  obtain ⟨ho, hz, its, rv, o', ho', hc', n, hdat'⟩ := (show s.heap.get? a = some o ∧ _ from I.hok _ _ hq)
  rw [ho] at ho'
  cases ho'
  have ei := refs_at rv
  subst ei
  rw [List.length_map] at hz
  obtain ⟨prs, rel, hl, hpr⟩ := pairs_of I hp
  obtain ⟨ks, hks, hk⟩ := choose_list (R := fun j (q : Key × Value) (u : Value) => ∃ b : Addr, ps[j]? = some b ∧ IsTup s.heap b #[u, q.2] ∧ keyIs q.1 u = true) prs 0 fun j q e => by
    obtain ⟨b, u, e1, e2, e3⟩ := hpr j q e
    exact ⟨u, b, by rw [Nat.zero_add]; exact e1, e2, e3⟩
  have hh := I.ok.hd hcalm
  have pvl : (ks.zip (prs.map (·.2))).length = ps.length := by rw [List.length_zip, List.length_map, hks, hl]; omega
  have pva : ∀ j k v, (ks.zip (prs.map (·.2)))[j]? = some (k, v) → ∃ kk b, prs[j]? = some (kk, v) ∧ ps[j]? = some b ∧ IsTup s.heap b #[k, v] ∧ keyIs kk k = true := fun j k v e => by
    rw [List.getElem?_zip_eq_some] at e
    obtain ⟨e1, e2⟩ := e
    rw [List.getElem?_map] at e2
    obtain ⟨q', hq', ev⟩ := Option.map_eq_some_iff.mp e2
    obtain ⟨x, hx, b, hb, ht, hi⟩ := hk j q' hq'
    rw [Nat.zero_add] at hb
    rw [e1] at hx
    cases hx
    subst ev
    exact ⟨q'.1, b, hq', hb, ht, hi⟩
  refine PySem.call_dict_pairs (knd := mixKind X.prog X.w) (kvs := prs) (PairArg.tuple a (ps.map Value.ref).toArray (fun j => ps.getD j 0) (ks.zip (prs.map (·.2)))) hh ⟨⟨o, n, ho, hc', hd, hdat'⟩, by rw [pvl]; simp, fun j k v e => ?_⟩ ⟨by rw [pvl, hl], fun i key v e => ?_⟩ (by rw [pvl]; exact hz) fun h' tk hd' k => ?_
  · obtain ⟨kk, b, e1, e2, e3, e4⟩ := pva j k v e
    have eb : ps.getD j 0 = b := by rw [List.getD_eq_getElem?_getD, e2]; rfl
    refine ⟨?_, ?_⟩
    · show (List.map Value.ref ps).toArray[j]? = some (.ref (ps.getD j 0))
      rw [eb]; simp [e2]
    · show PairAt s.heap (ps.getD j 0) k v
      rw [eb]; exact .inl e3
  · obtain ⟨kk, b, e1, e2, e3, e4⟩ := pva i key v e
    exact ⟨kk, e1, e4⟩
  · have hm : (s.heap.objs.size == sysModules) = false := beq_eq_false_iff_ne.mpr (Nat.ne_of_gt I.big)
    have hlen : (mergeK [] kvs).length ≤ sizeLine := by
      refine Nat.le_trans (length_mergeK kvs []) ?_
      rw [List.length_nil, Nat.zero_add, rel.length, hl]
      exact hz
    exact ⟨.ref s.heap.objs.size, upd H s.heap.objs.size (.dK (mergeK [] kvs)), I.laid (t' := tk) (fun b o e => k b o (by simp) e) (Nat.le_refl _) (show ObjOk X.prog X.w _ _ _ (.dK (mergeK [] kvs)) from ⟨hlen, hm, merged [] prs, KV.merge rel .nil, hd'⟩), rfl, q _ (I.hok.fresh (Nat.le_refl _))⟩
end
end Y
namespace Z
open PySem PySem.Spec PyProof.Rows L2 Evl Y
section
variable {X : Cx} {ρ : List Sl} {e a b c o : Expr} {es : List Expr} {Q Q' : Dt → Prop} {σ : L2.St} {d : Dt} {pos p1 p2 p3 q1 q2 px py pz pt : Pos} {rest : List Stmt} {E : DEnds}
theorem Rp.dz {K : PySem.W.Frag} {B : Hp} {v : V} {ds : List Dt} (h : Rp K B v (.tz ds)) : Rp K B v (.tup ds) := by
  cases h with
  | tz a b => exact .tup a.st b
/-- a tuple that has no dict, as a tuple -/
theorem d_dz (h : DE X ρ e fun d => ∃ ds, d = .tz ds ∧ Q (.tup ds)) : DE X ρ e Q := ⟨fun H0 B σ H E => h.go E fun B2 v d H2 g E2 r ⟨ds, ed, q⟩ => by subst ed; exact ⟨B2, _, g, r.dz, q⟩⟩
theorem toP_dz {ds : List Dt} : toP (.tz ds) = toP (.tup ds) := by rw [toP_tz, toP_tup]
/-- a tuple displayed: it has no dict -/
theorem d_tupZ {x1} (h : DL X ρ es fun ds => ds.length ≤ 100000 ∧ Q (.tz ds)) : DE X ρ (.Tuple es x1 pos) Q :=
  ⟨fun H0 B σ H E => sem_of (pe_tupZ pa_sem) (h.go E fun B2 vs ds H2 g E2 rs q => ⟨sz_of (by rw [rs.len]; exact q.1), fun p o hp ho => ⟨_, _, g.trans (Gr.new E2.ex hp), .tz ⟨o, upd_same, ho⟩ (rs.ex (Gr.new E2.ex hp).b), q.2⟩⟩)⟩
/-- tuple(a list) -/
theorem d_tupleZ (hg : Gl X "tuple") (hm : X.mg "tuple" = none) (h : DE X ρ a fun d => ∃ ds, d = .lst ds ∧ Q (.tz ds)) (hst : starEach [a] X.env = (false, eval a X.env) :: starEach [] X.env := by rfl) : DE X ρ (.Call (.Name "tuple" q1) [a] [] q2) Q :=
  ⟨fun H0 B σ H E => sem_of (pe_callTy call_tupleZ hg hm (by decide +kernel) (pa_cons pe_sem pa_nil hst) (he := hst)) (h.go E fun B2 v d H2 g E2 r ⟨ds, ed, q⟩ => by
    subst ed
    cases r with
    | lst ha hx =>
      refine ⟨_, _, rfl, ex_l E2.ex ha, fun p o hp ho => ?_⟩
      exact ⟨_, _, g.trans (Gr.new E2.ex hp), .tz ⟨o, upd_same, ho⟩ (hx.ex (Gr.new E2.ex hp).b), q⟩)⟩
/-- dict(t) of a tuple of pairs that has no dict -/
theorem n_dictZ (hc : X.calm = true) (hg : Gl X "dict") (hm : X.mg "dict" = none) (h : DE X ρ a fun d => ∃ kvs, d = .tz (kvs.map fun kv => .tup [keyDt kv.1, kv.2]) ∧ (kvs.map (·.1)).Nodup ∧ Q (.dic kvs)) (hst : starEach [a] X.env = (false, eval a X.env) :: starEach [] X.env := by rfl) : DN X ρ (.Call (.Name "dict" q1) [a] [] q2) Q :=
  ⟨fun H0 B σ H E => sem_of (pe_callTy (call_dictZ hc) hg hm (by decide +kernel) (pa_cons pe_sem pa_nil hst) (he := hst)) (h.go E fun B2 v d H2 g E2 r q => by
    obtain ⟨kvs, hd, hnd, q⟩ := q
    subst hd
    cases r with
    | tz ha hx =>
      obtain ⟨ob, ha, hdn⟩ := ha
      obtain ⟨ps, ys, ev, hp, hr⟩ := hx.pairs
      subst ev
      have hp' : Paired (fun p kv => SqT X.K H2 p [kV kv.1, kv.2]) ps ys := by
        clear ha hr hx
        induction hp with
        | nil => exact .nil
        | cons h t ih => exact .cons (ex_t E2.ex h) ih
      refine ⟨_, ob, ps, ys, rfl, E2.ex _ _ ha, hdn, hp', fun l hl => ?_⟩
      have hb := fresh_back E2.ex hl
      rw [mergeK_new ys [] (by rw [List.nil_append, hr.keys]; exact hnd), List.nil_append]
      exact ⟨B2, l, .dic kvs, ⟨g.b, g.h.trans (Ex.new hl), Ex.mut E2.ex hb, g.o⟩, rfl, fresh_back g.h hl, hb, ⟨_, upd_same, hr⟩, q⟩)⟩
/-- list * int -/
theorem n_repL (h : DW1 X ρ a fun d1 => DE X ρ b fun d2 => ∃ xs k, d1 = .lst xs ∧ d2 = .int k ∧ (-1000 ≤ k ∧ k ≤ 1000) ∧ xs.length ≤ 1000 ∧ Q (.lst (List.replicate k.toNat xs).flatten)) : DN X ρ (.BinOp a .Mult b pos) Q :=
  ⟨fun H0 B σ H E => sem_of (pe_op op_rep pe_sem pe_sem) (h.go E fun B2 p d H2 g E2 od q => q.go E2 fun B3 v' d' H3 g3 E3 r3 ⟨xs, k, ed, ed', ⟨k0, k1⟩, hl, qq⟩ => by
    subst ed ed'
    cases r3
    obtain ⟨vs, hp, rv⟩ := od
    have hlen : vs.length * k.toNat ≤ 1000 * 1000 := Nat.mul_le_mul (by rw [rv.len]; exact hl) (by omega)
    refine ⟨p, k, vs, rfl, rfl, g3.h _ _ hp, by omega, by omega, Nat.le_trans hlen (by decide), fun r hr => ?_⟩
    have hb : B3 r = none := fresh_back E3.ex hr
    exact ⟨B3, r, .lst _, ⟨(g.trans g3).b, (g.trans g3).h.trans (Ex.new hr), Ex.mut E3.ex hb, (g.trans g3).o⟩, rfl, fresh_back (g.trans g3).h hr, hb, ⟨_, upd_same, (rv.ex g3.b).rep _⟩, qq⟩)⟩
/-- int(a truth value) -/
theorem d_intB {nm : Str} (hx : nm = ("int" : Str)) (hg : Gl X "int") (hm : X.mg "int" = none) (h : DE X ρ a fun d => ∃ n, d = .bl n ∧ Q (.int (if n then 1 else 0))) (hst : starEach [a] X.env = (false, eval a X.env) :: starEach [] X.env := by rfl) : DE X ρ (.Call (.Name nm q1) [a] [] q2) Q := by
  subst hx
  exact ⟨fun H0 B σ H E => sem_of (pe_callTy call_int1 hg hm (by decide +kernel) (pa_cons pe_sem pa_nil hst) (he := hst)) (h.go E fun B2 v d H2 g E2 r q => by
    obtain ⟨n, rfl, q⟩ := q
    cases r
    exact .inr ⟨n, rfl, B2, _, g, .int _, q⟩)⟩
/-- a, b, c = x, y, z: the first one new -/
theorem s_par3O {kt k2 : Nat} {pt2 : Pos} {nx ny nz : Str} (i j l : Nat) (h : DN X ρ a fun x => DE X ρ b fun y => DE X ρ c fun z => DS X (((ρ.set i (.ow x)).set j (.fr y)).set l (.fr z)) rest E) (hc : X.calm = true) (hN : X.N.Nodup) (hij : i ≠ j) (hil : i ≠ l) (hjl : j ≠ l) (hi : X.N[i]? = some nx := by rfl) (hj : X.N[j]? = some ny := by rfl) (hl : X.N[l]? = some nz := by rfl)
    (hx : X.env.scope.names.lookup nx = some .local := by rfl) (hy : X.env.scope.names.lookup ny = some .local := by rfl) (hz : X.env.scope.names.lookup nz = some .local := by rfl)
    (hw : swappedStores [.Tuple [.Name nx px, .Name ny py, .Name nz pz] kt pt] (.Tuple [a, b, c] k2 pt2) X.env = pure (some [nx, ny, nz]) := by rfl) (hs : swapsWithSole [.Tuple [.Name nx px, .Name ny py, .Name nz pz] kt pt] (.Tuple [a, b, c] k2 pt2) pos.line X.env = pure false := by rfl)
    (he : starEach [a, b, c] X.env = (false, eval a X.env) :: starEach [b, c] X.env := by rfl) (he2 : starEach [b, c] X.env = (false, eval b X.env) :: starEach [c] X.env := by rfl) (he3 : starEach [c] X.env = (false, eval c X.env) :: starEach [] X.env := by rfl) :
    DS X ρ (.Assign [.Tuple [.Name nx px, .Name ny py, .Name nz pz] kt pt] (.Tuple [a, b, c] k2 pt2) pos :: rest) E :=
  ⟨fun H0 B0 B σ H D g En L => semS_of (pss_cons (ps_par3 hc hN hi hj hl hij hil hjl hx hy hz (pa_cons pe_sem (pa_cons pe_sem (pa_cons pe_sem pa_nil he3) he2) he) hw hs) pss_sem) (h.go En fun B2 p1 d1 H2 g2 E2 hp1 hb1 o1 q1 => q1.go E2 fun B3 v2 d2 H3 g3 E3 r2 q2 => q2.go E3 fun B4 v3 d3 H4 g4 E4 r3 q3 => ⟨_, _, _, rfl, by
    obtain ⟨u, hu, mu⟩ := o1.mut
    have gg := g3.trans g4
    have hb1' : B4 p1 = none := gg.o p1 u hu mu hb1
    have o1' : Od X.K B4 H4 p1 d1 := o1.ex gg.b (by rw [hu, gg.h _ _ hu])
    have E5 := E4.setO (i := i) hb1' (fresh_back g.h hp1) o1' (fun k d z1 z2 => Z.En.noSlot (i := i) En hp1 k d z1 z2)
    exact q3.run H0 B0 B4 _ H4 D (((g.trans g2).trans g3).trans g4) ((E5.set (i := j) (r2.ex g4.b)).set (i := l) r3) L⟩)⟩
end
end Z
set_option Elab.async false
set_option linter.all false
set_option maxRecDepth 100000
set_option maxHeartbeats 4000000
namespace E5
open PySem PySem.Spec PyProof.Rows L2 Y Z
abbrev sp_is_integer : Stmt := topS 2
abbrev np_is_integer : List Str := ["thing"]
theorem cp_is_integer : FnScope np_is_integer ["thing"] (defScope sp_is_integer) := ⟨rfl, rfl, rfl, by decide +kernel, rfl, by decide +kernel, by decide +kernel⟩
abbrev sp_is_natural : Stmt := topS 3
abbrev np_is_natural : List Str := ["thing"]
theorem cp_is_natural : FnScope np_is_natural ["thing"] (defScope sp_is_natural) := ⟨rfl, rfl, rfl, by decide +kernel, rfl, by decide +kernel, by decide +kernel⟩
abbrev sp_is_ascending : Stmt := topS 4
abbrev np_is_ascending : List Str := ["things", "one", "other"]
theorem cp_is_ascending : FnScope np_is_ascending ["things"] (defScope sp_is_ascending) := ⟨rfl, rfl, rfl, by decide +kernel, rfl, by decide +kernel, by decide +kernel⟩
abbrev sp_is_key : Stmt := topS 12
abbrev np_is_key : List Str := ["thing", "letter"]
theorem cp_is_key : FnScope np_is_key ["thing"] (defScope sp_is_key) := ⟨rfl, rfl, rfl, by decide +kernel, rfl, by decide +kernel, by decide +kernel⟩
abbrev sp_is_entry : Stmt := topS 13
abbrev np_is_entry : List Str := ["thing"]
theorem cp_is_entry : FnScope np_is_entry ["thing"] (defScope sp_is_entry) := ⟨rfl, rfl, rfl, by decide +kernel, rfl, by decide +kernel, by decide +kernel⟩
abbrev sp_are_entries : Stmt := topS 14
abbrev np_are_entries : List Str := ["low", "thing", "entry", "keys", "key", "_"]
theorem cp_are_entries : FnScope np_are_entries ["low", "thing"] (defScope sp_are_entries) := ⟨rfl, rfl, rfl, by decide +kernel, rfl, by decide +kernel, by decide +kernel⟩
abbrev sp_is_content : Stmt := topS 15
abbrev np_is_content : List Str := ["thing", "low", "entries", "follower"]
theorem cp_is_content : FnScope np_is_content ["thing"] (defScope sp_is_content) := ⟨rfl, rfl, rfl, by decide +kernel, rfl, by decide +kernel, by decide +kernel⟩
abbrev sp_is_page : Stmt := topS 17
abbrev np_is_page : List Str := ["thing"]
theorem cp_is_page : FnScope np_is_page ["thing"] (defScope sp_is_page) := ⟨rfl, rfl, rfl, by decide +kernel, rfl, by decide +kernel, by decide +kernel⟩
abbrev sp_are_pages : Stmt := topS 18
abbrev np_are_pages : List Str := ["thing", "page"]
theorem cp_are_pages : FnScope np_are_pages ["thing"] (defScope sp_are_pages) := ⟨rfl, rfl, rfl, by decide +kernel, rfl, by decide +kernel, by decide +kernel⟩
abbrev sp_may_follow : Stmt := topS 19
abbrev np_may_follow : List Str := ["pages", "chain", "n", "low", "before", "entries", "_", "key"]
theorem cp_may_follow : FnScope np_may_follow ["pages", "chain", "n"] (defScope sp_may_follow) := ⟨rfl, rfl, rfl, by decide +kernel, rfl, by decide +kernel, by decide +kernel⟩
abbrev sp_chain_of : Stmt := topS 20
abbrev np_chain_of : List Str := ["pages", "chain", "n"]
theorem cp_chain_of : FnScope np_chain_of ["pages"] (defScope sp_chain_of) := ⟨rfl, rfl, rfl, by decide +kernel, rfl, by decide +kernel, by decide +kernel⟩
abbrev sp_are_chained : Stmt := topS 21
abbrev np_are_chained : List Str := ["pages"]
theorem cp_are_chained : FnScope np_are_chained ["pages"] (defScope sp_are_chained) := ⟨rfl, rfl, rfl, by decide +kernel, rfl, by decide +kernel, by decide +kernel⟩
abbrev sp_check_chained : Stmt := topS 22
abbrev np_check_chained : List Str := ["pages"]
theorem cp_check_chained : FnScope np_check_chained ["pages"] (defScope sp_check_chained) := ⟨rfl, rfl, rfl, by decide +kernel, rfl, by decide +kernel, by decide +kernel⟩
abbrev sp_check_key : Stmt := topS 23
abbrev np_check_key : List Str := ["key"]
theorem cp_check_key : FnScope np_check_key ["key"] (defScope sp_check_key) := ⟨rfl, rfl, rfl, by decide +kernel, rfl, by decide +kernel, by decide +kernel⟩
abbrev sp_place_in : Stmt := topS 24
abbrev np_place_in : List Str := ["pages", "key", "n"]
theorem cp_place_in : FnScope np_place_in ["pages", "key"] (defScope sp_place_in) := ⟨rfl, rfl, rfl, by decide +kernel, rfl, by decide +kernel, by decide +kernel⟩
abbrev sp_place_of : Stmt := topS 25
abbrev np_place_of : List Str := ["pages", "key"]
theorem cp_place_of : FnScope np_place_of ["pages", "key"] (defScope sp_place_of) := ⟨rfl, rfl, rfl, by decide +kernel, rfl, by decide +kernel, by decide +kernel⟩
abbrev sp_worths_in : Stmt := topS 26
abbrev np_worths_in : List Str := ["pages", "n", "entry"]
theorem cp_worths_in : FnScope np_worths_in ["pages"] (defScope sp_worths_in) := ⟨rfl, rfl, rfl, by decide +kernel, rfl, by decide +kernel, by decide +kernel⟩
abbrev sp_worths_on : Stmt := topS 27
abbrev np_worths_on : List Str := ["pages"]
theorem cp_worths_on : FnScope np_worths_on ["pages"] (defScope sp_worths_on) := ⟨rfl, rfl, rfl, by decide +kernel, rfl, by decide +kernel, by decide +kernel⟩
abbrev sp_worth_in : Stmt := topS 28
abbrev np_worth_in : List Str := ["pages", "key"]
theorem cp_worth_in : FnScope np_worth_in ["pages", "key"] (defScope sp_worth_in) := ⟨rfl, rfl, rfl, by decide +kernel, rfl, by decide +kernel, by decide +kernel⟩
abbrev sp_worth_of : Stmt := topS 29
abbrev np_worth_of : List Str := ["pages", "key"]
theorem cp_worth_of : FnScope np_worth_of ["pages", "key"] (defScope sp_worth_of) := ⟨rfl, rfl, rfl, by decide +kernel, rfl, by decide +kernel, by decide +kernel⟩
abbrev sp_new_pages : Stmt := topS 30
abbrev np_new_pages : List Str := []
theorem cp_new_pages : FnScope np_new_pages [] (defScope sp_new_pages) := ⟨rfl, rfl, rfl, by decide +kernel, rfl, by decide +kernel, by decide +kernel⟩
abbrev sl_dealt : Stmt := topS 32
abbrev nl_dealt : List Str := ["_law_script", "_law_mixed", "_law_cell"]
theorem cl_dealt : FnScope nl_dealt ["_law_script"] (defScope sl_dealt) := ⟨rfl, rfl, rfl, by decide +kernel, rfl, by decide +kernel, by decide +kernel⟩
abbrev sl_draw : Stmt := topS 33
abbrev nl_draw : List Str := ["_law_deck", "_law_many", "_law_mark", "_law_cell"]
theorem cl_draw : FnScope nl_draw ["_law_deck", "_law_many"] (defScope sl_draw) := ⟨rfl, rfl, rfl, by decide +kernel, rfl, by decide +kernel, by decide +kernel⟩
abbrev sl_pick : Stmt := topS 34
abbrev nl_pick : List Str := ["_law_deck", "_law_some"]
theorem cl_pick : FnScope nl_pick ["_law_deck", "_law_some"] (defScope sl_pick) := ⟨rfl, rfl, rfl, by decide +kernel, rfl, by decide +kernel, by decide +kernel⟩
abbrev sl_key : Stmt := topS 35
abbrev nl_key : List Str := ["_law_deck", "_law_some", "_law_sign"]
theorem cl_key : FnScope nl_key ["_law_deck"] (defScope sl_key) := ⟨rfl, rfl, rfl, by decide +kernel, rfl, by decide +kernel, by decide +kernel⟩
abbrev sl_worth : Stmt := topS 36
abbrev nl_worth : List Str := ["_law_deck"]
theorem cl_worth : FnScope nl_worth ["_law_deck"] (defScope sl_worth) := ⟨rfl, rfl, rfl, by decide +kernel, rfl, by decide +kernel, by decide +kernel⟩
abbrev sl_chain : Stmt := topS 37
abbrev nl_chain : List Str := ["_law_pages", "_law_found", "_law_at", "_law_low", "_law_turn", "_law_content", "_law_key_here", "_law_worth_here"]
theorem cl_chain : FnScope nl_chain ["_law_pages"] (defScope sl_chain) := ⟨rfl, rfl, rfl, by decide +kernel, rfl, by decide +kernel, by decide +kernel⟩
abbrev sl_worths : Stmt := topS 38
abbrev nl_worths : List Str := ["_law_pages", "_law_found", "_law_n"]
theorem cl_worths : FnScope nl_worths ["_law_pages"] (defScope sl_worths) := ⟨rfl, rfl, rfl, by decide +kernel, rfl, by decide +kernel, by decide +kernel⟩
abbrev sl_place : Stmt := topS 39
abbrev nl_place : List Str := ["_law_pages", "_law_key_here", "_law_n"]
theorem cl_place : FnScope nl_place ["_law_pages", "_law_key_here"] (defScope sl_place) := ⟨rfl, rfl, rfl, by decide +kernel, rfl, by decide +kernel, by decide +kernel⟩
abbrev sl_writes : Stmt := topS 40
abbrev nl_writes : List Str := ["_law_pages", "_law_key_here", "_law_worth_here", "_law_reserved", "_law_p", "_law_low", "_law_entries", "_law_after", "_law_new", "_law_pair", "_law_held", "_law_n", "_law_m"]
theorem cl_writes : FnScope nl_writes ["_law_pages", "_law_key_here", "_law_worth_here", "_law_reserved"] (defScope sl_writes) := ⟨rfl, rfl, rfl, by decide +kernel, rfl, by decide +kernel, by decide +kernel⟩
abbrev sl_applied : Stmt := topS 41
abbrev nl_applied : List Str := ["_law_pages", "_law_number", "_law_row", "_law_n", "_law_some", "_law_turn"]
theorem cl_applied : FnScope nl_applied ["_law_pages", "_law_number", "_law_row"] (defScope sl_applied) := ⟨rfl, rfl, rfl, by decide +kernel, rfl, by decide +kernel, by decide +kernel⟩
abbrev sl_made_pages : Stmt := topS 42
abbrev nl_made_pages : List Str := ["_law_deck", "_law_many", "_law_pages", "_law_number", "_law_keys", "_law_turn", "_law_reserved", "_law_it", "_law_writes_here", "_law_n", "_law_content"]
theorem cl_made_pages : FnScope nl_made_pages ["_law_deck", "_law_many"] (defScope sl_made_pages) := ⟨rfl, rfl, rfl, by decide +kernel, rfl, by decide +kernel, by decide +kernel⟩
abbrev sl_with_strays : Stmt := topS 43
abbrev nl_with_strays : List Str := ["_law_deck", "_law_pages", "_law_some", "_law_turn", "_law_free", "_law_n", "_law_low", "_law_entries", "_law_after", "_law_last", "_law_content", "_law_key_here", "_law_worth_here"]
theorem cl_with_strays : FnScope nl_with_strays ["_law_deck", "_law_pages"] (defScope sl_with_strays) := ⟨rfl, rfl, rfl, by decide +kernel, rfl, by decide +kernel, by decide +kernel⟩
abbrev sp_law : Stmt := topS 44
abbrev np_law : List Str := ["_law_script", "_law_deck", "_law_turn", "_law_pages", "_law_worths_here", "_law_keys", "_law_key_here", "_law_go", "_law_due"]
theorem cp_law : FnScope np_law ["_law_script"] (defScope sp_law) := ⟨rfl, rfl, rfl, by decide +kernel, rfl, by decide +kernel, by decide +kernel⟩
end E5
set_option Elab.async false
set_option linter.all false
set_option maxRecDepth 100000
set_option maxHeartbeats 4000000
/-! contents, pages, operations and rows as data -/
namespace E5
open PySem PySem.Spec PyProof.Rows L2 Y Z
open Evl (Ex st_of sq_of ex_l ex_t fresh_back sz_of sz_lt)
/-- what the built-in names are -/
structure Blt (mg : Str → Option Value) : Prop where
  isi : mg "isinstance" = none
  int : mg "int" = none
  bool : mg "bool" = none
  str : mg "str" = none
  tuple : mg "tuple" = none
  len : mg "len" = none
  all : mg "all" = none
  zip : mg "zip" = none
/-- a word of small letters -/
structure KeyS (s : Str) : Prop where
  lo : 1 ≤ s.length
  hi : s.length ≤ 9
  c : ∀ c ∈ s.cps.toList, 97 ≤ c ∧ c ≤ 122
abbrev Big : Int := 1000000000
/-- a number that can be shown -/
abbrev Num (n : Int) : Prop := -(10 ^ 30) ≤ n ∧ n ≤ 10 ^ 30
structure Cn where
  low : Str
  ents : List (Str × Int)
  fol : Option Int
abbrev Pg := Int × Option Cn
abbrev foD : Option Int → Dt
  | none => .non
  | some n => .int n
abbrev entD (p : Str × Int) : Dt := .tup [.str p.1, .int p.2]
abbrev cnD : Option Cn → Dt
  | none => .non
  | some c => .tup [.str c.low, .tz (c.ents.map entD), foD c.fol]
abbrev pgD (p : Pg) : Dt := .tup [.int p.1, cnD p.2]
abbrev pgsD (ps : List Pg) : Dt := .tup (ps.map pgD)
structure CnOk (c : Cn) : Prop where
  low : c.low = "" ∨ KeyS c.low
  ents : ∀ p ∈ c.ents, KeyS p.1 ∧ p.2 ≠ 0 ∧ Num p.2 ∧ ltB p.1 c.low = false
  few : c.ents.length ≤ 3
  asc : (c.ents.map (·.1)).Pairwise (fun a b => ltB a b = true)
  fol : ∀ n, c.fol = some n → 0 ≤ n ∧ Num n
abbrev OCn (c : Option Cn) : Prop := ∀ d, c = some d → CnOk d
structure PgOk (p : Pg) : Prop where
  n : 0 ≤ p.1
  b : Num p.1
  c : OCn p.2
inductive Op where
  | read (k : Str)
  | add (k : Str) (n : Int)
  | set (k : Str) (n m : Int)
abbrev opD : Op → Dt
  | .read k => .tup [.str "read", .str k]
  | .add k n => .tup [.str "add", .str k, .int n]
  | .set k n m => .tup [.str "set", .str k, .int n, .int m]
def OpOk : Op → Prop
  | .read k => KeyS k
  | .add k n => KeyS k ∧ Num n
  | .set k n m => KeyS k ∧ Num n ∧ Num m
inductive Ro where
  | page (o : Int) (n : Nat) (b a : Option Cn)
  | unpage (o : Int) (n : Nat) (a : Option Cn)
  | start (t : Int)
  | op (t o : Int) (p : Op)
  | comp (t o b : Int)
  | fin (t : Int) (k : Bool)
abbrev roD : Ro → Dt
  | .page o n b a => .tup [.str "page", .int o, .int (n : Int), cnD b, cnD a]
  | .unpage o n a => .tup [.str "unpage", .int o, .int (n : Int), cnD a]
  | .start t => .tup [.str "start", .int t]
  | .op t o p => .tup [.str "op", .int t, .int o, opD p]
  | .comp t o b => .tup [.str "comp", .int t, .int o, .int b]
  | .fin t k => .tup [.str "end", .int t, .str (if k then "kept" else "dropped")]
abbrev Nat0 (n : Int) : Prop := 0 ≤ n ∧ Num n
def RoOk : Ro → Prop
  | .page o n b a => Nat0 o ∧ Num n ∧ OCn b ∧ OCn a
  | .unpage o n a => Nat0 o ∧ Num n ∧ OCn a
  | .start t => Nat0 t
  | .op t o p => Nat0 t ∧ Nat0 o ∧ OpOk p
  | .comp t o b => Nat0 t ∧ Nat0 o ∧ Nat0 b
  | .fin t _ => Nat0 t
/-! ### they can be shown -/
theorem Sh.non : Sh .none 0 42 := ⟨rfl, rfl, Nat.le_refl _, by decide, rfl⟩
theorem Num.int {n : Int} (h : Num n) : Sh (.int n) 0 42 := Sh.int (by
  have h1 : n.natAbs ≤ 10 ^ 30 := by
    have a := h.1
    have b := h.2
    omega
  exact Nat.lt_of_le_of_lt h1 (by decide))
theorem Sh.txt {s : Str} (hl : s.length ≤ 20) (hc : ∀ c ∈ s.cps.toList, c < 1000) : Sh (.str s) 0 202 := by
  refine ⟨rfl, rfl, Nat.le_refl _, ?_, ?_⟩
  · have := PySem.StrLaws.reprText_len s (fun c h => Nat.lt_of_lt_of_le (hc c h) (by decide))
    show (reprText s).length ≤ 202
    omega
  · show PyData.strOk s = true
    unfold PyData.strOk
    rw [← Array.all_toList, List.all_eq_true]
    exact fun c h => decide_eq_true (Nat.lt_of_lt_of_le (hc c h) (by decide))
theorem KeyS.sh {s : Str} (h : KeyS s) : Sh (.str s) 0 202 := Sh.txt (by have := h.hi; omega) fun c hc => by have := h.c c hc; omega
theorem sh_nil : Sh (.str "") 0 202 := Sh.txt (by decide) (by decide +kernel)
theorem sh_two {d e : PyData} {a b : Nat} (h : Sh d a b) (g : Sh e a b) : Sh (.tuple [d, e]) (a + 1) ((b + 2) * 2 + 3) := Sh.tup (n := 2) (fun x hx => by
  rcases List.mem_cons.mp hx with rfl | hx
  · exact h
  · rw [List.mem_singleton.mp hx]; exact g) (Nat.le_refl _)
theorem toP_tups {α : Type} {f : α → Dt} {l : List α} : toP (.tup (l.map f)) = .tuple (l.map fun x => toP (f x)) := by rw [toP_tup, toPL_map, List.map_map]; rfl
theorem Sh.tups {α : Type} {f : α → Dt} {l : List α} {a b n : Nat} (h : ∀ x ∈ l, Sh (toP (f x)) a b) (hn : l.length ≤ n) : Sh (toP (.tup (l.map f))) (a + 1) ((b + 2) * n + 3) := by
  rw [toP_tups]
  refine Sh.tup (fun d hd => ?_) (by rw [List.length_map]; exact hn)
  obtain ⟨x, hx, rfl⟩ := List.mem_map.mp hd
  exact h x hx
theorem toP_list {l : List Dt} : toP (.tup l) = .tuple (l.map toP) := by rw [toP_tup, toPL_map]
theorem Sh.of {l : List Dt} {a b n : Nat} (h : ∀ x ∈ l, Sh (toP x) a b) (hn : l.length ≤ n) : Sh (toP (.tup l)) (a + 1) ((b + 2) * n + 3) := by
  rw [toP_list]
  refine Sh.tup (fun d hd => ?_) (by rw [List.length_map]; exact hn)
  obtain ⟨x, hx, rfl⟩ := List.mem_map.mp hd
  exact h x hx
theorem sh_i {n : Int} {a b : Nat} (h : Num n) (hb : 42 ≤ b) : Sh (toP (.int n)) a b := by
  have e : toP (.int n) = .int n := by simp [toP]
  rw [e]; exact h.int.mono (Nat.zero_le _) hb
theorem sh_s {s : Str} {a b : Nat} (h : Sh (.str s) 0 202) (hb : 202 ≤ b) : Sh (toP (.str s)) a b := by
  have e : toP (.str s) = .str s := by simp [toP]
  rw [e]; exact h.mono (Nat.zero_le _) hb
theorem sh_n {a b : Nat} (hb : 42 ≤ b) : Sh (toP .non) a b := by
  have e : toP .non = .none := by simp [toP]
  rw [e]; exact Sh.non.mono (Nat.zero_le _) hb
theorem sh_fo {f : Option Int} (h : ∀ n, f = some n → 0 ≤ n ∧ Num n) {a b : Nat} (hb : 42 ≤ b) : Sh (toP (foD f)) a b := by
  cases f with
  | none => exact sh_n hb
  | some n => exact sh_i (h n rfl).2 hb
theorem sh_ent {p : Str × Int} (h : KeyS p.1) (g : Num p.2) : Sh (toP (entD p)) 1 411 := by
  refine (Sh.of (a := 0) (b := 202) (n := 2) (fun x hx => ?_) (Nat.le_refl _)).mono (by decide) (by decide)
  simp only [List.mem_cons, List.not_mem_nil, or_false] at hx
  rcases hx with rfl | rfl
  · exact sh_s h.sh (by decide)
  · exact sh_i g (by decide)
theorem sh_cn {c : Option Cn} (h : OCn c) : Sh (toP (cnD c)) 3 4000 := by
  cases c with
  | none => exact sh_n (by decide)
  | some c =>
    have k := h c rfl
    refine (Sh.of (a := 2) (b := 1300) (n := 3) (fun x hx => ?_) (Nat.le_refl _)).mono (by decide) (by decide)
    simp only [List.mem_cons, List.not_mem_nil, or_false] at hx
    rcases hx with rfl | rfl | rfl
    · rcases k.low with e | e
      · rw [e]; exact sh_s sh_nil (by decide)
      · exact sh_s e.sh (by decide)
    · rw [toP_dz]; exact (Sh.tups (fun p hp => sh_ent (k.ents p hp).1 (k.ents p hp).2.2.1) k.few).mono (by decide) (by decide)
    · exact sh_fo k.fol (by decide)
theorem sh_pg {p : Pg} (h : PgOk p) : Sh (toP (pgD p)) 4 8010 := by
  refine (Sh.of (a := 3) (b := 4000) (n := 2) (fun x hx => ?_) (Nat.le_refl _)).mono (by decide) (by decide)
  simp only [List.mem_cons, List.not_mem_nil, or_false] at hx
  rcases hx with rfl | rfl
  · exact sh_i h.b (by decide)
  · exact sh_cn h.c
theorem sh_pgs {ps : List Pg} (h : ∀ p ∈ ps, PgOk p) (hl : ps.length ≤ 100) : Sh (toP (pgsD ps)) 5 802000 := (Sh.tups (fun p hp => sh_pg (h p hp)) hl).mono (by decide) (by decide)
theorem sh_op {p : Op} (h : OpOk p) : Sh (toP (opD p)) 1 900 := by
  cases p with
  | read k =>
    refine (Sh.of (a := 0) (b := 202) (n := 2) (fun x hx => ?_) (Nat.le_refl _)).mono (by decide) (by decide)
    simp only [List.mem_cons, List.not_mem_nil, or_false] at hx
    rcases hx with rfl | rfl
    · exact sh_s (Sh.txt (by decide) (by decide +kernel)) (by decide)
    · exact sh_s (KeyS.sh h) (by decide)
  | add k n =>
    refine (Sh.of (a := 0) (b := 202) (n := 3) (fun x hx => ?_) (Nat.le_refl _)).mono (by decide) (by decide)
    simp only [List.mem_cons, List.not_mem_nil, or_false] at hx
    rcases hx with rfl | rfl | rfl
    · exact sh_s (Sh.txt (by decide) (by decide +kernel)) (by decide)
    · exact sh_s (KeyS.sh h.1) (by decide)
    · exact sh_i h.2 (by decide)
  | set k n m =>
    refine (Sh.of (a := 0) (b := 202) (n := 4) (fun x hx => ?_) (Nat.le_refl _)).mono (by decide) (by decide)
    simp only [List.mem_cons, List.not_mem_nil, or_false] at hx
    rcases hx with rfl | rfl | rfl | rfl
    · exact sh_s (Sh.txt (by decide) (by decide +kernel)) (by decide)
    · exact sh_s (KeyS.sh h.1) (by decide)
    · exact sh_i h.2.1 (by decide)
    · exact sh_i h.2.2 (by decide)
theorem sh_ro {r : Ro} (h : RoOk r) : Sh (toP (roD r)) 4 30000 := by
  cases r with
  | page o n b a =>
    refine (Sh.of (a := 3) (b := 4000) (n := 5) (fun x hx => ?_) (Nat.le_refl _)).mono (by decide) (by decide)
    simp only [List.mem_cons, List.not_mem_nil, or_false] at hx
    rcases hx with rfl | rfl | rfl | rfl | rfl
    · exact sh_s (Sh.txt (by decide) (by decide +kernel)) (by decide)
    · exact sh_i h.1.2 (by decide)
    · exact sh_i h.2.1 (by decide)
    · exact sh_cn h.2.2.1
    · exact sh_cn h.2.2.2
  | unpage o n a =>
    refine (Sh.of (a := 3) (b := 4000) (n := 4) (fun x hx => ?_) (Nat.le_refl _)).mono (by decide) (by decide)
    simp only [List.mem_cons, List.not_mem_nil, or_false] at hx
    rcases hx with rfl | rfl | rfl | rfl
    · exact sh_s (Sh.txt (by decide) (by decide +kernel)) (by decide)
    · exact sh_i h.1.2 (by decide)
    · exact sh_i h.2.1 (by decide)
    · exact sh_cn h.2.2
  | start t =>
    refine (Sh.of (a := 3) (b := 4000) (n := 2) (fun x hx => ?_) (Nat.le_refl _)).mono (by decide) (by decide)
    simp only [List.mem_cons, List.not_mem_nil, or_false] at hx
    rcases hx with rfl | rfl
    · exact sh_s (Sh.txt (by decide) (by decide +kernel)) (by decide)
    · exact sh_i h.2 (by decide)
  | op t o p =>
    refine (Sh.of (a := 3) (b := 4000) (n := 4) (fun x hx => ?_) (Nat.le_refl _)).mono (by decide) (by decide)
    simp only [List.mem_cons, List.not_mem_nil, or_false] at hx
    rcases hx with rfl | rfl | rfl | rfl
    · exact sh_s (Sh.txt (by decide) (by decide +kernel)) (by decide)
    · exact sh_i h.1.2 (by decide)
    · exact sh_i h.2.1.2 (by decide)
    · exact (sh_op h.2.2).mono (by decide) (by decide)
  | comp t o b =>
    refine (Sh.of (a := 3) (b := 4000) (n := 4) (fun x hx => ?_) (Nat.le_refl _)).mono (by decide) (by decide)
    simp only [List.mem_cons, List.not_mem_nil, or_false] at hx
    rcases hx with rfl | rfl | rfl | rfl
    · exact sh_s (Sh.txt (by decide) (by decide +kernel)) (by decide)
    · exact sh_i h.1.2 (by decide)
    · exact sh_i h.2.1.2 (by decide)
    · exact sh_i h.2.2.2 (by decide)
  | fin t k =>
    refine (Sh.of (a := 3) (b := 4000) (n := 3) (fun x hx => ?_) (Nat.le_refl _)).mono (by decide) (by decide)
    simp only [List.mem_cons, List.not_mem_nil, or_false] at hx
    rcases hx with rfl | rfl | rfl
    · exact sh_s (Sh.txt (by decide) (by decide +kernel)) (by decide)
    · exact sh_i h.2 (by decide)
    · cases k
      · exact sh_s (Sh.txt (by decide) (by decide +kernel)) (by decide)
      · exact sh_s (Sh.txt (by decide) (by decide +kernel)) (by decide)
/-! ### they are plain data -/
theorem isP_fo (f : Option Int) : isP (foD f) = true := by cases f <;> simp [isP]
theorem isPL_ent : ∀ l : List (Str × Int), isPL (l.map entD) = true
  | [] => by simp [isPL]
  | p :: r => by rw [List.map_cons]; simp [isPL, isP, isPL_ent r]
theorem isP_cn (c : Option Cn) : isP (cnD c) = true := by
  cases c with
  | none => simp [isP]
  | some c => simp [isP, isPL, isP_fo, isPL_ent]
theorem isPL_pg : ∀ l : List Pg, isPL (l.map pgD) = true
  | [] => by simp [isPL]
  | p :: r => by rw [List.map_cons]; simp [isPL, isP, isP_cn, isPL_pg r]
theorem isP_pgs (l : List Pg) : isP (pgsD l) = true := by unfold pgsD; simp [isP, isPL_pg]
theorem isP_op (p : Op) : isP (opD p) = true := by cases p <;> simp [isP, isPL]
theorem isP_ro (r : Ro) : isP (roD r) = true := by cases r <;> simp [isP, isPL, isP_cn, isP_op]
theorem imm_fo (f : Option Int) : imm (foD f) = true := by cases f <;> simp [imm]
theorem immL_ent : ∀ l : List (Str × Int), immL (l.map entD) = true
  | [] => by simp [immL]
  | p :: r => by rw [List.map_cons]; simp [immL, imm, immL_ent r]
theorem imm_cn (c : Option Cn) : imm (cnD c) = true := by
  cases c with
  | none => simp [imm]
  | some c => simp [imm, immL, imm_fo, immL_ent]
theorem immL_pg : ∀ l : List Pg, immL (l.map pgD) = true
  | [] => by simp [immL]
  | p :: r => by rw [List.map_cons]; simp [immL, imm, imm_cn, immL_pg r]
theorem imm_pgs (l : List Pg) : imm (pgsD l) = true := by unfold pgsD; simp [imm, immL_pg]
/-- what repr wants -/
theorem reprQ {ds : List Dt} {a b : Nat} {Q : Dt → Prop} (i : isP (.tup ds) = true) (h : Sh (toP (.tup ds)) a b) (ha : a ≤ 60) (hb : b ≤ sizeLine) (q : Q (.str (toP (.tup ds)).shown)) :
    ∃ es, Dt.tup ds = .tup es ∧ isP (.tup es) = true ∧ (toP (.tup es)).showable = true ∧ (toP (.tup es)).hasDict = false ∧ (toP (.tup es)).depth ≤ 60 ∧ (toP (.tup es)).shown.length ≤ sizeLine ∧ Q (.str (toP (.tup es)).shown) :=
  ⟨ds, rfl, i, h.s, h.h, Nat.le_trans h.dp ha, Nat.le_trans h.l hb, q⟩
end E5
set_option Elab.async false
set_option linter.all false
set_option maxRecDepth 100000
set_option maxHeartbeats 4000000
/-! the program's looks at keys, operations, entries, contents, rows: of right ones -/
namespace E5
open PySem PySem.Spec PyProof.Rows L2 Y Z
open Evl (Ex st_of sq_of ex_l ex_t fresh_back sz_of sz_lt)
def isIntD : Dt → Bool
  | .int _ => true
  | _ => false
def isNatD : Dt → Bool
  | .int n => decide (0 ≤ n)
  | _ => false
theorem hu65_of {k : Nat} {A : Around} (h : Room k A) : A.units + 65 < cLine := by have := h.un; omega
section
variable {P : Program} {w : World} {K : PySem.W.Frag} {mg : Str → Option Value} {base : Heap}
def dIsInt : List Dt → (Dt → Prop) → Prop := fun ds Q => ∃ d, ds = [d] ∧ plainD d = true ∧ Q (.bl (isIntD d))
theorem ownD_isint (D : Def K mg "is_integer" sp_is_integer) (B : Blt mg) : OwnD P w K mg base "is_integer" ["thing"] 1 dIsInt := by
  refine ownD D cp_is_integer (fun ds Q Q' k ⟨d, e, p, q⟩ => ⟨d, e, p, k _ q⟩) (fun ds Q ⟨d, e, _⟩ => by subst e; rfl) (fun _ _ _ _ _ _ us hl => match us, hl with | [_], _ => rfl) ?_
  rintro X ds Q ⟨f, cdv, A, outer, s, H, E, rfl⟩ hr ⟨d, rfl, hp, q⟩
  refine s_ret (d_and (d_isi (T := "int") (by rfl) B.isi (by rfl) B.int (by decide +kernel) (.of (d_nm 0 rfl ⟨hp, ?_⟩))))
  cases d with
  | int n => exact ⟨true, kb_int_int, two_t (d_not (d_isi (T := "bool") (by rfl) B.isi (by rfl) B.bool (by decide +kernel) (.of (d_nm 0 rfl ⟨hp, false, kb_int_bool, q⟩))))⟩
  | bl b => exact ⟨true, kb_bool_int, two_t (d_not (d_isi (T := "bool") (by rfl) B.isi (by rfl) B.bool (by decide +kernel) (.of (d_nm 0 rfl ⟨hp, true, kb_bool_bool, q⟩))))⟩
  | non => exact ⟨false, kb_NoneType_int, two_f q⟩
  | str _ => exact ⟨false, kb_str_int, two_f q⟩
  | tup _ => exact ⟨false, kb_tuple_int, two_f q⟩
  | lst _ => exact ⟨false, kb_list_int, two_f q⟩
  | dic _ => exact ⟨false, kb_dict_int, two_f q⟩
  | dit _ => cases hp
  | obj _ _ => cases hp
  | dk _ _ _ _ => cases hp
  | tx _ => cases hp
  | tz _ => exact ⟨false, kb_tuple_int, two_f q⟩
def dIsNat : List Dt → (Dt → Prop) → Prop := fun ds Q => ∃ d, ds = [d] ∧ plainD d = true ∧ Q (.bl (isNatD d))
theorem ownD_isnat (D : Def K mg "is_natural" sp_is_natural) (O : OwnD P w K mg base "is_integer" ["thing"] 1 dIsInt) : OwnD P w K mg base "is_natural" ["thing"] 2 dIsNat := by
  refine ownD D cp_is_natural (fun ds Q Q' k ⟨d, e, p, q⟩ => ⟨d, e, p, k _ q⟩) (fun ds Q ⟨d, e, _⟩ => by subst e; rfl) (fun _ _ _ _ _ _ us hl => match us, hl with | [_], _ => rfl) ?_
  rintro X ds Q ⟨f, cdv, A, outer, s, H, E, rfl⟩ hr ⟨d, rfl, hp, q⟩
  refine s_ret (d_and (d_own O hr (by rfl) (l_cons (d_nm 0 rfl (l_nil ⟨d, rfl, hp, ?_⟩)))))
  cases d with
  | int n => exact two_t (d_ge (.of (d_nm 0 rfl (.of (d_int q)))))
  | _ => exact two_f q
/-- a natural number, as it is asked -/
theorem nat_t {n : Int} {Q : Dt → Prop} (h : 0 ≤ n) (q : Q (.bl true)) : Q (.bl (isNatD (.int n))) := by
  show Q (.bl (decide (0 ≤ n)))
  rw [decide_eq_true h]; exact q
/-- is_key of a key -/
theorem key_sgn {s : Str} (h : KeyS s) {d : Dt} (hd : d ∈ sgnD s) : ∃ c, d = .str ⟨#[c]⟩ ∧ c ∈ (Str.ofString "abcdefghijklmnopqrstuvwxyz").cps.toList := by
  unfold sgnD at hd
  obtain ⟨c, hc, rfl⟩ := List.mem_map.mp hd
  have := h.c c hc
  refine ⟨c, rfl, ?_⟩
  have e : (Str.ofString "abcdefghijklmnopqrstuvwxyz").cps.toList = (List.range 26).map (· + 97) := by decide +kernel
  rw [e, List.mem_map]
  exact ⟨c - 97, List.mem_range.mpr (by omega), by omega⟩
theorem all_bls {ds : List Dt} {Q : Dt → Prop} (q : Q (.bl true)) : blL (.lst (ds.map fun _ => Dt.bl true)) fun bs => Q (.bl (bs.all id)) :=
  ⟨ds.map fun _ => true, by rw [List.map_map]; rfl, by
    have e : (ds.map fun _ => true).all id = true := by rw [List.all_map]; exact List.all_eq_true.mpr fun _ _ => rfl
    show Q (.bl ((ds.map fun _ => true).all id))
    rw [e]; exact q⟩
def dKey : List Dt → (Dt → Prop) → Prop := fun ds Q => ∃ s, ds = [.str s] ∧ KeyS s ∧ Q (.bl true)
theorem ownD_iskey (D : Def K mg "is_key" sp_is_key) (B : Blt mg) {m9 mabc : Value} (hm : mg "MOST_KEY_LETTERS" = some m9) (r9 : RelV (.int 9) m9) (ha : mg "LETTERS" = some mabc) (rabc : RelV (.str "abcdefghijklmnopqrstuvwxyz") mabc) : OwnD P w K mg base "is_key" ["thing"] 1 dKey := by
  refine ownD D cp_is_key (fun ds Q Q' k ⟨s, e, p, q⟩ => ⟨s, e, p, k _ q⟩) (fun ds Q ⟨s, e, _⟩ => by subst e; rfl) (fun _ _ _ _ _ _ us hl => match us, hl with | [_], _ => rfl) ?_
  rintro X ds Q ⟨f, cdv, A, outer, s0, H, E, rfl⟩ hr ⟨s, rfl, hk, q⟩
  have nd := cp_is_key.nd
  have hz : s.length ≤ sizeLine := Nat.le_trans hk.hi (by decide)
  refine s_when <| t_or <| t_not <| t_v <| .of <| d_isi (T := "str") (by rfl) B.isi (by rfl) B.str (by decide +kernel) <| .of <| d_nm 0 rfl ⟨rfl, true, kb_str_str, two_f <| t_not <| t_chain (f := fun n m => decide (n ≤ m)) (f' := fun n m => decide (n ≤ m)) op_le op_le (fun n m H Q q => ⟨n, m, rfl, rfl, q⟩) (fun n m H Q q => ⟨n, m, rfl, rfl, q⟩) (d_int <| d_len (by rfl) B.len <| .of <| d_nm 0 rfl ⟨hz, 1, (s.length : Int), rfl, rfl, fun _ => d_glob ⟨9, rfl, ?_⟩ (by rfl) hm r9 (fun B => .int 9), fun z => ?_⟩) (by rfl)⟩
  · rw [decide_eq_true (show (s.length : Int) ≤ 9 by have := hk.hi; omega)]
    refine two_f ?_
    refine s_ret (d_all rfl (by rfl) B.all (.ofN (n_lc (own := [("letter", 1)]) rfl nd (blkOk_by (N := np_is_key) (sc := defScope sp_is_key) (by decide +kernel)) (gb_nm 1 (fun _ _ _ _ _ => pg_name (i := 1) nd rfl (Or.inl rfl))) (by simp) (i_str <| d_nm 0 rfl ⟨s, rfl, LcQ.map (fun _ => .bl true) (by rw [sgnD_len]; exact Nat.le_trans hk.hi (by decide)) (fun d hd => ?_) (all_bls q)⟩))))
    obtain ⟨c, rfl, hc⟩ := key_sgn hk hd
    refine ⟨_, rfl, fun s1 H' C cl fp => d_inSg <| .of <| d_nm 1 rfl <| .of <| d_glob ⟨c, _, rfl, rfl, ?_⟩ (by rfl) ha rabc (fun B => .str _)⟩
    rw [decide_eq_true hc]
  · have : (1 : Int) ≤ (s.length : Int) := by have := hk.lo; omega
    rw [decide_eq_true this] at z; cases z
end
end E5
set_option Elab.async false
set_option linter.all false
set_option maxRecDepth 100000
set_option maxHeartbeats 4000000
/-! operations, entries, contents, rows, pages that are right -/
namespace E5
open PySem PySem.Spec PyProof.Rows L2 Y Z
open Evl (Ex st_of sq_of ex_l ex_t fresh_back sz_of sz_lt)
section
variable {P : Program} {w : World} {K : PySem.W.Frag} {mg : Str → Option Value} {base : Heap}
theorem bls_true {ds : List Dt} {f : List Bool → Prop} (q : ∀ bs : List Bool, bs.all id = true → f bs) : blL (.lst (ds.map fun _ => Dt.bl true)) f := ⟨ds.map fun _ => true, by rw [List.map_map]; rfl, q _ (by rw [List.all_map]; exact List.all_eq_true.mpr fun _ _ => rfl)⟩
theorem d_isT {X : Cx} {ρ : List Sl} {a : Expr} {Q : Dt → Prop} {pos q1 q2 : Pos} (B : Blt X.mg) (hg : Gl X "isinstance") (hgt : Gl X "tuple") (h : DE X ρ a fun d => ∃ ds, d = .tup ds ∧ Q (.bl true))
    (he : starEach [a, .Name "tuple" pos] X.env = (false, eval a X.env) :: starEach [.Name "tuple" pos] X.env := by rfl) (he2 : starEach [.Name "tuple" pos] X.env = (false, eval (.Name "tuple" pos) X.env) :: starEach [] X.env := by rfl) (hpl : (backTo q2 (starEach [.Name "tuple" pos] X.env)).any (·.1) = false := by rfl) :
    DE X ρ (.Call (.Name "isinstance" q1) [a, .Name "tuple" pos] [] q2) Q :=
  d_isi (T := "tuple") hg B.isi hgt B.tuple (by decide +kernel) (.of (h.weak fun d ⟨ds, e, q⟩ => by subst e; exact ⟨rfl, true, kb_tuple_tuple, q⟩)) (he := he) (he2 := he2) (hpl := hpl)
/-! ### operations -/
abbrev shapesD : Dt := .tup [.tup [.str "read", .int 0], .tup [.str "set", .int 2], .tup [.str "add", .int 1]]
def opArgs : Op → Str × Str × List Int
  | .read k => ("read", k, [])
  | .add k n => ("add", k, [n])
  | .set k n m => ("set", k, [n, m])
theorem opD_eq (p : Op) : opD p = .tup ([.str (opArgs p).1, .str (opArgs p).2.1] ++ (opArgs p).2.2.map Dt.int) := by cases p <;> rfl
def dShaped : List Dt → (Dt → Prop) → Prop := fun ds Q => ∃ p, ds = [opD p, shapesD] ∧ OpOk p ∧ Q (.bl true)
theorem op_key {p : Op} (h : OpOk p) : KeyS (opArgs p).2.1 := by
  cases p with
  | read k => exact h
  | add k n => exact h.1
  | set k n m => exact h.1
theorem op_few (p : Op) : (opArgs p).2.2.length ≤ 2 := by cases p <;> simp [opArgs]
theorem shape_in {s : Str} {n : Int} (h : (s = "read" ∧ n = 0) ∨ (s = "set" ∧ n = 2) ∨ (s = "add" ∧ n = 1)) : inTQ id (.tup [.str s, .int n]) shapesD fun z => z = true := by
  rcases h with ⟨rfl, rfl⟩ | ⟨rfl, rfl⟩ | ⟨rfl, rfl⟩ <;> exact ⟨_, rfl, ⟨by simp [isP, isPL], by simp [isP, isPL], by decide +kernel, by decide +kernel⟩, by decide +kernel⟩
theorem op_shape (p : Op) : inTQ id (.tup [.str (opArgs p).1, .int ((opArgs p).2.2.length : Int)]) shapesD fun z => z = true := by
  cases p with
  | read k => exact shape_in (.inl ⟨rfl, rfl⟩)
  | add k n => exact shape_in (.inr (.inr ⟨rfl, rfl⟩))
  | set k n m => exact shape_in (.inr (.inl ⟨rfl, rfl⟩))
theorem atI_0 {d : Dt} {ds : List Dt} : atI (d :: ds) 0 = some d := atI_nat (j := 0) rfl
theorem atI_1 {d e : Dt} {ds : List Dt} : atI (d :: e :: ds) 1 = some e := atI_nat (j := 1) rfl
theorem atI_2 {d e f : Dt} {ds : List Dt} : atI (d :: e :: f :: ds) 2 = some f := atI_nat (j := 2) rfl
def dIsOp : List Dt → (Dt → Prop) → Prop := fun ds Q => ∃ p, ds = [opD p] ∧ OpOk p ∧ Q (.bl true)
/-! ### entries, contents -/
def dEntry : List Dt → (Dt → Prop) → Prop := fun ds Q => ∃ p, ds = [entD p] ∧ KeyS p.1 ∧ p.2 ≠ 0 ∧ Q (.bl true)
theorem ownD_isentry (D : Def K mg "is_entry" sp_is_entry) (B : Blt mg) (OK : OwnD P w K mg base "is_key" ["thing"] 1 dKey) (OI : OwnD P w K mg base "is_integer" ["thing"] 1 dIsInt) : OwnD P w K mg base "is_entry" ["thing"] 2 dEntry := by
  refine ownD D cp_is_entry (fun ds Q Q' k ⟨s, e, p, p2, q⟩ => ⟨s, e, p, p2, k _ q⟩) (fun ds Q ⟨s, e, _⟩ => by subst e; rfl) (fun _ _ _ _ _ _ us hl => match us, hl with | [_], _ => rfl) ?_
  rintro X ds Q ⟨f, cdv, A, outer, s0, H, E, rfl⟩ hr ⟨p, rfl, hk, hn, q⟩
  refine s_ret <| d_andN <| d_isT B (by rfl) (by rfl) <| d_nm 0 rfl ⟨_, rfl, two_t <| d_andN <| d_eq hr.units <| .of <| d_len (by rfl) B.len <| .of <| d_nm 0 rfl <| .of <| d_int <| two_t <| d_andN <| d_own OK (hr.mono (by decide)) (by rfl) <| l_cons <| d_ix <| d_nm 0 rfl <| d_int ⟨_, atI_0, l_nil ⟨p.1, rfl, hk, two_t <| d_andN <| d_own OI (hr.mono (by decide)) (by rfl) <| l_cons <| d_ix <| d_nm 0 rfl <| d_int ⟨_, atI_1, l_nil ⟨_, rfl, rfl, two_t <| d_one <| d_ne hr.units <| .of <| d_ix <| d_nm 0 rfl <| d_int ⟨_, atI_1, .of <| d_int ?_⟩⟩⟩⟩⟩⟩
  show Q (.bl (!decide (p.2 = 0)))
  rw [decide_eq_false hn]; exact q
/-- is_ascending of a list of texts -/
def dAscS : List Dt → (Dt → Prop) → Prop := fun ds Q => ∃ ss : List Str, ds = [.lst (ss.map Dt.str)] ∧ ss.length ≤ 1000 ∧ ss.Pairwise (fun a b => ltB a b = true) ∧ Q (.bl true)
theorem ownD_isasc (D : Def K mg "is_ascending" sp_is_ascending) (B : Blt mg) : OwnD P w K mg base "is_ascending" ["things"] 1 dAscS := by
  refine ownD D cp_is_ascending (fun ds Q Q' k ⟨s, e, p, p2, q⟩ => ⟨s, e, p, p2, k _ q⟩) (fun ds Q ⟨s, e, _⟩ => by subst e; rfl) (fun _ _ _ _ _ _ us hl => match us, hl with | [_], _ => rfl) ?_
  rintro X ds Q ⟨f, cdv, A, outer, s0, H, E, rfl⟩ hr ⟨ss, rfl, hl, ha, q⟩
  have nd := cp_is_ascending.nd
  refine s_ret (d_all rfl (by rfl) B.all (.ofN (n_lc (own := [("one", 1), ("other", 2)]) rfl nd (blkOk_by (N := np_is_ascending) (sc := defScope sp_is_ascending) (by decide +kernel)) (gb_tup2 1 2 (fun _ _ _ _ _ => pg_tup rfl (pgs_cons (pg_name (i := 1) nd rfl (Or.inl rfl)) (pgs_cons (pg_name (i := 2) nd rfl (Or.inl rfl)) pgs_nil)))) (by simp) (i_zipL (by rfl) B.zip <| d_nm 0 rfl <| .ofN <| n_drL <| d_nm 0 rfl ⟨_, rfl, d_int ⟨1, rfl, ?_⟩⟩))))
  dsimp only [lstQ]
  refine LcQ.map (fun _ => .bl true) ?_ (fun d hd => ?_) (all_bls q)
  · unfold zipD; rw [List.length_map, List.length_zip, List.length_map]; omega
  · unfold zipD at hd
    obtain ⟨q', hq, rfl⟩ := List.mem_map.mp hd
    obtain ⟨n, hn⟩ := List.getElem?_of_mem hq
    obtain ⟨h1, h2⟩ := List.getElem?_zip_eq_some.mp hn
    rw [List.getElem?_drop, List.getElem?_map] at h2
    rw [List.getElem?_map] at h1
    obtain ⟨s1, g1, e1⟩ := Option.map_eq_some_iff.mp h1
    obtain ⟨s2, g2, e2⟩ := Option.map_eq_some_iff.mp h2
    obtain ⟨qa, qb⟩ := q'
    have e1 : Dt.str s1 = qa := e1
    have e2 : Dt.str s2 = qb := e2
    subst e1 e2
    refine ⟨_, rfl, fun s' H' C cl fp => d_ltS <| .of <| d_nm 1 rfl <| .of <| d_nm 2 rfl ?_⟩
    show Dt.bl (ltB s1 s2) = .bl true
    have l1 := (List.getElem?_eq_some_iff.mp g1)
    have l2 := (List.getElem?_eq_some_iff.mp g2)
    obtain ⟨a1, b1⟩ := l1
    obtain ⟨a2, b2⟩ := l2
    have := List.pairwise_iff_getElem.mp ha n (1 + n) a1 a2 (by omega)
    rw [b1, b2] at this
    rw [this]
def dEntries : List Dt → (Dt → Prop) → Prop := fun ds Q => ∃ c : Cn, ds = [.str c.low, .tz (c.ents.map entD)] ∧ CnOk c ∧ Q (.bl true)
theorem ownD_areents (D : Def K mg "are_entries" sp_are_entries) (B : Blt mg) (OE : OwnD P w K mg base "is_entry" ["thing"] 2 dEntry) (OA : OwnD P w K mg base "is_ascending" ["things"] 1 dAscS) {m3 : Value} (hm : mg "MOST_ENTRIES" = some m3) (r3 : RelV (.int 3) m3) : OwnD P w K mg base "are_entries" ["low", "thing"] 3 dEntries := by
  refine ownD D cp_are_entries (fun ds Q Q' k ⟨s, e, p, q⟩ => ⟨s, e, p, k _ q⟩) (fun ds Q ⟨s, e, _⟩ => by subst e; rfl) (fun _ _ _ _ _ _ us hl => match us, hl with | [_, _], _ => rfl) ?_
  rintro X ds Q ⟨f, cdv, A, outer, s0, H, E, rfl⟩ hr ⟨c, rfl, ok, q⟩
  have nd := cp_are_entries.nd
  have hf := ok.few
  refine s_when <| DW.dt <| w_or <| t_not <| t_v <| .of <| d_isT B (by rfl) (by rfl) <| d_dz <| d_nm 1 rfl ⟨_, rfl, _, rfl, two_f <| w_or <| t_gt <| .of <| d_len (by rfl) B.len <| .of <| d_dz <| d_nm 1 rfl ⟨_, rfl, (.of <| d_glob (v := .int 3) (d := .int 3) (ord_f (decide_eq_false (by rw [List.length_map]; omega)) ?_) (by rfl) hm r3 (fun B => .int 3))⟩⟩
  refine w_or1 <| t_not <| t_v <| .of <| d_all rfl (by rfl) B.all (.ofN (n_lc (own := [("entry", 2)]) rfl nd (blkOk_by (N := np_are_entries) (sc := defScope sp_are_entries) (by decide +kernel)) (gb_nm 2 (fun _ _ _ _ _ => pg_name (i := 2) nd rfl (Or.inl rfl))) (by simp) (i_tup <| d_dz <| d_nm 1 rfl ⟨_, rfl, ?_⟩)))
  dsimp only [tuQ]
  refine LcQ.map (fun _ => .bl true) (by rw [List.length_map]; omega) (fun d hd => ?_) (bls_true fun bs hbs => ?_)
  · obtain ⟨p, hp, rfl⟩ := List.mem_map.mp hd
    have := ok.ents p hp
    exact ⟨_, rfl, fun s1 H' C cl fp => d_own OE (hr.mono (by decide)) (by rfl) <| l_cons <| d_nm 2 rfl <| l_nil ⟨p, rfl, this.1, this.2.1, rfl⟩⟩
  rw [hbs]
  show _ ∧ _
  refine two_f ?_
  refine s_setLc (own := [("key", 4), ("_", 5)]) 3 rfl nd (blkOk_by (N := np_are_entries) (sc := defScope sp_are_entries) (by decide +kernel)) (gb_tup2 4 5 (fun _ _ _ _ _ => pg_tup rfl (pgs_cons (pg_name (i := 4) nd rfl (Or.inl rfl)) (pgs_cons (pg_name (i := 5) nd rfl (Or.inl rfl)) pgs_nil)))) (by simp) (i_tup <| d_dz <| d_nm 1 rfl ⟨_, rfl, ?_⟩)
  dsimp only [tuQ]
  refine LcQ.map (fun d => match d with | .tup [.str s, _] => .str s | _ => .non) (by rw [List.length_map]; omega) (fun d hd => ?_) ?_
  · obtain ⟨p, hp, rfl⟩ := List.mem_map.mp hd
    exact ⟨_, rfl, fun s1 H' C cl fp => d_nm 4 rfl rfl⟩
  rw [List.map_map]
  have ek : (c.ents.map ((fun d => match d with | .tup [.str s, _] => Dt.str s | _ => .non) ∘ entD)) = (c.ents.map (·.1)).map Dt.str := by rw [List.map_map]; rfl
  rw [ek]
  refine s_freeze 3 rfl <| s_ret <| d_and <| d_own OA (hr.mono (by decide)) (by rfl) <| l_cons <| d_nm 3 rfl <| l_nil ⟨c.ents.map (·.1), rfl, by rw [List.length_map]; omega, ok.asc, two_t ?_⟩
  refine d_all rfl (by rfl) B.all (.ofN (n_lc (own := [("key", 4)]) rfl nd (blkOk_by (N := np_are_entries) (sc := defScope sp_are_entries) (by decide +kernel)) (gb_nm 4 (fun _ _ _ _ _ => pg_name (i := 4) nd rfl (Or.inl rfl))) (by simp) (i_lst <| d_nm 3 rfl ?_)))
  dsimp only [lstQ]
  refine LcQ.map (fun _ => .bl true) (by rw [List.length_map, List.length_map]; omega) (fun d hd => ?_) (all_bls q)
  obtain ⟨s, hs, rfl⟩ := List.mem_map.mp hd
  obtain ⟨p, hp, rfl⟩ := List.mem_map.mp hs
  refine ⟨_, rfl, fun s1 H' C cl fp => d_leS <| .of <| d_nm 0 rfl <| .of <| d_nm 4 rfl ?_⟩
  show Dt.bl (!ltB p.1 c.low) = .bl true
  rw [(ok.ents p hp).2.2.2]; rfl
def dCont : List Dt → (Dt → Prop) → Prop := fun ds Q => ∃ c : Option Cn, ds = [cnD c] ∧ OCn c ∧ Q (.bl true)
theorem ownD_iscont (D : Def K mg "is_content" sp_is_content) (B : Blt mg) (OE : OwnD P w K mg base "are_entries" ["low", "thing"] 3 dEntries) (OK : OwnD P w K mg base "is_key" ["thing"] 1 dKey) (ON : OwnD P w K mg base "is_natural" ["thing"] 2 dIsNat) : OwnD P w K mg base "is_content" ["thing"] 4 dCont := by
  refine ownD D cp_is_content (fun ds Q Q' k ⟨s, e, p, q⟩ => ⟨s, e, p, k _ q⟩) (fun ds Q ⟨s, e, _⟩ => by subst e; rfl) (fun _ _ _ _ _ _ us hl => match us, hl with | [_], _ => rfl) ?_
  rintro X ds Q ⟨f, cdv, A, outer, s0, H, E, rfl⟩ hr ⟨oc, rfl, ok, q⟩
  have nd := cp_is_content.nd
  cases oc with
  | none => exact s_when <| t_isN <| .of <| d_nm 0 rfl <| two_t <| s_ret <| d_bl q
  | some c =>
    have ok := ok c rfl
    refine s_when <| t_isN <| .of <| d_nm 0 rfl <| two_f ?_
    refine s_when <| t_or <| t_not <| t_v <| .of <| d_isT B (by rfl) (by rfl) <| d_nm 0 rfl ⟨_, rfl, two_f <| t_ne hr.units <| .of <| d_len (by rfl) B.len <| .of <| d_nm 0 rfl <| .of <| d_int <| two_f ?_⟩
    refine s_asg (d_nm 0 rfl ⟨_, rfl, ?_⟩) (g_tup3 1 2 3 rfl nd)
    refine s_when <| DT.weak (Q := fun z => z = false) (t_and <| t_ne hr.units <| .of <| d_nm 1 rfl <| .of <| d_str ⟨fun hne => ?_, fun _ => rfl⟩) fun z hz => ⟨fun h => absurd (hz.symm.trans h) Bool.false_ne_true, fun _ => ?_⟩
    · rcases ok.low with e | e
      · have hne : (!decide (c.low = "")) = true := hne
        rw [decide_eq_true e] at hne; cases hne
      · exact t_not <| t_v <| .of <| d_own OK (hr.mono (by decide)) (by rfl) <| l_cons <| d_nm 1 rfl <| l_nil ⟨c.low, rfl, e, rfl⟩
    refine s_ret <| d_and <| d_own OE (hr.mono (by decide)) (by rfl) <| l_cons <| d_nm 1 rfl <| l_cons <| d_nm 2 rfl <| l_nil ⟨c, rfl, ok, two_t <| d_or <| d_isN <| .of <| d_nm 3 rfl ?_⟩
    cases hfo : c.fol with
    | none => exact two_t q
    | some n => exact two_f <| d_own ON (hr.mono (by decide)) (by rfl) <| l_cons <| d_nm 3 rfl <| l_nil ⟨_, rfl, rfl, nat_t (ok.fol n hfo).1 q⟩
end
end E5
set_option Elab.async false
set_option linter.all false
set_option maxRecDepth 100000
set_option maxHeartbeats 4000000
/-! rows, pages; the pages behind a row -/
namespace E5
open PySem PySem.Spec PyProof.Rows L2 Y Z
open Evl (Ex st_of sq_of ex_l ex_t fresh_back sz_of sz_lt)
/-! ### mathematics -/
abbrev noPg : Pg := (0, none)
def longer (ps : List Pg) (n : Nat) : List Pg := ps ++ List.replicate (n + 1 - ps.length) noPg
def setPg (ps : List Pg) (n : Nat) (p : Pg) : List Pg := (longer ps n).set n p
def afterPg (ps : List Pg) (num : Int) (n : Nat) (c : Option Cn) : List Pg := match ps[n]? with
  | some p => if num ≤ p.1 then ps else setPg ps n (num, c)
  | none => setPg ps n (num, c)
def afterRo (ps : List Pg) (num : Int) : Ro → List Pg
  | .page _ n _ a => afterPg ps num n a
  | .unpage _ n a => afterPg ps num n a
  | _ => ps
theorem longer_len {ps : List Pg} {n : Nat} : (longer ps n).length = max ps.length (n + 1) := by unfold longer; rw [List.length_append, List.length_replicate]; omega
theorem setPg_len {ps : List Pg} {n : Nat} {p : Pg} : (setPg ps n p).length = max ps.length (n + 1) := by unfold setPg; rw [List.length_set, longer_len]
theorem afterPg_len {ps : List Pg} {num : Int} {n : Nat} {c : Option Cn} : (afterPg ps num n c).length ≤ max ps.length (n + 1) := by
  unfold afterPg
  split
  · split
    · omega
    · rw [setPg_len]; exact Nat.le_refl _
  · rw [setPg_len]; exact Nat.le_refl _
theorem noPg_ok : PgOk noPg := ⟨Int.le_refl _, by decide, fun d h => nomatch h⟩
theorem longer_ok {ps : List Pg} {n : Nat} (h : ∀ p ∈ ps, PgOk p) : ∀ p ∈ longer ps n, PgOk p := fun p hp => by
  unfold longer at hp
  rcases List.mem_append.mp hp with hp | hp
  · exact h p hp
  · rw [List.eq_of_mem_replicate hp]; exact noPg_ok
theorem afterPg_ok {ps : List Pg} {num : Int} {n : Nat} {c : Option Cn} (h : ∀ p ∈ ps, PgOk p) (h1 : 0 ≤ num ∧ Num num) (hc : OCn c) : ∀ p ∈ afterPg ps num n c, PgOk p := by
  have gen : ∀ p ∈ setPg ps n (num, c), PgOk p := fun p hp => by
    unfold setPg at hp
    rcases List.mem_or_eq_of_mem_set hp with hp | rfl
    · exact longer_ok h p hp
    · exact ⟨h1.1, h1.2, hc⟩
  unfold afterPg
  split
  · split
    · exact h
    · exact gen
  · exact gen
theorem afterRo_ok {ps : List Pg} {num : Int} {r : Ro} (h : ∀ p ∈ ps, PgOk p) (h1 : 0 ≤ num ∧ Num num) (hr : RoOk r) : ∀ p ∈ afterRo ps num r, PgOk p := by
  cases r with
  | page o n b a => exact afterPg_ok h h1 hr.2.2.2
  | unpage o n a => exact afterPg_ok h h1 hr.2.2
  | _ => exact h
theorem afterRo_pos {ps : List Pg} {num : Int} {r : Ro} (h : ps ≠ []) : afterRo ps num r ≠ [] := by
  have gen : ∀ n c, afterPg ps num n c ≠ [] := fun n c => by
    unfold afterPg
    split
    · split
      · exact h
      · exact fun z => by have := congrArg List.length z; rw [setPg_len] at this; simp at this
    · exact fun z => by have := congrArg List.length z; rw [setPg_len] at this; simp at this
  cases r with
  | page o n b a => exact gen _ _
  | unpage o n a => exact gen _ _
  | _ => exact h
/-- a place of a row's page -/
def roN : Ro → Nat
  | .page _ n _ _ => n
  | .unpage _ n _ => n
  | _ => 0
theorem afterRo_len {ps : List Pg} {num : Int} {r : Ro} (h : ps ≠ []) : (afterRo ps num r).length ≤ max ps.length (roN r + 1) := by
  cases r with
  | page o n b a => exact afterPg_len
  | unpage o n a => exact afterPg_len
  | _ => exact Nat.le_max_left _ _
theorem set_split {α : Type} : ∀ {l : List α} {n : Nat} {x : α}, n < l.length → l.take n ++ [x] ++ l.drop (n + 1) = l.set n x
  | a :: l, 0, x, _ => rfl
  | a :: l, n + 1, x, h => by
    rw [List.take_succ_cons, List.drop_succ_cons, List.set_cons_succ, ← set_split (by simpa using h)]; rfl
section
variable {P : Program} {w : World} {K : PySem.W.Frag} {mg : Str → Option Value} {base : Heap}
def dRow : List Dt → (Dt → Prop) → Prop := fun ds Q => ∃ r : Ro, ds = [roD r] ∧ RoOk r ∧ Q (.bl true)
theorem row_in {s : Str} {n : Int} (h : (s = "page" ∧ n = 3) ∨ (s = "unpage" ∧ n = 2)) : inTQ id (.tup [.str s, .int n]) (.tup [.tup [.str "page", .int 3], .tup [.str "unpage", .int 2]]) fun z => z = true := by
  rcases h with ⟨rfl, rfl⟩ | ⟨rfl, rfl⟩ <;> exact ⟨_, rfl, ⟨by simp [isP, isPL], by simp [isP, isPL], by decide +kernel, by decide +kernel⟩, by decide +kernel⟩
theorem end_in (k : Bool) : inTQ id (.tup [.str (if k then "kept" else "dropped")]) (.tup [.tup [.str "kept"], .tup [.str "dropped"]]) fun z => z = true := by
  cases k <;> exact ⟨_, rfl, ⟨by simp [isP, isPL], by simp [isP, isPL], by decide +kernel, by decide +kernel⟩, by decide +kernel⟩
theorem eq_nilT {Q : Bool → Prop} (q : Q true) : eqQ id (.tup []) (.tup []) Q := ⟨⟨by simp [isP, isPL], by simp [isP, isPL], by decide +kernel, by decide +kernel⟩, by
  have e : PyData.eqv (toP (.tup [])) (toP (.tup [])) = true := by decide +kernel
  rw [e]; exact q⟩
theorem strN {s t : Str} (h : s ≠ t) {A B : Prop} (b : B) : eqQ id (.str s) (.str t) fun z => (z = true → A) ∧ (z = false → B) := by
  show _ ∧ _
  rw [id, decide_eq_false h]; exact two_f b
theorem strY {s t : Str} (h : s = t) {A B : Prop} (b : A) : eqQ id (.str s) (.str t) fun z => (z = true → A) ∧ (z = false → B) := by
  show _ ∧ _
  rw [id, decide_eq_true h]; exact two_t b
theorem natQ_t {n : Int} {A B : Prop} (h : 0 ≤ n) (b : B) : truQ (.bl (isNatD (.int n))) fun z => ((!z) = true → A) ∧ ((!z) = false → B) := by
  have e : isNatD (.int n) = true := decide_eq_true h
  show ((!isNatD (.int n)) = true → A) ∧ ((!isNatD (.int n)) = false → B)
  rw [e]; exact two_f b
end
end E5
set_option Elab.async false
set_option linter.all false
set_option maxRecDepth 100000
set_option maxHeartbeats 4000000
/-! pages behind a row, the program's and the law's -/
namespace E5
open PySem PySem.Spec PyProof.Rows L2 Y Z
open Evl (Ex st_of sq_of ex_l ex_t fresh_back sz_of sz_lt)
section
variable {P : Program} {w : World} {K : PySem.W.Frag} {mg : Str → Option Value} {base : Heap}
def dPage : List Dt → (Dt → Prop) → Prop := fun ds Q => ∃ p : Pg, ds = [pgD p] ∧ PgOk p ∧ Q (.bl true)
theorem ownD_ispage (D : Def K mg "is_page" sp_is_page) (B : Blt mg) (ON : OwnD P w K mg base "is_natural" ["thing"] 2 dIsNat) (OC : OwnD P w K mg base "is_content" ["thing"] 4 dCont) : OwnD P w K mg base "is_page" ["thing"] 5 dPage := by
  refine ownD D cp_is_page (fun ds Q Q' k ⟨s, e, p, q⟩ => ⟨s, e, p, k _ q⟩) (fun ds Q ⟨s, e, _⟩ => by subst e; rfl) (fun _ _ _ _ _ _ us hl => match us, hl with | [_], _ => rfl) ?_
  rintro X ds Q ⟨f, cdv, A, outer, s0, H, E, rfl⟩ hr ⟨p, rfl, ok, q⟩
  refine s_ret <| d_andN <| d_isT B (by rfl) (by rfl) <| d_nm 0 rfl ⟨_, rfl, two_t <| d_andN <| d_eq hr.units <| .of <| d_len (by rfl) B.len <| .of <| d_nm 0 rfl <| .of <| d_int <| two_t <| d_andN <| d_own ON (hr.mono (by decide)) (by rfl) <| l_cons <| d_ix <| d_nm 0 rfl <| d_int ⟨_, atI_0, l_nil ⟨_, rfl, rfl, nat_t (Q := fun d => blQ d _) ok.n <| two_t <| d_one <| d_own OC (hr.mono (by decide)) (by rfl) <| l_cons <| d_ix <| d_nm 0 rfl <| d_int ⟨_, atI_1, l_nil ⟨p.2, rfl, ok.c, q⟩⟩⟩⟩⟩
def dPages : List Dt → (Dt → Prop) → Prop := fun ds Q => ∃ ps : List Pg, ds = [pgsD ps] ∧ (∀ p ∈ ps, PgOk p) ∧ ps ≠ [] ∧ ps.length ≤ 1000 ∧ Q (.bl true)
theorem ownD_arepages (D : Def K mg "are_pages" sp_are_pages) (B : Blt mg) (OP : OwnD P w K mg base "is_page" ["thing"] 5 dPage) : OwnD P w K mg base "are_pages" ["thing"] 6 dPages := by
  refine ownD D cp_are_pages (fun ds Q Q' k ⟨s, e, p, p2, p3, q⟩ => ⟨s, e, p, p2, p3, k _ q⟩) (fun ds Q ⟨s, e, _⟩ => by subst e; rfl) (fun _ _ _ _ _ _ us hl => match us, hl with | [_], _ => rfl) ?_
  rintro X ds Q ⟨f, cdv, A, outer, s0, H, E, rfl⟩ hr ⟨ps, rfl, ok, ne, few, q⟩
  have nd := cp_are_pages.nd
  have pos : (0 : Int) < ((ps.map pgD).length : Int) := by rw [List.length_map]; have := List.length_pos_iff.mpr ne; omega
  refine s_ret <| d_andN <| d_isT B (by rfl) (by rfl) <| d_nm 0 rfl ⟨_, rfl, two_t <| d_andN <| d_gt <| .of <| d_len (by rfl) B.len <| .of <| d_nm 0 rfl <| .of <| d_int <| ord_v (decide_eq_true pos) ?_⟩
  refine two_t <| d_one <| d_all rfl (by rfl) B.all (.ofN (n_lc (own := [("page", 1)]) rfl nd (blkOk_by (N := np_are_pages) (sc := defScope sp_are_pages) (by decide +kernel)) (gb_nm 1 (fun _ _ _ _ _ => pg_name (i := 1) nd rfl (Or.inl rfl))) (by simp) (i_tup <| d_nm 0 rfl ?_)))
  dsimp only [tuQ]
  refine LcQ.map (fun _ => .bl true) (by rw [List.length_map]; omega) (fun d hd => ?_) (all_bls q)
  obtain ⟨p, hp, rfl⟩ := List.mem_map.mp hd
  exact ⟨_, rfl, fun s1 H' C cl fp => d_own OP (hr.mono (by decide)) (by rfl) <| l_cons <| d_nm 1 rfl <| l_nil ⟨p, rfl, ok p hp, rfl⟩⟩
/-! ### with_page, after_row, applied -/
theorem rep_pg {k : Nat} : (List.replicate k [Dt.int 0, Dt.non]).flatten = (List.replicate k [Dt.int 0, Dt.non]).flatten := rfl
def dWith : List Dt → (Dt → Prop) → Prop := fun ds Q => ∃ (ps : List Pg) (n : Nat) (p : Pg), ds = [pgsD ps, .int (n : Int), pgD p] ∧ ps.length ≤ 100 ∧ n ≤ 100 ∧ Q (pgsD (setPg ps n p))
def dAfter : List Dt → (Dt → Prop) → Prop := fun ds Q => ∃ (ps : List Pg) (num : Int) (r : Ro), ds = [pgsD ps, .int num, roD r] ∧ ps.length ≤ 100 ∧ roN r ≤ 100 ∧ Q (pgsD (afterRo ps num r))
theorem inD_2 {s a b : Str} : Z.inD (.str s) [.str a, .str b] = (decide (s = a) || decide (s = b)) := by
  unfold Z.inD
  show ((a == s) || ((b == s) || false)) = _
  have e : ∀ x : Str, (x == s) = decide (s = x) := fun x => by rw [Bool.eq_iff_iff, beq_iff_eq, decide_eq_true_eq]; exact eq_comm
  rw [Bool.or_false, e, e]
end
end E5
set_option Elab.async false
set_option linter.all false
set_option maxRecDepth 100000
set_option maxHeartbeats 4000000
/-! the law's draws -/
namespace E5
open PySem PySem.Spec PyProof.Rows L2 Y Z
open Evl (Ex st_of sq_of ex_l ex_t fresh_back sz_of sz_lt)
abbrev deckD (P : Program) (w : World) (dk lf : Addr) : Dt := .dk dk lf (phiD P w dk lf) (phiL P w lf)
theorem listKey {l : List Str} (h : l.all (fun s => decide (1 ≤ s.length) && decide (s.length ≤ 9) && s.cps.toList.all fun c => decide (97 ≤ c) && decide (c ≤ 122)) = true) : ∀ s ∈ l, KeyS s := fun s hs => by
  have := List.all_eq_true.mp h s hs
  simp only [Bool.and_eq_true, decide_eq_true_eq, List.all_eq_true] at this
  exact ⟨this.1.1, this.1.2, this.2⟩
section
variable {P : Program} {w : World} {K : PySem.W.Frag} {mg : Str → Option Value} {base : Heap}
theorem Deck.rp {H : Hp} {dk : Addr} (h : Deck P w H dk) : ∃ lf, Rp K H (.ref dk) (deckD P w dk lf) := let ⟨lf, a, b, c⟩ := h; ⟨lf, .dk a b c⟩
theorem rp_deck {B H : Hp} {v : V} {dk lf : Addr} (h : Rp K B v (deckD P w dk lf)) (e : Ex B H) : v = .ref dk ∧ Deck P w H dk := by
  cases h with
  | dk a b c => exact ⟨rfl, lf, e _ _ a, e _ _ b, c⟩
/-- a deck, from a script -/
def dDealt (P : Program) (w : World) : List Dt → (Dt → Prop) → Prop := fun ds Q => ∃ ns : List Int, ds = [.lst (ns.map Dt.int)] ∧ ns.length ≤ 63 ∧ ∀ dk lf : Addr, Q (deckD P w dk lf)
theorem ownD_dealt (O : Own P w K mg base "_law_dealt" ["_law_script"] 1 (spDeck P w K)) : OwnD P w K mg base "_law_dealt" ["_law_script"] 1 (dDealt P w) :=
  ⟨O.imp fun vs H Q E ⟨B, ds, s, r, ns, e, hl, q⟩ => by
    subst e
    cases r with
    | cons r1 r2 =>
      cases r2
      cases r1 with
      | lst ha hx => exact ⟨_, ns, rfl, by rw [← hx.ints]; exact ex_l s ha, hl, fun dk lf H' n1 n2 h1 h2 h3 e => by
          have b1 : B dk = none := fresh_back s n1
          have b2 : B lf = none := fresh_back s n2
          have e1 : Ex B (upd (upd B dk (.ext (phiD P w dk lf))) lf (.ext (phiL P w lf))) := (Ex.new b1).trans (Ex.new (by rw [upd_ne (Ne.symm h3)]; exact b2))
          refine q dk lf (upd (upd B dk (.ext (phiD P w dk lf))) lf (.ext (phiL P w lf))) _ H' ⟨e1, e, fun a o z => ?_, fun a u z m n => ?_⟩ (.dk (by rw [upd_ne h3, upd_same]) upd_same h3)
          · by_cases x2 : a = lf
            · subst x2; rw [upd_same] at z; rw [← z]; exact h2
            · rw [upd_ne x2] at z
              by_cases x1 : a = dk
              · subst x1; rw [upd_same] at z; rw [← z]; exact h1
              · rw [upd_ne x1] at z; exact (s.trans e) _ _ z
          · rw [upd_ne (fun y => by subst y; rw [n2] at z; cases z), upd_ne (fun y => by subst y; rw [n1] at z; cases z)]; exact n⟩, fun ds Q Q' k ⟨ns, e, a, q⟩ => ⟨ns, e, a, fun dk lf => k _ (q dk lf)⟩⟩
def dDraw (P : Program) (w : World) : List Dt → (Dt → Prop) → Prop := fun ds Q => ∃ (dk lf : Addr) (n : Int), ds = [deckD P w dk lf, .int n] ∧ 1 ≤ n ∧ n < 1073741824 ∧ ∀ r : Int, 0 ≤ r → r < n → Q (.int r)
theorem ownD_draw (O : Own P w K mg base "_law_draw" psDraw 1 (spDraw P w)) : OwnD P w K mg base "_law_draw" psDraw 1 (dDraw P w) :=
  ⟨O.imp fun vs H Q E ⟨B, ds, s, r, dk, lf, n, e, h1, h2, q⟩ => by
    subst e
    cases r with
    | cons r1 r2 =>
      cases r2 with
      | cons r3 r4 =>
        cases r3
        cases r4
        obtain ⟨ev, hd⟩ := rp_deck r1 s
        subst ev
        exact ⟨dk, n, rfl, hd, h1, h2, fun r H' r0 r1 e => q r r0 r1 B _ H' (Gr.more s e) (.int r)⟩, fun ds Q Q' k ⟨dk, lf, n, e, a, b, q⟩ => ⟨dk, lf, n, e, a, b, fun r r0 r1 => k _ (q r r0 r1)⟩⟩
/-- a pick: an item of a list, a sign of a text -/
def pickQ (x : Dt) (Q : Dt → Prop) : Prop := (∃ xs, x = .lst xs ∧ 1 ≤ xs.length ∧ xs.length < 1000000 ∧ ∀ d ∈ xs, Q d) ∨ ∃ s, x = .str s ∧ 1 ≤ s.length ∧ s.length < 1000 ∧ ∀ c ∈ s.cps.toList, Q (.str ⟨#[c]⟩)
def dPick (P : Program) (w : World) : List Dt → (Dt → Prop) → Prop := fun ds Q => ∃ (dk lf : Addr) (x : Dt), ds = [deckD P w dk lf, x] ∧ pickQ x Q
theorem pickQ.weak {x : Dt} {Q Q' : Dt → Prop} (h : pickQ x Q) (k : ∀ d, Q d → Q' d) : pickQ x Q' := h.imp (fun ⟨xs, e, a, b, q⟩ => ⟨xs, e, a, b, fun d h => k _ (q d h)⟩) fun ⟨s, e, a, b, q⟩ => ⟨s, e, a, b, fun d h => k _ (q d h)⟩
theorem ownD_pick (D : Def K mg "_law_pick" sl_pick) (O : OwnD P w K mg base "_law_draw" psDraw 1 (dDraw P w)) (ml : mg "len" = none) : OwnD P w K mg base "_law_pick" psPick 2 (dPick P w) := by
  refine ownD D cl_pick (fun ds Q Q' k ⟨dk, lf, x, e, q⟩ => ⟨dk, lf, x, e, q.weak k⟩) (fun ds Q ⟨dk, lf, xs, e, _⟩ => by subst e; rfl) (fun _ _ _ _ _ _ us hl => match us, hl with | [_, _], _ => rfl) ?_
  rintro X ds Q ⟨f, cdv, A, outer, s0, H, E, rfl⟩ hr ⟨dk, lf, x, rfl, q⟩
  rcases q with ⟨xs, rfl, h1, h2, q⟩ | ⟨s, rfl, h1, h2, q⟩
  · refine s_ret <| d_ix <| d_nm 1 rfl <| d_own O hr (by rfl) <| l_cons <| d_nm 0 rfl <| l_cons <| d_len (by rfl) ml <| .of <| d_nm 1 rfl <| l_nil ⟨dk, lf, _, rfl, by omega, by omega, fun r r0 r1 => ?_⟩
    obtain ⟨n, rfl⟩ : ∃ n : Nat, r = (n : Int) := ⟨r.toNat, by omega⟩
    have hn : n < xs.length := by omega
    exact ⟨xs[n], atI_nat (List.getElem?_eq_getElem hn), q _ (List.getElem_mem hn)⟩
  · refine s_ret <| d_ix <| d_nm 1 rfl <| d_own O hr (by rfl) <| l_cons <| d_nm 0 rfl <| l_cons <| d_len (by rfl) ml <| .of <| d_nm 1 rfl ⟨Nat.le_trans (Nat.le_of_lt h2) (by decide), l_nil ⟨dk, lf, _, rfl, by omega, by omega, fun r r0 r1 => ?_⟩⟩
    obtain ⟨n, rfl⟩ : ∃ n : Nat, r = (n : Int) := ⟨r.toNat, by omega⟩
    have hn : n < s.cps.toList.length := by show n < s.length; omega
    exact ⟨by omega, s.cps.toList[n], atI_nat (List.getElem?_eq_getElem hn), q _ (List.getElem_mem hn)⟩
end
end E5
set_option linter.all false
set_option maxRecDepth 100000
namespace E5
open PySem PyProof.Rows
/-- a word of letters from a to z -/
def Wd (s : Str) : Prop := 1 ≤ s.length ∧ s.length ≤ 10 ∧ ∀ c ∈ s.cps.toList, 97 ≤ c ∧ c ≤ 122
theorem abc : (Str.ofString "abcdefghijklmnopqrstuvwxyz").cps.toList = (List.range 26).map (· + 97) := by decide +kernel
theorem abc_len : (Str.ofString "abcdefghijklmnopqrstuvwxyz").length = 26 := by decide +kernel
theorem abc_at {r : Nat} (h : r < 26) : (Str.ofString "abcdefghijklmnopqrstuvwxyz").cps.toList[r]? = some (r + 97) := by
  rw [abc, List.getElem?_map, List.getElem?_range h]; rfl
def ofCs (cs : List Nat) : Str := ⟨cs.toArray⟩
theorem ofCs_len (cs : List Nat) : (ofCs cs).length = cs.length := by
  show cs.toArray.size = _; simp
theorem ofCs_toList (cs : List Nat) : (ofCs cs).cps.toList = cs := by
  show cs.toArray.toList = _; simp
theorem ofCs_app (a b : List Nat) : ofCs a ++ ofCs b = ofCs (a ++ b) := by
  show (⟨a.toArray ++ b.toArray⟩ : Str) = ⟨(a ++ b).toArray⟩
  simp
theorem str_eta (s : Str) : ofCs s.cps.toList = s := by
  cases s; simp [ofCs]
theorem join1 : ∀ cs : List Nat, Str.join ⟨#[]⟩ (cs.map fun c => (⟨#[c]⟩ : Str)) = ofCs cs
  | [] => rfl
  | [c] => rfl
  | c :: d :: r => by
    have ih := join1 (d :: r)
    show (⟨#[c]⟩ : Str) ++ ⟨#[]⟩ ++ Str.join ⟨#[]⟩ ((d :: r).map fun c => (⟨#[c]⟩ : Str)) = _
    rw [ih]
    show (⟨(#[c] ++ #[]) ++ (d :: r).toArray⟩ : Str) = ⟨(c :: d :: r).toArray⟩
    congr 1
    apply Array.ext'
    simp
/-- more different things than there are places -/
theorem pigeon {α : Type} [DecidableEq α] : ∀ (l D : List α), l.Nodup → (∀ x ∈ l, x ∈ D) → l.length ≤ D.length
  | [], _, _, _ => Nat.zero_le _
  | x :: l, D, hn, hs => by
    obtain ⟨h1, h2⟩ := List.nodup_cons.mp hn
    have hx : x ∈ D := hs x List.mem_cons_self
    have ih := pigeon l (D.erase x) h2 fun y hy => by
      have hne : y ≠ x := fun e => h1 (e ▸ hy)
      exact (List.mem_erase_of_ne hne).2 (hs y (List.mem_cons_of_mem _ hy))
    have e := List.length_erase_of_mem hx
    have hp : 0 < D.length := List.length_pos_of_mem hx
    rw [List.length_cons]
    omega
/-- the names that are tried -/
def cand (c0 t : Nat) : Str := ofCs [c0, t / 26 + 97, t % 26 + 97]
theorem cand_inj {c0 s t : Nat} (h : cand c0 s = cand c0 t) : s = t := by
  have e : (cand c0 s).cps.toList = (cand c0 t).cps.toList := by rw [h]
  rw [cand, cand, ofCs_toList, ofCs_toList] at e
  simp only [List.cons.injEq, true_and, and_true] at e
  omega
theorem cand_wd {c0 t : Nat} (h : 97 ≤ c0 ∧ c0 ≤ 122) (ht : t < 600) : Wd (cand c0 t) := by
  refine ⟨by rw [cand, ofCs_len]; show 1 ≤ 3; decide, by rw [cand, ofCs_len]; show 3 ≤ 10; decide, fun c hc => ?_⟩
  rw [cand, ofCs_toList] at hc
  simp only [List.mem_cons, List.not_mem_nil, or_false] at hc
  rcases hc with rfl | rfl | rfl
  · exact h
  · omega
  · omega
/-- a name that isn't met after as many tries as there are names, and one more -/
theorem cand_free {c0 : Nat} {fs : List Str} (h : ∀ s, s < fs.length + 1 → cand c0 s ∈ fs) : False := by
  have := pigeon ((List.range (fs.length + 1)).map (cand c0)) fs (by
    rw [List.nodup_iff_pairwise_ne, List.pairwise_map]
    exact List.Pairwise.imp (fun {a b} hab e => hab (cand_inj e)) (List.nodup_iff_pairwise_ne.mp List.nodup_range)) (fun x hx => by
    obtain ⟨s, hs, rfl⟩ := List.mem_map.mp hx
    exact h s (List.mem_range.mp hs))
  rw [List.length_map, List.length_range] at this
  omega
end E5
set_option linter.all false
set_option maxRecDepth 100000
namespace E5
open PySem PyProof.Rows PySem.Spec
/-- texts as they are sorted -/
def ltS (a b : Str) : Prop := a.cps.toList < b.cps.toList
instance (a b : Str) : Decidable (ltS a b) := inferInstanceAs (Decidable (a.cps.toList < b.cps.toList))
theorem ltCps_iff : ∀ a b : List Nat, ltCps a b = decide (a < b)
  | [], [] => by simp [ltCps]
  | [], _ :: _ => by simp [ltCps]
  | _ :: _, [] => by simp [ltCps]
  | a :: r, b :: t => by
    have ih := ltCps_iff r t
    rw [ltCps, ih]
    by_cases h : a < b
    · simp [h, List.cons_lt_cons_iff]
    · by_cases e : a = b
      · subst e; simp [List.cons_lt_cons_iff]
      · simp [h, e, List.cons_lt_cons_iff]
theorem ltS_irrefl (a : Str) : ¬ ltS a a := List.lt_irrefl a.cps.toList
theorem ltS_trans {a b c : Str} (h : ltS a b) (g : ltS b c) : ltS a c := List.lt_trans h g
theorem str_ext {a b : Str} (h : a.cps.toList = b.cps.toList) : a = b := by
  rw [← str_eta a, ← str_eta b, h]
theorem ltS_tri (a b : Str) : ltS a b ∨ a = b ∨ ltS b a := by
  rcases Classical.em (a.cps.toList < b.cps.toList) with h | h
  · exact .inl h
  · rcases Classical.em (b.cps.toList < a.cps.toList) with g | g
    · exact .inr (.inr g)
    · exact .inr (.inl (str_ext (List.le_antisymm (List.not_lt.mp g) (List.not_lt.mp h))))
theorem rising_all : ∀ (l : List Str) (p : Str), risingS p l = true → (∀ x ∈ l, ¬ ltS x p) ∧ l.Pairwise fun a b => ¬ ltS b a
  | [], p, _ => ⟨fun _ h => (nomatch h), List.Pairwise.nil⟩
  | x :: r, p, h => by
    rw [risingS, Bool.and_eq_true, ltCps_iff] at h
    obtain ⟨h1, h2⟩ := h
    have hx : ¬ ltS x p := by
      rw [Bool.not_eq_true', decide_eq_false_iff_not] at h1
      exact h1
    obtain ⟨i1, i2⟩ := rising_all r x h2
    refine ⟨fun y hy => ?_, List.pairwise_cons.mpr ⟨i1, i2⟩⟩
    rcases List.mem_cons.mp hy with e | hy
    · rw [e]; exact hx
    · intro hl
      rcases ltS_tri x p with g | g | g
      · exact hx g
      · subst g; exact i1 y hy hl
      · exact i1 y hy (ltS_trans hl g)
/-- sorted, all different: ascending -/
theorem asc_of_sorted {ys ss : List Str} (hp : ys.Perm ss) (hs : sortedS ys = true) (hn : ss.Nodup) : ys.Pairwise ltS := by
  have hle : ys.Pairwise fun a b => ¬ ltS b a := by
    cases ys with
    | nil => exact List.Pairwise.nil
    | cons x r => exact List.pairwise_cons.mpr (rising_all r x hs)
  have hne : ys.Pairwise (· ≠ ·) := List.nodup_iff_pairwise_ne.mp (hp.nodup_iff.mpr hn)
  refine (hle.and hne).imp fun {a b} h => ?_
  rcases ltS_tri a b with g | g | g
  · exact g
  · exact absurd g h.2
  · exact absurd g h.1
/-- all pairs, the smaller one first, in their order -/
def allP : List Str → List (Str × Str)
  | [] => []
  | x :: r => (x :: r).map (fun y => (x, y)) ++ allP r
def ltP (p q : Str × Str) : Prop := ltS p.1 q.1 ∨ (p.1 = q.1 ∧ ltS p.2 q.2)
theorem allP_mem : ∀ {l : List Str} {p : Str × Str}, p ∈ allP l → p.1 ∈ l ∧ p.2 ∈ l
  | x :: r, p, h => by
    rcases List.mem_append.mp h with h | h
    · obtain ⟨y, hy, rfl⟩ := List.mem_map.mp h
      exact ⟨List.mem_cons_self, hy⟩
    · obtain ⟨a, b⟩ := allP_mem h
      exact ⟨List.mem_cons_of_mem _ a, List.mem_cons_of_mem _ b⟩
theorem allP_asc : ∀ {l : List Str}, l.Pairwise ltS → (allP l).Pairwise ltP
  | [], _ => List.Pairwise.nil
  | x :: r, h => by
    obtain ⟨h1, h2⟩ := List.pairwise_cons.mp h
    refine List.pairwise_append.mpr ⟨?_, allP_asc h2, fun p hp q hq => ?_⟩
    · rw [List.pairwise_map]
      exact h.imp fun {a b} g => .inr ⟨rfl, g⟩
    · obtain ⟨y, hy, rfl⟩ := List.mem_map.mp hp
      exact .inl (h1 q.1 (allP_mem hq).1)
theorem allP_le : ∀ {l : List Str}, l.Pairwise ltS → ∀ p ∈ allP l, ¬ ltS p.2 p.1
  | x :: r, h, p, hp => by
    obtain ⟨h1, h2⟩ := List.pairwise_cons.mp h
    rcases List.mem_append.mp hp with hp | hp
    · obtain ⟨y, hy, rfl⟩ := List.mem_map.mp hp
      rcases List.mem_cons.mp hy with e | hy
      · rw [e]; exact ltS_irrefl x
      · exact fun g => ltS_irrefl x (ltS_trans (h1 y hy) g)
    · exact allP_le h2 p hp
theorem allP_len : ∀ l : List Str, 2 * (allP l).length = l.length * (l.length + 1)
  | [] => rfl
  | x :: r => by
    have ih := allP_len r
    rw [allP, List.length_append, List.length_map, List.length_cons, Nat.mul_add, ih, ← Nat.add_mul, Nat.mul_comm]
    congr 1
    omega
/-- what _law_table makes -/
structure TableOk (kinds : List Str) (pairs : List (Str × Str)) : Prop where
  wd : ∀ k ∈ kinds, Wd k
  asc : kinds.Pairwise ltS
  sub : pairs.Sublist (allP kinds)
  few : kinds.length ≤ 12
theorem TableOk.pasc {kinds : List Str} {pairs : List (Str × Str)} (t : TableOk kinds pairs) : pairs.Pairwise ltP := (allP_asc t.asc).sublist t.sub
theorem TableOk.pmem {kinds : List Str} {pairs : List (Str × Str)} (t : TableOk kinds pairs) {p : Str × Str} (h : p ∈ pairs) : p.1 ∈ kinds ∧ p.2 ∈ kinds ∧ ¬ ltS p.2 p.1 := ⟨(allP_mem (t.sub.subset h)).1, (allP_mem (t.sub.subset h)).2, allP_le t.asc p (t.sub.subset h)⟩
theorem TableOk.plen {kinds : List Str} {pairs : List (Str × Str)} (t : TableOk kinds pairs) : pairs.length ≤ 78 := by
  have h1 := t.sub.length_le
  have h2 := allP_len kinds
  have h3 : kinds.length * (kinds.length + 1) ≤ 12 * 13 := Nat.mul_le_mul t.few (Nat.succ_le_succ t.few)
  omega
end E5
set_option Elab.async false
set_option linter.all false
set_option maxRecDepth 100000
set_option maxHeartbeats 4000000
/-! keys, worths, contents, operations that are drawn -/
namespace E5
open PySem PySem.Spec PyProof.Rows L2 Y Z
open Evl (Ex st_of sq_of ex_l ex_t fresh_back sz_of sz_lt)
theorem join2 (cs : List Nat) : Txt.join (Str.ofString "") (cs.map fun c => (⟨#[c]⟩ : Str)) = ofCs cs := by
  show PySem.Builtin.Str.glued (Str.ofString "") _ = _
  rw [PySem.StrLaws.glued_eq_join, show Str.ofString "" = (⟨#[]⟩ : Str) by decide +kernel]
  exact join1 cs
theorem ltB_iff {a b : Str} : ltB a b = true ↔ ltS a b := decide_eq_true_iff
section
variable {P : Program} {w : World} {K : PySem.W.Frag} {mg : Str → Option Value} {base : Heap}
/-- one of a list of data -/
theorem pick_l {xs : List Dt} {Q : Dt → Prop} (h1 : 1 ≤ xs.length) (h2 : xs.length < 1000000) (q : ∀ d ∈ xs, Q d) : pickQ (.lst xs) Q := .inl ⟨xs, rfl, h1, h2, q⟩
def dLKey (P : Program) (w : World) : List Dt → (Dt → Prop) → Prop := fun ds Q => ∃ dk lf : Addr, ds = [deckD P w dk lf] ∧ ∀ s, KeyS s → Q (.str s)
theorem ownD_lkey (D : Def K mg "_law_key" sl_key) (OD : OwnD P w K mg base "_law_draw" psDraw 1 (dDraw P w)) (OP : OwnD P w K mg base "_law_pick" psPick 2 (dPick P w)) (mr : mg "range" = none) : OwnD P w K mg base "_law_key" ["_law_deck"] 3 (dLKey P w) := by
  refine ownD D cl_key (fun ds Q Q' k ⟨dk, lf, e, q⟩ => ⟨dk, lf, e, fun s h => k _ (q s h)⟩) (fun ds Q ⟨dk, lf, e, _⟩ => by subst e; rfl) (fun _ _ _ _ _ _ us hl => match us, hl with | [_], _ => rfl) ?_
  rintro X ds Q ⟨f, cdv, A, outer, s0, H, E, rfl⟩ hr ⟨dk, lf, rfl, q⟩
  have nd := cl_key.nd
  refine s_setO 1 (n_lst <| l_cons <| d_str <| l_cons <| d_str <| l_cons <| d_str <| l_cons <| d_str <| l_cons <| d_str <| l_cons <| d_str <| l_cons <| d_str <| l_cons <| d_str <| l_cons <| d_str <| l_cons <| d_str <| l_nil ⟨by show 10 ≤ 100000; decide, ?_⟩) nd
  refine s_freeze 1 rfl ?_
  refine s_when <| t_gt <| .of <| d_own OD (hr.mono (by decide)) (by rfl) <| l_cons <| d_nm 0 rfl <| l_cons <| d_int <| l_nil ⟨dk, lf, 4, rfl, by decide, by decide, fun r r0 r1 => .of <| d_int ?_⟩
  refine (show _ ∧ _ from ⟨fun _ => ?_, fun _ => ?_⟩)
  · refine s_ret <| d_own OP hr (by rfl) <| l_cons <| d_nm 0 rfl <| l_cons <| d_nm 1 rfl <| l_nil ⟨dk, lf, _, rfl, pick_l (by show 1 ≤ 10; decide) (by show 10 < 1000000; decide) fun d hd => ?_⟩
    have hk := listKey (l := ["a", "b", "c", "ab", "z", "abcdefghi", "m", "k", "zz", "ba"]) (by decide +kernel)
    have hd : d ∈ (["a", "b", "c", "ab", "z", "abcdefghi", "m", "k", "zz", "ba"] : List Str).map Dt.str := hd
    obtain ⟨s, hs, rfl⟩ := List.mem_map.mp hd
    exact q s (hk s hs)
  · refine s_ret <| d_join <| d_str ⟨_, rfl, .ofN <| n_lc (own := [("_law_sign", 2)]) rfl nd (blkOk_by (N := nl_key) (sc := defScope sl_key) (by decide +kernel)) (gb_nm 2 (fun _ _ _ _ _ => pg_name (i := 2) nd rfl (Or.inl rfl))) (by simp) (i_rng (by rfl) mr <| d_own OP (hr.mono (by decide)) (by rfl) <| l_cons <| d_nm 0 rfl <| l_cons <| .ofN <| n_lst <| l_cons <| d_int <| l_cons <| d_int <| l_cons <| d_int <| l_cons <| d_int <| l_nil ⟨by show 4 ≤ 100000; decide, l_nil ⟨dk, lf, _, rfl, pick_l (by show 1 ≤ 4; decide) (by show 4 < 1000000; decide) fun d hd => ?_⟩⟩)⟩
    obtain ⟨n, rfl, n1, n2⟩ : ∃ n : Nat, d = .int (n : Int) ∧ 1 ≤ n ∧ n ≤ 9 := by
      simp only [List.mem_cons, List.not_mem_nil, or_false] at hd
      rcases hd with rfl | rfl | rfl | rfl
      · exact ⟨1, rfl, by decide, by decide⟩
      · exact ⟨2, rfl, by decide, by decide⟩
      · exact ⟨9, rfl, by decide, by decide⟩
      · exact ⟨4, rfl, by decide, by decide⟩
    refine ⟨⟨by omega, by omega⟩, ?_⟩
    refine ⟨by rw [rngD_len]; omega, fun t acc => ∃ cs : List Nat, acc = (cs.map fun c => (⟨#[c]⟩ : Str)).map Dt.str ∧ cs.length = t ∧ ∀ c ∈ cs, 97 ≤ c ∧ c ≤ 122, ⟨[], rfl, rfl, fun c h => nomatch h⟩, ?_, ?_⟩
    · rintro t d acc hd ⟨cs, rfl, hl, hc⟩
      refine ⟨_, rfl, fun s1 H' C cl fp => d_own OP (hr.mono (by decide)) (by rfl) <| l_cons <| d_nm 0 rfl <| l_cons <| d_str <| l_nil ⟨dk, lf, _, rfl, .inr ⟨_, rfl, by rw [abc_len]; decide, by rw [abc_len]; decide, fun c h => ⟨cs ++ [c], by simp, by simp [hl], fun x hx => ?_⟩⟩⟩⟩
      rcases List.mem_append.mp hx with hx | hx
      · exact hc x hx
      · rw [List.mem_singleton.mp hx]
        rw [abc, List.mem_map] at h
        obtain ⟨k, hk, rfl⟩ := h
        have := List.mem_range.mp hk
        omega
    · rintro acc _ ⟨cs, rfl, hl, hc⟩
      rw [rngD_len] at hl
      have hl : cs.length = n := by omega
      have h1 : ∀ l : List Nat, ((l.map fun c => (⟨#[c]⟩ : Str)).map (·.length)).sum = l.length := fun l => by
        induction l with
        | nil => rfl
        | cons x r ih =>
          rw [List.map_cons, List.map_cons, List.sum_cons, ih, List.length_cons]
          show 1 + r.length = r.length + 1
          omega
      refine ⟨_, rfl, ?_, ?_⟩
      · rw [h1]
        show cs.length + _ * 0 ≤ 16777216
        omega
      · rw [join2]
        exact q _ ⟨by rw [ofCs_len]; omega, by rw [ofCs_len]; omega, fun c h => hc c (by rwa [ofCs_toList] at h)⟩
def dLWorth (P : Program) (w : World) : List Dt → (Dt → Prop) → Prop := fun ds Q => ∃ dk lf : Addr, ds = [deckD P w dk lf] ∧ ∀ n : Int, Num n → Q (.int n)
theorem ownD_lworth (D : Def K mg "_law_worth" sl_worth) (OD : OwnD P w K mg base "_law_draw" psDraw 1 (dDraw P w)) (OP : OwnD P w K mg base "_law_pick" psPick 2 (dPick P w)) : OwnD P w K mg base "_law_worth" ["_law_deck"] 3 (dLWorth P w) := by
  refine ownD D cl_worth (fun ds Q Q' k ⟨dk, lf, e, q⟩ => ⟨dk, lf, e, fun s h => k _ (q s h)⟩) (fun ds Q ⟨dk, lf, e, _⟩ => by subst e; rfl) (fun _ _ _ _ _ _ us hl => match us, hl with | [_], _ => rfl) ?_
  rintro X ds Q ⟨f, cdv, A, outer, s0, H, E, rfl⟩ hr ⟨dk, lf, rfl, q⟩
  refine s_ret <| d_own OP hr (by rfl) <| l_cons <| d_nm 0 rfl <| l_cons <| .ofN <| n_lst <| l_cons <| d_int <| l_cons <| d_int <| l_cons <| d_neg <| d_int <| l_cons <| d_int <| l_cons <| d_int <| l_cons <| d_int <| l_cons <| d_neg <| d_int <| l_cons <| d_sub <| d_own OD (hr.mono (by decide)) (by rfl) <| l_cons <| d_nm 0 rfl <| l_cons <| d_int <| l_nil ⟨dk, lf, 1000, rfl, by decide, by decide, fun r r0 r1 => d_int ⟨True.intro, l_cons <| d_int <| l_cons <| d_int <| l_nil ⟨by show 10 ≤ 100000; decide, l_nil ⟨dk, lf, _, rfl, pick_l (by show 1 ≤ 10; decide) (by show 10 < 1000000; decide) fun d hd => ?_⟩⟩⟩⟩
  simp only [List.mem_cons, List.not_mem_nil, or_false] at hd
  rcases hd with rfl | rfl | rfl | rfl | rfl | rfl | rfl | rfl | rfl | rfl
  · exact q _ (by decide)
  · exact q _ (by decide)
  · exact q _ (by decide)
  · exact q _ (by decide)
  · exact q _ (by decide)
  · exact q _ (by decide)
  · exact q _ (by decide)
  · exact q _ ⟨by omega, by omega⟩
  · exact q _ (by decide)
  · exact q _ (by decide)
end
end E5
set_option Elab.async false
set_option linter.all false
set_option maxRecDepth 100000
set_option maxHeartbeats 4000000
/-! contents, operations, rows that are drawn; the law's pages behind a row; the program's applied -/
namespace E5
open PySem PySem.Spec PyProof.Rows L2 Y Z
open Evl (Ex st_of sq_of ex_l ex_t fresh_back sz_of sz_lt)
theorem asc_nd {out : List Str} (h1 : out.Nodup) (h2 : sortedS out = true) : out.Pairwise fun a b => ltB a b = true := (asc_of_sorted (.refl out) h2 h1).imp fun h => ltB_iff.mpr h
section
variable {P : Program} {w : World} {K : PySem.W.Frag} {mg : Str → Option Value} {base : Heap}
def dLApp : List Dt → (Dt → Prop) → Prop := fun ds Q => ∃ (ps : List Pg) (num : Int) (r : Ro), ds = [pgsD ps, .int num, roD r] ∧ ps.length ≤ 100 ∧ roN r ≤ 100 ∧ 1 ≤ num ∧ Q (pgsD (afterRo ps num r))
theorem ownD_lapp (D : Def K mg "_law_applied" sl_applied) (mr : mg "range" = none) (ml : mg "len" = none) (mt : mg "tuple" = none) (mi : mg "list" = none) : OwnD P w K mg base "_law_applied" ["_law_pages", "_law_number", "_law_row"] 1 dLApp := by
  refine ownD D cl_applied (fun ds Q Q' k ⟨s, n, p, e, p2, p3, p4, q⟩ => ⟨s, n, p, e, p2, p3, p4, k _ q⟩) (fun ds Q ⟨s, n, p, e, _⟩ => by subst e; rfl) (fun _ _ _ _ _ _ us hl => match us, hl with | [_, _, _], _ => rfl) ?_
  rintro X ds Q ⟨f, cdv, A, outer, s0, H, E, rfl⟩ hr ⟨ps, num, r, rfl, few, hn, hnum, q⟩
  have nd := cl_applied.nd
  have out : ∀ (s : Str) (rest : List Dt), roD r = .tup (.str s :: rest) → s ≠ "page" → s ≠ "unpage" → afterRo ps num r = ps → DS (cxOf CX0 P w K mg base nl_applied "_law_applied" (defScope sl_applied) f cdv A outer s0 H E).nox (startD nl_applied [pgsD ps, .int num, roD r]) (defBody sl_applied) { nx := fun _ => Q .non, rt := Q } := fun s rest e n1 n2 ea => by
    rw [e]
    rw [ea] at q
    refine s_when <| t_nin <| .of <| d_ix <| d_nm 2 rfl <| d_int ⟨_, atI_0, .of <| d_tup <| l_cons <| d_str <| l_cons <| d_str <| l_nil ⟨by show 2 ≤ 100000; decide, ⟨rfl, rfl⟩, ?_⟩⟩
    rw [inD_2, decide_eq_false n1, decide_eq_false n2]
    exact two_t <| s_ret <| d_nm 0 rfl q
  have inn : ∀ (s : Str) (o : Int) (n : Nat) (m : List Dt) (c : Option Cn), roD r = .tup (.str s :: .int o :: .int (n : Int) :: (m ++ [cnD c])) → (s = "page" ∨ s = "unpage") → n ≤ 100 → afterRo ps num r = afterPg ps num n c → DS (cxOf CX0 P w K mg base nl_applied "_law_applied" (defScope sl_applied) f cdv A outer s0 H E).nox (startD nl_applied [pgsD ps, .int num, roD r]) (defBody sl_applied) { nx := fun _ => Q .non, rt := Q } := fun s o n m c e n1 hn ea => by
    rw [e]
    rw [ea] at q
    refine s_when <| t_nin <| .of <| d_ix <| d_nm 2 rfl <| d_int ⟨_, atI_0, .of <| d_tup <| l_cons <| d_str <| l_cons <| d_str <| l_nil ⟨by show 2 ≤ 100000; decide, ⟨rfl, rfl⟩, ?_⟩⟩
    have e1 : (!(Z.inD (.str s) [.str "page", .str "unpage"])) = false := by
      rw [inD_2]; rcases n1 with h | h
      · rw [decide_eq_true h]; rfl
      · rw [decide_eq_true h, Bool.or_true]; rfl
    rw [e1]
    refine two_f ?_
    have last : atI (Dt.str s :: .int o :: .int (n : Int) :: (m ++ [cnD c])) (-1) = some (cnD c) := L2.atI_last (Dt.str s :: .int o :: .int (n : Int) :: m) (cnD c)
    refine s_parFO 3 4 (d_ix <| d_nm 2 rfl <| d_int ⟨_, atI_2, n_list (by rfl) mi <| d_nm 0 rfl ⟨_, .inr rfl, ?_⟩⟩) rfl nd (by decide)
    refine s_for PassesOwn.never rfl (g_nm 5 nd) <| i_rng (by rfl) mr <| d_sub <| d_add <| d_nm 3 rfl <| d_int <| d_len (by rfl) ml <| .of <| d_nm 0 rfl ⟨True.intro, ?_⟩
    have e2 : ((n : Int) + 1 - ((ps.map pgD).length : Int)).toNat = n + 1 - ps.length := by rw [List.length_map]; omega
    refine ⟨by show -(2 ^ 62) ≤ (n : Int) + 1 - ((ps.map pgD).length : Int) ∧ (n : Int) + 1 - ((ps.map pgD).length : Int) < 2 ^ 62; rw [List.length_map]; omega, ?_⟩
    refine ⟨fun t ρ => ∃ x, ρ = [.fr (pgsD ps), .fr (.int num), .fr (.tup (Dt.str s :: .int o :: .int (n : Int) :: (m ++ [cnD c]))), .fr (.int (n : Int)), .ow (.lst ((ps ++ List.replicate t noPg).map pgD)), x], ⟨_, by rw [List.replicate_zero, List.append_nil]; rfl⟩, ?_, ?_⟩
    · rintro t d ρ1 hd ⟨x, rfl⟩
      have ht : t < n + 1 - ps.length := by
        have := (List.getElem?_eq_some_iff.mp hd).1
        rw [rngD_len, show ((fun x1 x2 => x1 - x2) ((n : Int) + 1) ((ps.map pgD).length : Int)) = (n : Int) + 1 - ((ps.map pgD).length : Int) from rfl, e2] at this; exact this
      refine ⟨_, rfl, s_append 4 rfl <| d_tup <| l_cons <| d_int <| l_cons <| d_non <| l_nil ⟨by show 2 ≤ 100000; decide, by rw [List.length_map, List.length_append, List.length_replicate]; omega, s_nil ⟨.fr d, ?_⟩⟩⟩
      have e5 : (ps ++ List.replicate (t + 1) noPg).map pgD = (ps ++ List.replicate t noPg).map pgD ++ [pgD noPg] := by rw [List.replicate_succ', ← List.append_assoc, List.map_append (l₁ := ps ++ _)]; rfl
      rw [e5]; rfl
    rintro ρ1 ⟨x, rfl⟩
    rw [rngD_len, show ((fun x1 x2 => x1 - x2) ((n : Int) + 1) ((ps.map pgD).length : Int)) = (n : Int) + 1 - ((ps.map pgD).length : Int) from rfl, e2, show ps ++ List.replicate (n + 1 - ps.length) noPg = longer ps n from rfl]
    have hl : (longer ps n).length = max ps.length (n + 1) := longer_len
    have hlt : n < (longer ps n).length := by rw [hl]; omega
    have hat : ((longer ps n).map pgD)[n]? = some (pgD (longer ps n)[n]) := by rw [List.getElem?_map, List.getElem?_eq_getElem hlt]; rfl
    refine s_when <| t_lt <| .of <| d_ix <| d_ixA <| d_nmO 4 rfl <| d_nm 3 rfl ⟨_, atI_nat hat, by simp [imm, immL, imm_cn], d_int ⟨_, atI_0, .of <| d_nm 1 rfl ?_⟩⟩
    have key : afterPg ps num n c = if (longer ps n)[n].1 < num then setPg ps n (num, c) else longer ps n := by
      unfold afterPg
      by_cases hps : n < ps.length
      · have el : longer ps n = ps := by unfold longer; rw [show n + 1 - ps.length = 0 by omega, List.replicate_zero, List.append_nil]
        rw [List.getElem?_eq_getElem hps]
        have e3 : (longer ps n)[n] = ps[n] := by simp only [el]
        rw [e3, el]
        show (if num ≤ ps[n].1 then ps else setPg ps n (num, c)) = _
        by_cases h : num ≤ ps[n].1
        · rw [if_pos h, if_neg (by omega)]
        · rw [if_neg h, if_pos (by omega)]
      · rw [List.getElem?_eq_none (by omega)]
        have e3 : (longer ps n)[n] = noPg := by
          have h1 := List.getElem?_eq_getElem hlt
          have h2 : (longer ps n)[n]? = some noPg := by unfold longer; rw [List.getElem?_append_right (by omega), List.getElem?_replicate, if_pos (by omega)]
          rw [h2] at h1; exact (Option.some.inj h1).symm
        rw [e3, if_pos (show noPg.1 < num by show (0 : Int) < num; omega)]
    refine (show _ ∧ _ from ⟨fun h => ?_, fun h => ?_⟩)
    · have h : (longer ps n)[n].1 < num := of_decide_eq_true h
      rw [if_pos h] at key
      refine s_lput 4 rfl <| d_tup <| l_cons <| d_nm 1 rfl <| l_cons <| d_ix <| d_nm 2 rfl <| d_neg <| d_int ⟨_, last, l_nil ⟨by show 2 ≤ 100000; decide, d_nm 3 rfl ⟨(n : Int), n, rfl, ?_, ?_⟩⟩⟩
      · rw [List.length_map]
        unfold ixN
        rw [if_pos (by omega)]
        simp; omega
      · refine s_nil <| s_ret <| d_tupleA (by rfl) mt <| d_nmO 4 rfl ⟨?_, ?_⟩
        · have : imm (pgsD ((longer ps n).set n (num, c))) = true := imm_pgs _
          unfold pgsD at this
          rw [List.map_set] at this
          exact this
        · rw [key] at q
          unfold setPg pgsD at q
          rw [List.map_set] at q
          exact q
    · have h : ¬ (longer ps n)[n].1 < num := of_decide_eq_false h
      rw [if_neg h] at key
      refine s_ret <| d_tupleA (by rfl) mt <| d_nmO 4 rfl ⟨imm_pgs _, ?_⟩
      rw [key] at q; exact q
  cases r with
  | page o n b a => exact inn "page" o n [cnD b] a rfl (.inl rfl) hn rfl
  | unpage o n a => exact inn "unpage" o n [] a rfl (.inr rfl) hn rfl
  | start t => exact out "start" _ rfl (by decide +kernel) (by decide +kernel) rfl
  | op t o p => exact out "op" _ rfl (by decide +kernel) (by decide +kernel) rfl
  | comp t o b => exact out "comp" _ rfl (by decide +kernel) (by decide +kernel) rfl
  | fin t k => exact out "end" _ rfl (by decide +kernel) (by decide +kernel) rfl
end
end E5
set_option Elab.async false
set_option linter.all false
set_option maxRecDepth 100000
set_option maxHeartbeats 4000000
/-! rows that are drawn; the program's applied -/
namespace E5
open PySem PySem.Spec PyProof.Rows L2 Y Z
open Evl (Ex st_of sq_of ex_l ex_t fresh_back sz_of sz_lt)
section
variable {P : Program} {w : World} {K : PySem.W.Frag} {mg : Str → Option Value} {base : Heap}
theorem num_small {n : Int} (h0 : 0 ≤ n) (h1 : n < 1000) : Nat0 n := ⟨h0, by omega, by omega⟩
def dApplied : List Dt → (Dt → Prop) → Prop := fun ds Q => ∃ (ps : List Pg) (num : Int) (r : Ro), ds = [pgsD ps, .int num, roD r] ∧ (∀ p ∈ ps, PgOk p) ∧ ps ≠ [] ∧ ps.length ≤ 100 ∧ 1 ≤ num ∧ RoOk r ∧ roN r ≤ 100 ∧ Q (pgsD (afterRo ps num r))
end
end E5
set_option Elab.async false
set_option linter.all false
set_option maxRecDepth 100000
set_option maxHeartbeats 4000000
/-! chains of pages; pages behind many rows -/
namespace E5
open PySem PySem.Spec PyProof.Rows L2 Y Z
open Evl (Ex st_of sq_of ex_l ex_t fresh_back sz_of sz_lt)
/-! ### chains -/
def cAt (ps : List Pg) (n : Nat) : Option Cn := (ps[n]?).bind (·.2)
abbrev ChS := List Nat × Option Int × Str
def prevE (ps : List Pg) (found : List Nat) : List (Str × Int) := match found.getLast? with
  | some n => (match cAt ps n with | some c => c.ents | none => [])
  | none => []
def chStep (ps : List Pg) (t : Nat) (s : ChS) : Option ChS := match s.2.1 with
  | none => some s
  | some a => match cAt ps a.toNat with
    | none => none
    | some c => if t = 0 ∧ c.low ≠ "" then none else
        if 0 < t ∧ (ltB s.2.2 c.low = false ∨ ((prevE ps s.1).any fun p => !ltB p.1 c.low) = true) then none
        else some (s.1 ++ [a.toNat], c.fol, c.low)
def chRun (ps : List Pg) : Nat → Option ChS
  | 0 => some ([], some 0, "")
  | t + 1 => (chRun ps t).bind (chStep ps t)
def chain (ps : List Pg) : Option (List Nat) := (chRun ps ps.length).bind fun s => match s.2.1 with
  | none => some s.1
  | some _ => none
theorem chRun_none {ps : List Pg} {t : Nat} (h : chRun ps t = none) : ∀ k, chRun ps (t + k) = none
  | 0 => h
  | k + 1 => by
    show (chRun ps (t + k)).bind _ = none
    rw [chRun_none h k]; rfl
theorem chain_none {ps : List Pg} {t : Nat} (h : chRun ps t = none) (ht : t ≤ ps.length) : chain ps = none := by
  unfold chain
  have := chRun_none h (ps.length - t)
  rw [show t + (ps.length - t) = ps.length by omega] at this
  rw [this]; rfl
structure ChOk (ps : List Pg) (t : Nat) (s : ChS) : Prop where
  f : ∀ n ∈ s.1, ∃ c, cAt ps n = some c
  z : 0 < t → s.1 ≠ [] ∧ 0 ∈ s.1 ∧ ∃ c, cAt ps 0 = some c ∧ c.low = ""
  a : ∀ x, s.2.1 = some x → 0 ≤ x
  i : t = 0 → s = (([], some 0, "") : ChS)
theorem cAt_ok {ps : List Pg} (h : ∀ p ∈ ps, PgOk p) {n : Nat} {c : Cn} (e : cAt ps n = some c) : CnOk c := by
  unfold cAt at e
  obtain ⟨p, hp, hc⟩ := Option.bind_eq_some_iff.mp e
  exact (h p (List.mem_of_getElem? hp)).c c hc
theorem cAt_page {ps : List Pg} {n : Nat} {c : Cn} (e : cAt ps n = some c) : ∃ m, ps[n]? = some (m, some c) := by
  unfold cAt at e
  obtain ⟨⟨m, o⟩, hp, hc⟩ := Option.bind_eq_some_iff.mp e
  exact ⟨m, by rw [hp]; exact congrArg (fun z => some (m, z)) hc⟩
theorem chRun_ok {ps : List Pg} (h : ∀ p ∈ ps, PgOk p) : ∀ {t : Nat} {s : ChS}, chRun ps t = some s → ChOk ps t s
  | 0, s, e => by
    cases e
    exact ⟨fun n hn => (nomatch hn), fun z => absurd z (Nat.lt_irrefl _), fun x e => by cases e; decide, fun _ => rfl⟩
  | t + 1, s, e => by
    obtain ⟨s0, e0, e1⟩ := Option.bind_eq_some_iff.mp (show (chRun ps t).bind (chStep ps t) = some s from e)
    have k := chRun_ok h e0
    obtain ⟨fd, a, low⟩ := s0
    unfold chStep at e1
    cases a with
    | none =>
      cases e1
      refine ⟨k.f, fun _ => ?_, k.a, fun z => by omega⟩
      rcases Nat.eq_zero_or_pos t with z | z
      · have := k.i z; simp at this
      · exact k.z z
    | some a =>
      dsimp only at e1
      cases hc : cAt ps a.toNat with
      | none => rw [hc] at e1; cases e1
      | some c =>
        rw [hc] at e1
        dsimp only at e1
        split at e1
        · cases e1
        · rename_i n1
          split at e1
          · cases e1
          · cases e1
            refine ⟨fun n hn => ?_, fun _ => ⟨by simp, ?_⟩, fun x e => ((cAt_ok h hc).fol x e).1, fun z => by omega⟩
            · rcases List.mem_append.mp hn with hn | hn
              · exact k.f n hn
              · rw [List.mem_singleton.mp hn]; exact ⟨c, hc⟩
            · rcases Nat.eq_zero_or_pos t with z | z
              · have ki := k.i z
                simp only [Prod.mk.injEq, Option.some.injEq] at ki
                obtain ⟨k1, k2, k3⟩ := ki
                subst k1 k2
                refine ⟨by simp, c, hc, ?_⟩
                by_cases hz : c.low = ""
                · exact hz
                · exact absurd ⟨z, hz⟩ n1
              · exact ⟨List.mem_append_left _ (k.z z).2.1, (k.z z).2.2⟩
theorem chain_ok {ps : List Pg} (h : ∀ p ∈ ps, PgOk p) {fs : List Nat} (e : chain ps = some fs) : (∀ n ∈ fs, ∃ c, cAt ps n = some c) ∧ 0 ∈ fs ∧ ∃ c, cAt ps 0 = some c ∧ c.low = "" := by
  unfold chain at e
  obtain ⟨s, e0, e1⟩ := Option.bind_eq_some_iff.mp e
  have k := chRun_ok h e0
  have pos : 0 < ps.length := by
    rcases Nat.eq_zero_or_pos ps.length with z | z
    · have ki := k.i z
      subst ki
      cases e1
    · exact z
  split at e1
  · cases e1
    exact ⟨k.f, (k.z pos).2⟩
  · cases e1
/-! ### many rows -/
def vw (ps : List Pg) (n : Nat) : Pg := (ps[n]?).getD noPg
/-- the page that a row speaks of, and its content -/
def roW : Ro → Option (Nat × Option Cn)
  | .page _ n _ a => some (n, a)
  | .unpage _ n a => some (n, a)
  | _ => none
theorem afterRo_w {ps : List Pg} {num : Int} {r : Ro} : afterRo ps num r = match roW r with | some (n, c) => afterPg ps num n c | none => ps := by cases r <;> rfl
theorem vw_longer {ps : List Pg} {n m : Nat} : vw (longer ps n) m = vw ps m := by
  unfold vw longer
  by_cases h : m < ps.length
  · rw [List.getElem?_append_left h]
  · rw [List.getElem?_append_right (by omega), List.getElem?_replicate]
    rw [List.getElem?_eq_none (l := ps) (by omega)]
    split <;> rfl
theorem vw_set {ps : List Pg} {n m : Nat} {p : Pg} (h : n < ps.length) : vw (ps.set n p) m = if m = n then p else vw ps m := by
  unfold vw
  rw [List.getElem?_set]
  by_cases e : n = m
  · subst e; rw [if_pos rfl, if_pos h, if_pos rfl]; rfl
  · rw [if_neg e, if_neg (Ne.symm e)]
theorem vw_setPg {ps : List Pg} {n m : Nat} {p : Pg} : vw (setPg ps n p) m = if m = n then p else vw ps m := by
  unfold setPg
  rw [vw_set (by rw [longer_len]; omega), vw_longer]
theorem vw_after {ps : List Pg} {num : Int} {n m : Nat} {c : Option Cn} (h1 : 1 ≤ num) : vw (afterPg ps num n c) m = if m = n ∧ (vw ps n).1 < num then (num, c) else vw ps m := by
  unfold afterPg
  split
  · rename_i p hp
    have e : vw ps n = p := by unfold vw; rw [hp]; rfl
    split
    · rw [if_neg (by rw [e]; omega)]
    · rw [vw_setPg]
      by_cases z : m = n
      · rw [if_pos z, if_pos ⟨z, by rw [e]; omega⟩]
      · rw [if_neg z, if_neg fun h => z h.1]
  · rename_i hp
    have e : vw ps n = noPg := by unfold vw; rw [hp]; rfl
    rw [vw_setPg]
    by_cases z : m = n
    · rw [if_pos z, if_pos ⟨z, by rw [e]; show (0 : Int) < num; omega⟩]
    · rw [if_neg z, if_neg fun h => z h.1]
theorem len_after {ps : List Pg} {num : Int} {n : Nat} {c : Option Cn} : (afterPg ps num n c).length = max ps.length (n + 1) := by
  unfold afterPg
  split
  · rename_i p hp
    have := (List.getElem?_eq_some_iff.mp hp).1
    split
    · omega
    · rw [setPg_len]
  · rw [setPg_len]
def allT (rs : List Ro) (first : Int) (ps : List Pg) : Nat → List Pg
  | 0 => ps
  | t + 1 => match rs[t]? with
    | some r => if first ≤ (t : Int) + 1 then afterRo (allT rs first ps t) ((t : Int) + 1) r else allT rs first ps t
    | none => allT rs first ps t
def iniPs : List Pg := [(0, some ⟨"", [], none⟩)]
theorem allT_take {rs : List Ro} {first : Int} {ps : List Pg} {a : Nat} : ∀ {t : Nat}, t ≤ a → allT (rs.take a) first ps t = allT rs first ps t
  | 0, _ => rfl
  | t + 1, h => by
    have e : (rs.take a)[t]? = rs[t]? := List.getElem?_take_of_lt (by omega)
    show (match (rs.take a)[t]? with | some r => _ | none => _) = _
    rw [e, allT_take (by omega)]; rfl
/-- a row's page at its step -/
def tch (rs : List Ro) (t : Nat) : Option (Nat × Option Cn) := (rs[t]?).bind roW
theorem allT_succ {rs : List Ro} {first : Int} {ps : List Pg} {t : Nat} : allT rs first ps (t + 1) = match tch rs t with
    | some (n, c) => if first ≤ (t : Int) + 1 then afterPg (allT rs first ps t) ((t : Int) + 1) n c else allT rs first ps t
    | none => allT rs first ps t := by
  show (match rs[t]? with | some r => if first ≤ (t : Int) + 1 then afterRo (allT rs first ps t) ((t : Int) + 1) r else allT rs first ps t | none => allT rs first ps t) = _
  unfold tch
  cases rs[t]? with
  | none => rfl
  | some r =>
    dsimp only [Option.bind]
    rw [afterRo_w]
    cases roW r with
    | none => dsimp only; split <;> rfl
    | some q => rfl
theorem allT_len_le {rs : List Ro} {first : Int} {ps : List Pg} {t : Nat} : (allT rs first ps t).length ≤ (allT rs first ps (t + 1)).length := by
  rw [allT_succ]
  cases tch rs t with
  | none => exact Nat.le_refl _
  | some q =>
    dsimp only
    split
    · rw [len_after]; omega
    · exact Nat.le_refl _
theorem allT_len_mono {rs : List Ro} {first : Int} {ps : List Pg} {t : Nat} : ∀ k, (allT rs first ps t).length ≤ (allT rs first ps (t + k)).length
  | 0 => Nat.le_refl _
  | k + 1 => Nat.le_trans (allT_len_mono k) allT_len_le
theorem vw_succ {rs : List Ro} {first : Int} {ps : List Pg} {t m : Nat} : vw (allT rs first ps (t + 1)) m = match tch rs t with
    | some (n, c) => if first ≤ (t : Int) + 1 ∧ m = n ∧ (vw (allT rs first ps t) n).1 < (t : Int) + 1 then ((t : Int) + 1, c) else vw (allT rs first ps t) m
    | none => vw (allT rs first ps t) m := by
  rw [allT_succ]
  cases tch rs t with
  | none => rfl
  | some q =>
    obtain ⟨n, c⟩ := q
    dsimp only
    by_cases h : first ≤ (t : Int) + 1
    · rw [if_pos h, vw_after (by omega)]
      by_cases z : m = n ∧ (vw (allT rs first ps t) n).1 < (t : Int) + 1
      · rw [if_pos z, if_pos ⟨h, z⟩]
      · rw [if_neg z, if_neg fun y => z y.2]
    · rw [if_neg h, if_neg fun y => h y.1]
/-- a page's number is no more than the rows that have been applied -/
theorem ini_num {rs : List Ro} : ∀ {t m : Nat}, (vw (allT rs 1 iniPs t) m).1 ≤ (t : Int)
  | 0, m => by
    unfold allT vw iniPs
    cases m with
    | zero => exact Int.le_refl _
    | succ m => exact Int.le_refl _
  | t + 1, m => by
    rw [vw_succ]
    have ih := ini_num (rs := rs) (t := t) (m := m)
    cases tch rs t with
    | none => dsimp only; omega
    | some q =>
      dsimp only
      split
      · show (t : Int) + 1 ≤ ((t + 1 : Nat) : Int); omega
      · omega
theorem ini_up {rs : List Ro} {t m : Nat} : (vw (allT rs 1 iniPs t) m).1 ≤ (vw (allT rs 1 iniPs (t + 1)) m).1 := by
  rw [vw_succ]
  have ih := ini_num (rs := rs) (t := t) (m := m)
  cases tch rs t with
  | none => exact Int.le_refl _
  | some q =>
    dsimp only
    split
    · show _ ≤ (t : Int) + 1; omega
    · exact Int.le_refl _
theorem ini_mono {rs : List Ro} {t m : Nat} : ∀ k, (vw (allT rs 1 iniPs t) m).1 ≤ (vw (allT rs 1 iniPs (t + k)) m).1
  | 0 => Int.le_refl _
  | k + 1 => Int.le_trans (ini_mono k) ini_up
/-- a row that speaks of a page leaves its number there -/
theorem ini_tch {rs : List Ro} {t n : Nat} {c : Option Cn} (h : tch rs t = some (n, c)) : (vw (allT rs 1 iniPs (t + 1)) n).1 = (t : Int) + 1 := by
  rw [vw_succ, h]
  dsimp only
  rw [if_pos ⟨by omega, rfl, by have := ini_num (rs := rs) (t := t) (m := n); omega⟩]
/-- one page, of an age -/
theorem page_same {rs : List Ro} {first : Int} {ps : List Pg} {n a : Nat} (hf : first ≤ (a : Int) + 1) (hv : vw ps n = vw (allT rs 1 iniPs a) n) : ∀ t, vw (allT rs first ps t) n = vw (allT rs 1 iniPs (max a t)) n
  | 0 => by rw [Nat.max_eq_left (Nat.zero_le _)]; exact hv
  | t + 1 => by
    have ih := page_same (rs := rs) (ps := ps) hf hv t
    rw [vw_succ]
    by_cases h : t < a
    · rw [Nat.max_eq_left (by omega)] at ih ⊢
      cases ht : tch rs t with
      | none => exact ih
      | some q =>
        obtain ⟨m, c⟩ := q
        dsimp only
        rw [if_neg, ih]
        rintro ⟨_, rfl, hlt⟩
        rw [ih] at hlt
        have h1 := ini_tch ht
        have h2 := ini_mono (rs := rs) (t := t + 1) (m := n) (a - (t + 1))
        rw [show t + 1 + (a - (t + 1)) = a by omega] at h2
        omega
    · rw [Nat.max_eq_right (by omega)] at ih ⊢
      rw [vw_succ]
      cases ht : tch rs t with
      | none => exact ih
      | some q =>
        obtain ⟨m, c⟩ := q
        dsimp only
        by_cases z : n = m
        · subst z
          rw [ih]
          have := ini_num (rs := rs) (t := t) (m := n)
          rw [if_pos ⟨by omega, rfl, by omega⟩, if_pos ⟨by omega, rfl, by omega⟩]
        · rw [if_neg fun y => z y.2.1, if_neg fun y => z y.2.1, ih]
theorem tch_lt {rs : List Ro} {t n : Nat} {c : Option Cn} (h : tch rs t = some (n, c)) (ht : t < rs.length) : n < (allT rs 1 iniPs rs.length).length := by
  have h1 : n + 1 ≤ (allT rs 1 iniPs (t + 1)).length := by
    rw [allT_succ, h]
    dsimp only
    rw [if_pos (by omega), len_after]; omega
  have h2 := allT_len_mono (rs := rs) (first := 1) (ps := iniPs) (t := t + 1) (rs.length - (t + 1))
  rw [show t + 1 + (rs.length - (t + 1)) = rs.length by omega] at h2
  omega
theorem len_up {rs : List Ro} {first : Int} {ps : List Pg} (h : ps.length ≤ (allT rs 1 iniPs rs.length).length) : ∀ t, t ≤ rs.length → (allT rs first ps t).length ≤ (allT rs 1 iniPs rs.length).length
  | 0, _ => h
  | t + 1, ht => by
    have ih := len_up (first := first) h t (by omega)
    rw [allT_succ]
    cases e : tch rs t with
    | none => exact ih
    | some q =>
      obtain ⟨n, c⟩ := q
      dsimp only
      split
      · rw [len_after]
        have := tch_lt e (by omega); omega
      · exact ih
theorem len_lo {rs : List Ro} {first : Int} {ps : List Pg} (hf : first ≤ 1) (h : 1 ≤ ps.length) : ∀ t, (allT rs 1 iniPs t).length ≤ (allT rs first ps t).length
  | 0 => h
  | t + 1 => by
    have ih := len_lo (rs := rs) hf h t
    rw [allT_succ, allT_succ]
    cases e : tch rs t with
    | none => exact ih
    | some q =>
      obtain ⟨n, c⟩ := q
      dsimp only
      rw [if_pos (by omega), if_pos (by omega), len_after, len_after]; omega
theorem vw_ext {ps qs : List Pg} (hl : ps.length = qs.length) (h : ∀ n, vw ps n = vw qs n) : ps = qs := by
  apply List.ext_getElem? fun n => ?_
  have := h n
  unfold vw at this
  by_cases z : n < ps.length
  · have z2 : n < qs.length := by omega
    rw [List.getElem?_eq_getElem z, List.getElem?_eq_getElem z2] at this ⊢
    exact congrArg some this
  · rw [List.getElem?_eq_none (by omega), List.getElem?_eq_none (by omega)]
/-- pages of any age come to the same -/
theorem all_same {rs : List Ro} {first : Int} {ps : List Pg} (a : Nat → Nat) (ha : ∀ n, a n ≤ rs.length ∧ first ≤ (a n : Int) + 1 ∧ vw ps n = vw (allT rs 1 iniPs (a n)) n) (h1 : 1 ≤ ps.length) (h2 : ps.length ≤ (allT rs 1 iniPs rs.length).length)
    (h3 : first ≤ 1 ∨ ps.length = (allT rs 1 iniPs rs.length).length) : allT rs first ps rs.length = allT rs 1 iniPs rs.length := by
  refine vw_ext ?_ fun n => ?_
  · have u := len_up (first := first) h2 rs.length (Nat.le_refl _)
    rcases h3 with h | h
    · have := len_lo (rs := rs) h h1 rs.length; omega
    · have := allT_len_mono (rs := rs) (first := first) (ps := ps) (t := 0) rs.length
      rw [Nat.zero_add] at this
      have e0 : (allT rs first ps 0).length = ps.length := rfl
      omega
  · obtain ⟨x, y, z⟩ := ha n
    rw [page_same y z, Nat.max_eq_right x]
theorem allT_ok {rs : List Ro} {first : Int} {ps : List Pg} (hp : ∀ p ∈ ps, PgOk p) (hr : ∀ r ∈ rs, RoOk r) : ∀ t, t ≤ 1000 → ∀ p ∈ allT rs first ps t, PgOk p
  | 0, _ => hp
  | t + 1, ht => by
    have ih := allT_ok (first := first) hp hr t (by omega)
    show ∀ p ∈ (match rs[t]? with | some r => if first ≤ (t : Int) + 1 then afterRo (allT rs first ps t) ((t : Int) + 1) r else allT rs first ps t | none => allT rs first ps t), PgOk p
    cases e : rs[t]? with
    | none => exact ih
    | some r =>
      dsimp only
      split
      · exact afterRo_ok ih ⟨by omega, by omega, by omega⟩ (hr r (List.mem_of_getElem? e))
      · exact ih
theorem allT_len {rs : List Ro} {first : Int} {ps : List Pg} {L : Nat} (hl : ps.length ≤ L) (hr : ∀ r ∈ rs, roN r < L) : ∀ t, (allT rs first ps t).length ≤ L
  | 0 => hl
  | t + 1 => by
    have ih := allT_len (first := first) hl hr t
    rw [allT_succ]
    unfold tch
    cases e : rs[t]? with
    | none => exact ih
    | some r =>
      have := hr r (List.mem_of_getElem? e)
      cases r with
      | page o n b c =>
        show (if first ≤ (t : Int) + 1 then afterPg (allT rs first ps t) ((t : Int) + 1) n c else allT rs first ps t).length ≤ L
        split
        · rw [len_after]
          have h : n < L := this
          omega
        · exact ih
      | unpage o n c =>
        show (if first ≤ (t : Int) + 1 then afterPg (allT rs first ps t) ((t : Int) + 1) n c else allT rs first ps t).length ≤ L
        split
        · rw [len_after]
          have h : n < L := this
          omega
        · exact ih
      | _ => exact ih
theorem allT_ne {rs : List Ro} {first : Int} {ps : List Pg} (h : ps ≠ []) {t : Nat} : allT rs first ps t ≠ [] := fun z => by
  have h1 := allT_len_mono (rs := rs) (first := first) (ps := ps) (t := 0) t
  rw [Nat.zero_add, z] at h1
  have h2 : ps.length ≤ 0 := h1
  have h3 := List.length_pos_iff.mpr h
  omega
theorem ini_ok : ∀ p ∈ iniPs, PgOk p := fun p hp => by
  rw [List.mem_singleton.mp hp]
  refine ⟨Int.le_refl _, by decide, fun d h => ?_⟩
  cases h
  exact ⟨.inl rfl, fun p hp => (nomatch hp), Nat.zero_le _, List.Pairwise.nil, fun n h => (nomatch h)⟩
/-! ### as in the law's last text -/
theorem rng_at {lo : Int} {n i : Nat} {d : Dt} (h : (rngD lo n)[i]? = some d) : d = .int (lo + (i : Int)) ∧ i < n := by
  have hi := (List.getElem?_eq_some_iff.mp h).1
  rw [rngD_len] at hi
  unfold rngD at h
  rw [List.getElem?_map, List.getElem?_range hi] at h
  exact ⟨(Option.some.inj h).symm, hi⟩
theorem eqQ_same {s : Str} {A B : Prop} (b : B) : eqQ not (.str s) (.str s) fun z => (z = true → A) ∧ (z = false → B) := by
  show _ ∧ _
  rw [decide_eq_true rfl]; exact two_f b
theorem d_rp {X : Cx} {ρ : List Sl} {a : Expr} {Q : Dt → Prop} {q1 q2 : Pos} (hgu : X.A.guards = some []) (hu : X.A.units + 64 < cLine) (hg : Gl X "repr") (hm : X.mg "repr" = none) (h : DE X ρ a fun d => ∃ ds k l, d = .tup ds ∧ isP (.tup ds) = true ∧ Sh (toP (.tup ds)) k l ∧ k ≤ 60 ∧ l ≤ sizeLine ∧ Q (.str (toP (.tup ds)).shown))
    (hst : starEach [a] X.env = (false, eval a X.env) :: starEach [] X.env := by rfl) : DE X ρ (.Call (.Name "repr" q1) [a] [] q2) Q :=
  d_reprT hgu hu hg hm (h.weak fun d ⟨ds, k, l, e, i, s, h1, h2, q⟩ => ⟨ds, e, i, s.s, s.h, Nat.le_trans s.dp h1, Nat.le_trans s.l h2, q⟩) (hst := hst)
end E5
set_option Elab.async false
set_option linter.all false
set_option maxRecDepth 100000
set_option maxHeartbeats 4000000
/-! the law's chain and place, by data -/
namespace E5
open PySem PySem.Spec PyProof.Rows L2 Y Z
open Evl (Ex st_of sq_of ex_l ex_t fresh_back sz_of sz_lt)
abbrev natD (n : Nat) : Dt := .int (n : Int)
def chD : Option (List Nat) → Dt
  | none => .non
  | some l => .lst (l.map natD)
theorem eqv_ones (m : Nat) : PyData.eqv (toP (.lst (List.replicate m (Dt.int 1)))) (toP (.lst [])) = decide (m = 0) := by
  cases m with
  | zero => decide +kernel
  | succ m =>
    rw [List.replicate_succ, toP_lst, toP_lst, toPL_cons, toPL_nil]
    simp [PyData.eqv, PyData.eqvAll]
theorem isPL_ones : ∀ m : Nat, isPL (List.replicate m (Dt.int 1)) = true
  | 0 => by simp [isPL]
  | m + 1 => by rw [List.replicate_succ]; simp [isPL, isP, isPL_ones m]
theorem ones_shaped : ∀ {m : Nat}, m ≤ 3 → SeqAt.shaped (toP (.lst (List.replicate m (Dt.int 1)))) = true
  | 0, _ => by decide +kernel
  | 1, _ => by decide +kernel
  | 2, _ => by decide +kernel
  | 3, _ => by decide +kernel
  | m + 4, h => by omega
theorem chRun_len {ps : List Pg} : ∀ {t : Nat} {s : ChS}, chRun ps t = some s → s.1.length ≤ t
  | 0, s, e => by cases e; exact Nat.zero_le _
  | t + 1, s, e => by
    obtain ⟨⟨fd, a, low⟩, e0, e1⟩ := Option.bind_eq_some_iff.mp (show (chRun ps t).bind (chStep ps t) = some s from e)
    have ih : fd.length ≤ t := chRun_len e0
    unfold chStep at e1
    cases a with
    | none => cases e1; show fd.length ≤ t + 1; omega
    | some a =>
      dsimp only at e1
      split at e1
      · cases e1
      · split at e1
        · cases e1
        · split at e1
          · cases e1
          · cases e1
            show (fd ++ [a.toNat]).length ≤ t + 1
            rw [List.length_append]; show fd.length + 1 ≤ t + 1; omega
theorem chain_len {ps : List Pg} {fs : List Nat} (e : chain ps = some fs) : fs.length ≤ ps.length := by
  unfold chain at e
  obtain ⟨s, e0, e1⟩ := Option.bind_eq_some_iff.mp e
  split at e1
  · cases e1; exact chRun_len e0
  · cases e1
section
variable {P : Program} {w : World} {K : PySem.W.Frag} {mg : Str → Option Value} {base : Heap}
def dChain : List Dt → (Dt → Prop) → Prop := fun ds Q => ∃ ps : List Pg, ds = [pgsD ps] ∧ (∀ p ∈ ps, PgOk p) ∧ ps.length ≤ 100 ∧ Q (chD (chain ps))
theorem ownD_lchain (D : Def K mg "_law_chain" sl_chain) (mr : mg "range" = none) (ml : mg "len" = none) : OwnD P w K mg base "_law_chain" ["_law_pages"] 1 dChain := by
  refine ownD D cl_chain (fun ds Q Q' k ⟨s, e, p, p2, q⟩ => ⟨s, e, p, p2, k _ q⟩) (fun ds Q ⟨s, e, _⟩ => by subst e; rfl) (fun _ _ _ _ _ _ us hl => match us, hl with | [_], _ => rfl) ?_
  rintro X ds Q ⟨f, cdv, A, outer, s0, H, E, rfl⟩ hr ⟨ps, rfl, ok, few, q⟩
  have nd := cl_chain.nd
  refine s_par3O 1 2 3 (n_lst <| l_nil ⟨Nat.zero_le _, d_int <| d_str ?_⟩) rfl nd (by decide) (by decide) (by decide)
  refine s_for PassesOwn.never rfl (g_nm 4 nd) <| i_rng (by rfl) mr <| d_len (by rfl) ml <| .of <| d_nm 0 rfl ?_
  refine ⟨⟨by rw [List.length_map]; omega, by rw [List.length_map]; omega⟩, ?_⟩
  refine ⟨fun t ρ => ∃ (s : ChS) (x4 x5 x6 x7 : Sl), chRun ps t = some s ∧ ρ = [.fr (pgsD ps), .ow (.lst (s.1.map natD)), .fr (foD s.2.1), .fr (.str s.2.2), x4, x5, x6, x7], ⟨([], some 0, ""), _, _, _, _, rfl, rfl⟩, ?_, ?_⟩
  rotate_left
  · rintro ρ1 ⟨⟨fd, a, low⟩, x4, x5, x6, x7, hs, rfl⟩
    rw [rngD_len, Int.toNat_natCast, List.length_map] at hs
    refine s_freeze 1 rfl <| s_ret <| d_if <| t_isN <| .of <| d_nm 2 rfl ?_
    cases a with
    | none =>
      refine two_t <| d_nm 1 rfl ?_
      have e : chain ps = some fd := by unfold chain; rw [hs]; rfl
      rw [e] at q; exact q
    | some a =>
      refine two_f <| d_non ?_
      have e : chain ps = none := by unfold chain; rw [hs]; rfl
      rw [e] at q; exact q
  rintro t d ρ1 hd ⟨⟨fd, a, low⟩, x4, x5, x6, x7, hs, rfl⟩
  obtain ⟨rfl, ht⟩ := rng_at hd
  rw [Int.zero_add]
  rw [Int.toNat_natCast, List.length_map] at ht
  refine ⟨_, rfl, ?_⟩
  have k := chRun_ok ok hs
  have step : chRun ps (t + 1) = chStep ps t (fd, a, low) := by
    show (chRun ps t).bind (chStep ps t) = _
    rw [hs]; rfl
  have stop : chStep ps t (fd, a, low) = none → Q .non := fun e => by
    have := chain_none (step.trans e) (by omega)
    rw [this] at q; exact q
  cases a with
  | none =>
    exact s_when <| t_notN <| .of <| d_nm 2 rfl <| two_f <| s_nil ⟨(fd, none, low), _, _, _, _, step, rfl⟩
  | some a =>
    have a0 := k.a a rfl
    obtain ⟨n, rfl⟩ : ∃ n : Nat, a = (n : Int) := ⟨a.toNat, by omega⟩
    refine s_when <| t_notN <| .of <| d_nm 2 rfl <| two_t ?_
    -- the content there
    suffices go : DS (cxOf CX0 P w K mg base nl_chain "_law_chain" (defScope sl_chain) f cdv A outer s0 H E).nox [.fr (pgsD ps), .ow (.lst (fd.map natD)), .fr (.int (n : Int)), .fr (.str low), .fr (.int (t : Int)), .fr (cnD (cAt ps n)), x6, x7] _ _ by
      refine s_set 5 (d_if <| t_lt <| .of <| d_nm 2 rfl <| .of <| d_len (by rfl) ml <| .of <| d_nm 0 rfl ⟨fun h => ?_, fun h => ?_⟩) nd
      · have h : (n : Int) < ((ps.map pgD).length : Int) := of_decide_eq_true h
        rw [List.length_map] at h
        have hn : n < ps.length := by omega
        refine d_ix <| d_ix <| d_nm 0 rfl <| d_nm 2 rfl ⟨pgD ps[n], atI_nat (by rw [List.getElem?_map, List.getElem?_eq_getElem hn]; rfl), d_int ⟨_, atI_1, ?_⟩⟩
        have e : cAt ps n = ps[n].2 := by unfold cAt; rw [List.getElem?_eq_getElem hn]; rfl
        rw [e] at go; exact go
      · have h : ¬ (n : Int) < ((ps.map pgD).length : Int) := of_decide_eq_false h
        rw [List.length_map] at h
        have e : cAt ps n = none := by unfold cAt; rw [List.getElem?_eq_none (by omega)]; rfl
        rw [e] at go; exact d_non go
    have hcs : chStep ps t (fd, some (n : Int), low) = match cAt ps n with
      | none => none
      | some c => if t = 0 ∧ c.low ≠ "" then none else
        if 0 < t ∧ (ltB low c.low = false ∨ ((prevE ps fd).any fun p => !ltB p.1 c.low) = true) then none
        else some (fd ++ [n], c.fol, c.low) := rfl
    cases hc : cAt ps n with
    | none =>
      rw [hc] at hcs
      exact s_when <| DW.dt <| w_or <| t_isN <| .of <| d_nm 5 rfl <| two_t <| two_t <| s_ret <| d_non <| stop hcs
    | some c =>
      rw [hc] at hcs
      dsimp only at hcs
      have okc := cAt_ok ok hc
      suffices second : ¬ (t = 0 ∧ c.low ≠ "") → DS (cxOf CX0 P w K mg base nl_chain "_law_chain" (defScope sl_chain) f cdv A outer s0 H E).nox [.fr (pgsD ps), .ow (.lst (fd.map natD)), .fr (.int (n : Int)), .fr (.str low), .fr (.int (t : Int)), .fr (cnD (some c)), x6, x7] _ _ by
        refine s_when <| DW.dt <| w_or <| t_isN <| .of <| d_nm 5 rfl <| two_f <| w_or1 <| t_and <| t_eq hr.units <| .of <| d_nm 4 rfl <| .of <| d_int ⟨fun h => ?_, fun h => two_f <| second fun z => ?_⟩
        · have h : (t : Int) = 0 := of_decide_eq_true h
          refine t_ne hr.units <| .of <| d_ix <| d_nm 5 rfl <| d_int ⟨_, atI_0, .of <| d_str ⟨fun h2 => ?_, fun h2 => ?_⟩⟩
          · have h2 : (!decide (c.low = "")) = true := h2
            exact s_ret <| d_non <| stop (by rw [hcs, if_pos ⟨by omega, by simpa using h2⟩])
          · have h2 : (!decide (c.low = "")) = false := h2
            exact second fun z => z.2 (by simpa using h2)
        · have h : ¬ (t : Int) = 0 := of_decide_eq_false h
          omega
      intro n1
      suffices third : ¬ (0 < t ∧ (ltB low c.low = false ∨ ((prevE ps fd).any fun p => !ltB p.1 c.low) = true)) → DS (cxOf CX0 P w K mg base nl_chain "_law_chain" (defScope sl_chain) f cdv A outer s0 H E).nox [.fr (pgsD ps), .ow (.lst (fd.map natD)), .fr (.int (n : Int)), .fr (.str low), .fr (.int (t : Int)), .fr (cnD (some c)), x6, x7] _ _ by
        refine s_when <| t_and <| t_gt <| .of <| d_nm 4 rfl <| .of <| d_int ⟨fun h => ?_, fun h => two_f <| third fun z => ?_⟩
        · have h : (t : Int) > 0 := of_decide_eq_true h
          have t0 : 0 < t := by omega
          refine t_or <| t_leS <| .of <| d_ix <| d_nm 5 rfl <| d_int ⟨_, atI_0, .of <| d_nm 3 rfl ⟨fun h2 => ?_, fun h2 => ?_⟩⟩
          · have h2 : (!ltB low c.low) = true := h2
            refine two_t <| s_ret <| d_non <| stop (by rw [hcs, if_neg n1, if_pos ⟨t0, .inl (by simpa using h2)⟩])
          · have h2 : (!ltB low c.low) = false := h2
            have h2 : ltB low c.low = true := by simpa using h2
            obtain ⟨kn, _⟩ := k.z t0
            rcases List.eq_nil_or_concat fd with e | ⟨fd', l, e⟩
            · exact absurd e kn
            rw [List.concat_eq_append] at e
            obtain ⟨cl, hcl⟩ := k.f l (by show l ∈ fd; rw [e]; simp)
            obtain ⟨m, hm⟩ := cAt_page hcl
            have okl := cAt_ok ok hcl
            have lf := okl.few
            have ep : prevE ps fd = cl.ents := by unfold prevE; rw [e, List.getLast?_append]; simp [hcl]
            have last : atI (fd.map natD) (-1) = some (natD l) := by rw [e, List.map_append]; exact L2.atI_last _ _
            refine t_ne hr.units <| .ofN <| n_lct (own := [("_law_key_here", 6), ("_law_worth_here", 7)]) rfl nd (blkOk_by (N := nl_chain) (sc := defScope sl_chain) (by decide +kernel)) (gb_tup2 6 7 (fun _ _ _ _ _ => pg_tup rfl (pgs_cons (pg_name (i := 6) nd rfl (Or.inl rfl)) (pgs_cons (pg_name (i := 7) nd rfl (Or.inl rfl)) pgs_nil)))) (by simp) (i_tup <| d_dz <| d_ix <| d_ix <| d_ix <| d_nm 0 rfl <| d_ixA <| d_nmO 1 rfl <| d_neg <| d_int ⟨natD l, last, rfl, pgD (m, some cl), atI_nat (by rw [List.getElem?_map, hm]; rfl), d_int ⟨_, atI_1, d_int ⟨_, atI_1, _, rfl, ?_⟩⟩⟩)
            dsimp only [tuQ]
            refine ⟨by rw [List.length_map]; omega, fun j acc => ∃ z : Nat, z ≤ j ∧ acc = List.replicate z (Dt.int 1) ∧ decide (z = 0) = !((cl.ents.take j).any fun p => !ltB p.1 c.low), ⟨0, Nat.le_refl _, rfl, rfl⟩, ?_, ?_⟩
            · rintro j d acc hd ⟨z, hz, rfl, hb⟩
              rw [List.getElem?_map] at hd
              obtain ⟨⟨kx, wx⟩, hp, rfl⟩ := Option.map_eq_some_iff.mp hd
              have et : cl.ents.take (j + 1) = cl.ents.take j ++ [(kx, wx)] := by rw [List.take_add_one, hp]; rfl
              refine ⟨_, rfl, fun s1 H' C cl2 fp => t_geS <| .of <| d_nm 6 rfl <| .of <| d_ix <| d_nm 5 rfl <| d_int ⟨_, atI_0, ?_⟩⟩
              refine (show _ ∧ _ from ⟨fun h3 => fun s2 H2 C2 cl3 fp2 => d_int ⟨z + 1, by omega, by rw [List.replicate_succ'], ?_⟩, fun h3 => ⟨z, by omega, rfl, ?_⟩⟩)
              · have h3 : (!ltB kx c.low) = true := h3
                rw [et, List.any_append]
                simp [h3]
              · have h3 : (!ltB kx c.low) = false := h3
                rw [et, List.any_append, hb]
                simp at h3
                simp [h3]
            rintro acc _ ⟨z, hz, rfl, hb⟩
            rw [List.length_map] at hz hb
            rw [List.take_length] at hb
            refine .ofN <| n_lst <| l_nil ⟨Nat.zero_le _, ⟨by simp [isP, isPL_ones], by simp [isP, isPL], ones_shaped (by omega), by decide +kernel⟩, ?_⟩
            rw [eqv_ones, hb, Bool.not_not]
            refine (show _ ∧ _ from ⟨fun h3 => ?_, fun h3 => ?_⟩)
            · exact s_ret <| d_non <| stop (by rw [hcs, if_neg n1, if_pos ⟨t0, .inr (by rw [ep]; exact h3)⟩])
            · exact third fun z => by
                rcases z.2 with z | z
                · rw [h2] at z; cases z
                · rw [ep] at z
                  exact Bool.false_ne_true (h3.symm.trans z)
        · have h : ¬ (t : Int) > 0 := of_decide_eq_false h
          omega
      intro n2
      have e : chStep ps t (fd, some (n : Int), low) = some (fd ++ [n], c.fol, c.low) := by rw [hcs, if_neg n1, if_neg n2]
      refine s_append 1 rfl <| d_nm 2 rfl ⟨?_, ?_⟩
      · rw [List.length_map]
        exact Nat.lt_of_le_of_lt (chRun_len hs) (by omega)
      refine s_par 3 2 (l_cons <| d_ix <| d_nm 5 rfl <| d_int ⟨_, atI_0, l_cons <| d_ix <| d_nm 5 rfl <| d_int ⟨_, atI_2, l_nil ⟨_, _, rfl, ?_⟩⟩⟩) rfl nd (by decide)
      exact s_nil (s_nil ⟨(fd ++ [n], c.fol, c.low), _, _, _, _, step.trans e, by rw [List.map_append]; rfl⟩)
def dPlace : List Dt → (Dt → Prop) → Prop := fun ds Q => ∃ (ps : List Pg) (key : Str), ds = [pgsD ps, .str key] ∧ (∀ p ∈ ps, PgOk p) ∧ ps.length ≤ 100 ∧ chain ps ≠ none ∧ ∀ n c, cAt ps n = some c → ltB key c.low = false → Q (natD n)
theorem ltB_nil (s : Str) : ltB s "" = false := by
  unfold ltB
  have e : (("" : Str)).cps.toList = [] := by decide +kernel
  rw [e]
  exact decide_eq_false (List.not_lt_nil _)
theorem ownD_lplace (D : Def K mg "_law_place" sl_place) (OC : OwnD P w K mg base "_law_chain" ["_law_pages"] 1 dChain) : OwnD P w K mg base "_law_place" ["_law_pages", "_law_key_here"] 2 dPlace := by
  refine ownD D cl_place (fun ds Q Q' k ⟨s, e, p, p2, p3, p4, q⟩ => ⟨s, e, p, p2, p3, p4, fun n c h1 h2 => k _ (q n c h1 h2)⟩) (fun ds Q ⟨s, e, p, _⟩ => by subst p; rfl) (fun _ _ _ _ _ _ us hl => match us, hl with | [_, _], _ => rfl) ?_
  rintro X ds Q ⟨f, cdv, A, outer, s0, H, E, rfl⟩ hr ⟨ps, key, rfl, ok, few, ne, q⟩
  have nd := cl_place.nd
  obtain ⟨fs, hfs⟩ := Option.ne_none_iff_exists'.mp ne
  obtain ⟨c1, c2, c0, c3, c4⟩ := chain_ok ok hfs
  have fl := chain_len hfs
  refine s_ret <| d_ix <| .ofN <| n_lct (own := [("_law_n", 2)]) rfl nd (blkOk_by (N := nl_place) (sc := defScope sl_place) (by decide +kernel)) (gb_nm 2 (fun _ _ _ _ _ => pg_name (i := 2) nd rfl (Or.inl rfl))) (by simp) (i_lst <| d_own OC hr (by rfl) <| l_cons <| d_nm 0 rfl <| l_nil ⟨ps, rfl, ok, few, ?_⟩)
  rw [hfs]
  dsimp only [chD, lstQ]
  refine ⟨by rw [List.length_map]; omega, fun j acc => ∃ gs : List Nat, acc = gs.map natD ∧ (∀ n ∈ gs, ∃ c, cAt ps n = some c ∧ ltB key c.low = false) ∧ (0 ∈ fs.take j → gs ≠ []), ⟨[], rfl, (fun n h => nomatch h), fun h => by simp at h⟩, ?_, ?_⟩
  · rintro j d acc hd ⟨gs, rfl, hg, h0⟩
    rw [List.getElem?_map] at hd
    obtain ⟨n, hn, rfl⟩ := Option.map_eq_some_iff.mp hd
    obtain ⟨c, hc⟩ := c1 n (List.mem_of_getElem? hn)
    obtain ⟨m, hm⟩ := cAt_page hc
    have et : fs.take (j + 1) = fs.take j ++ [n] := by rw [List.take_add_one, hn]; rfl
    refine ⟨_, rfl, fun s1 H' C cl2 fp => t_leS <| .of <| d_ix <| d_ix <| d_ix <| d_nm 0 rfl <| d_nm 2 rfl ⟨pgD (m, some c), atI_nat (by rw [List.getElem?_map, hm]; rfl), d_int ⟨_, atI_1, d_int ⟨_, atI_0, .of <| d_nm 1 rfl ?_⟩⟩⟩⟩
    refine (show _ ∧ _ from ⟨fun h3 => fun s2 H2 C2 cl3 fp2 => d_nm 2 rfl ⟨gs ++ [n], by rw [List.map_append]; rfl, fun x hx => ?_, fun _ => by simp⟩, fun h3 => ⟨gs, rfl, hg, fun h => ?_⟩⟩)
    · have h3 : (!ltB key c.low) = true := h3
      rcases List.mem_append.mp hx with hx | hx
      · exact hg x hx
      · rw [List.mem_singleton.mp hx]; exact ⟨c, hc, by simpa using h3⟩
    · have h3 : (!ltB key c.low) = false := h3
      rw [et] at h
      rcases List.mem_append.mp h with h | h
      · exact h0 h
      · have hz := List.mem_singleton.mp h
        subst hz
        rw [c3] at hc
        cases hc
        rw [c4, ltB_nil] at h3
        cases h3
  rintro acc _ ⟨gs, rfl, hg, h0⟩
  rw [List.length_map, List.take_length] at h0
  rcases List.eq_nil_or_concat gs with e | ⟨gs', l, e⟩
  · exact absurd e (h0 c2)
  · rw [List.concat_eq_append] at e
    obtain ⟨c, hc1, hc2⟩ := hg l (by rw [e]; simp)
    exact d_neg <| d_int ⟨natD l, by rw [e, List.map_append]; exact L2.atI_last _ _, q l c hc1 hc2⟩
end
end E5
set_option Elab.async false
set_option linter.all false
set_option maxRecDepth 100000
set_option maxHeartbeats 4000000
/-! the law's writes, by data -/
namespace E5
open PySem PySem.Spec PyProof.Rows L2 Y Z
open Evl (Ex st_of sq_of ex_l ex_t fresh_back sz_of sz_lt)
abbrev wrD (x : Nat × Cn) : Dt := .tup [natD x.1, cnD (some x.2)]
theorem ltB_irrefl (s : Str) : ltB s s = false := decide_eq_false (ltS_irrefl s)
/-- the entries behind a write -/
structure NewOk (low : Str) (es : List (Str × Int)) : Prop where
  ents : ∀ p ∈ es, KeyS p.1 ∧ p.2 ≠ 0 ∧ Num p.2 ∧ ltB p.1 low = false
  few : es.length ≤ 4
  asc : (es.map (·.1)).Pairwise (fun a b => ltB a b = true)
def addE (key : Str) (n : Int) : List (Str × Int) := if n = 0 then [] else [(key, n)]
theorem new_ok {c : Cn} {key : Str} {n : Int} {es : List (Str × Int)} (ok : CnOk c) (hk : KeyS key) (hn : Num n) (hl : ltB key c.low = false) (pm : es.Perm (c.ents.filter (fun p => !decide (p.1 = key)) ++ addE key n)) (so : es.Pairwise (fun v u => ltB u.1 v.1 = false)) : NewOk c.low es := by
  have hlen : (c.ents.filter (fun p => !decide (p.1 = key))).length ≤ 3 := Nat.le_trans (List.length_filter_le _ _) ok.few
  have hadd : (addE key n).length ≤ 1 := by unfold addE; split <;> simp
  refine ⟨fun p hp => ?_, by rw [pm.length_eq, List.length_append]; omega, ?_⟩
  · rcases List.mem_append.mp (pm.mem_iff.mp hp) with h | h
    · exact ok.ents p (List.mem_filter.mp h).1
    · unfold addE at h
      split at h
      · cases h
      · rw [List.mem_singleton.mp h]; rename_i z; exact ⟨hk, z, hn, hl⟩
  · have nd : (es.map (·.1)).Nodup := by
      rw [(pm.map (·.1)).nodup_iff, List.map_append, List.nodup_append]
      refine ⟨?_, ?_, ?_⟩
      · have h1 : (c.ents.map (·.1)).Nodup := ok.asc.imp fun {a b} h => by
          rintro rfl
          rw [ltB_irrefl] at h; cases h
        exact h1.sublist ((List.filter_sublist).map _)
      · unfold addE; split <;> simp
      · intro a ha b hb
        obtain ⟨p, hp, rfl⟩ := List.mem_map.mp ha
        have hp := (List.mem_filter.mp hp).2
        unfold addE at hb
        split at hb
        · cases hb
        · have hb := List.mem_singleton.mp hb
          subst hb
          simpa using hp
    have h1 : (es.map (·.1)).Pairwise (fun v u => ltB u v = false) := List.pairwise_map.mpr so
    have h2 : (es.map (·.1)).Pairwise (· ≠ ·) := List.nodup_iff_pairwise_ne.mp nd
    refine (h1.and h2).imp fun {a b} h => ?_
    rcases ltS_tri a b with g | g | g
    · exact ltB_iff.mpr g
    · exact absurd g h.2
    · have := ltB_iff.mpr g
      rw [h.1] at this; cases this
theorem NewOk.cn {low : Str} {es : List (Str × Int)} {fol : Option Int} (h : NewOk low es) (hl : low = "" ∨ KeyS low) (h3 : es.length ≤ 3) (hf : ∀ n, fol = some n → 0 ≤ n ∧ Num n) : CnOk ⟨low, es, fol⟩ := ⟨hl, h.ents, h3, h.asc, hf⟩
theorem new_two {low : Str} {a b c d : Str × Int} {fol : Option Int} {m : Int} (h : NewOk low [a, b, c, d]) (hl : low = "" ∨ KeyS low) (hf : ∀ n, fol = some n → 0 ≤ n ∧ Num n) (hm : 0 ≤ m ∧ Num m) : CnOk ⟨c.1, [c, d], fol⟩ ∧ CnOk ⟨low, [a, b], some m⟩ := by
  have as := h.asc
  simp only [List.map_cons, List.map_nil, List.pairwise_cons, List.mem_cons, List.not_mem_nil, or_false] at as
  have hc := h.ents c (by simp)
  have hd := h.ents d (by simp)
  have ha := h.ents a (by simp)
  have hb := h.ents b (by simp)
  have cd : ltB c.1 d.1 = true := as.2.2.1 d.1 rfl
  have ab : ltB a.1 b.1 = true := as.1 b.1 (.inl rfl)
  have dc : ltB d.1 c.1 = false := by
    have := ltB_iff.mp cd
    exact decide_eq_false fun g => ltS_irrefl _ (ltS_trans this g)
  refine ⟨⟨.inr hc.1, fun p hp => ?_, by show 2 ≤ 3; decide, by simp [cd], hf⟩, ⟨hl, fun p hp => ?_, by show 2 ≤ 3; decide, by simp [ab], fun n e => by cases e; exact hm⟩⟩
  · simp only [List.mem_cons, List.not_mem_nil, or_false] at hp
    rcases hp with rfl | rfl
    · exact ⟨hc.1, hc.2.1, hc.2.2.1, ltB_irrefl _⟩
    · exact ⟨hd.1, hd.2.1, hd.2.2.1, dc⟩
  · simp only [List.mem_cons, List.not_mem_nil, or_false] at hp
    rcases hp with rfl | rfl
    · exact ha
    · exact hb
theorem val_int (es : List (Str × Int)) (k : Key) : ∃ x : Int, (valD (es.map fun p => ((.inr p.1 : Key), Dt.int p.2)) k).getD (.int 0) = .int x := by
  unfold valD
  cases h : (es.map fun p => ((.inr p.1 : Key), Dt.int p.2)).find? (fun kv => decide (kv.1 = k)) with
  | none => exact ⟨0, rfl⟩
  | some y =>
    have := List.mem_of_find?_eq_some h
    obtain ⟨p, hp, rfl⟩ := List.mem_map.mp this
    exact ⟨p.2, rfl⟩
theorem flat_nats : ∀ l : List Nat, (l.map natD).all flatD = true
  | [] => rfl
  | n :: l => by rw [List.map_cons, List.all_cons, flat_nats l]; rfl
theorem inD_nat {a : Nat} : ∀ {l : List Nat}, Z.inD (natD a) (l.map natD) = true → a ∈ l
  | [], h => by cases h
  | n :: l, h => by
    unfold Z.inD at h
    rw [List.map_cons, List.any_cons, Bool.or_eq_true] at h
    rcases h with h | h
    · have e : ((n : Int) == (a : Int)) = true := h
      have := eq_of_beq e
      have : n = a := by omega
      rw [this]; exact List.mem_cons_self
    · exact List.mem_cons_of_mem _ (inD_nat h)
section
variable {P : Program} {w : World} {K : PySem.W.Frag} {mg : Str → Option Value} {base : Heap}
def dWrites : List Dt → (Dt → Prop) → Prop := fun ds Q => ∃ (ps : List Pg) (key : Str) (n : Int), ds = [pgsD ps, .str key, .int n, .tup []] ∧ (∀ p ∈ ps, PgOk p) ∧ ps.length ≤ 100 ∧ chain ps ≠ none ∧ KeyS key ∧ Num n ∧ ∀ ws : List (Nat × Cn), ws.length ≤ 2 → (∀ x ∈ ws, CnOk x.2 ∧ x.1 ≤ 1000) → Q (.tup (ws.map wrD))
theorem ownD_lwrites (D : Def K mg "_law_writes" sl_writes) (OP : OwnD P w K mg base "_law_place" ["_law_pages", "_law_key_here"] 2 dPlace) (md : mg "dict" = none) (ms : mg "sorted" = none) (mi : mg "int" = none) (ml : mg "len" = none) (mt : mg "tuple" = none) (mr : mg "range" = none) (mli : mg "list" = none) : OwnD P w K mg base "_law_writes" ["_law_pages", "_law_key_here", "_law_worth_here", "_law_reserved"] 3 dWrites := by
  refine ownD D cl_writes (fun ds Q Q' k ⟨s, a, b, e, p, p2, p3, p4, p5, q⟩ => ⟨s, a, b, e, p, p2, p3, p4, p5, fun ws h1 h2 => k _ (q ws h1 h2)⟩) (fun ds Q ⟨s, a, b, e, _⟩ => by subst e; rfl) (fun _ _ _ _ _ _ us hl => match us, hl with | [_, _, _, _], _ => rfl) ?_
  rintro X ds Q ⟨f, cdv, A, outer, s0, H, E, rfl⟩ hr ⟨ps, key, wo, rfl, ok, few, ne, hk, hn, q⟩
  have nd := cl_writes.nd
  refine s_set 4 (d_own OP (hr.mono (by decide)) (by rfl) <| l_cons <| d_nm 0 rfl <| l_cons <| d_nm 1 rfl <| l_nil ⟨ps, key, rfl, ok, few, ne, fun p c hc hlow => ?_⟩) nd
  obtain ⟨m0, hm⟩ := cAt_page hc
  have okc := cAt_ok ok hc
  have hp : p < ps.length := (List.getElem?_eq_some_iff.mp hm).1
  refine s_asg (d_ix <| d_ix <| d_nm 0 rfl <| d_nm 4 rfl ⟨pgD (m0, some c), atI_nat (by rw [List.getElem?_map, hm]; rfl), d_int ⟨_, atI_1, _, rfl, ?_⟩⟩) (g_tup3 5 6 7 rfl nd)
  -- the worth it has
  have nodk : (((c.ents.map fun p => ((.inr p.1 : Key), Dt.int p.2))).map (·.1)).Nodup := by
    rw [List.map_map]
    have h1 : (c.ents.map (·.1)).Nodup := okc.asc.imp fun {a b} h => by
      rintro rfl
      rw [ltB_irrefl] at h; cases h
    have e : c.ents.map ((fun kv : Key × Dt => kv.1) ∘ fun p => ((.inr p.1 : Key), Dt.int p.2)) = (c.ents.map (·.1)).map (fun s => (.inr s : Key)) := by rw [List.map_map]; rfl
    rw [e]
    exact List.Pairwise.map _ (fun a b h => by intro z; exact h (Sum.inr.inj z)) h1
  have h65 := hu65_of hr
  refine s_when <| t_eq hr.units <| .of <| d_get2 (Nat.lt_of_le_of_lt (Nat.add_le_add_left (by decide) _) h65) (.of <| .ofN <| n_dictZ rfl (by rfl) md <| d_nm 6 rfl ⟨c.ents.map fun p => ((.inr p.1 : Key), Dt.int p.2), by rw [List.map_map]; rfl, nodk, _, rfl, d_nm 1 rfl ⟨.inr key, rfl, d_int ?_⟩⟩)
  obtain ⟨x, hx⟩ := val_int c.ents (.inr key)
  rw [hx]
  refine ⟨rfl, .of <| d_nm 2 rfl ⟨fun _ => s_ret <| d_tup <| l_nil ⟨Nat.zero_le _, q [] (Nat.zero_le _) fun x h => nomatch h⟩, fun _ => ?_⟩⟩
  -- the entries behind it
  refine s_set 8 (.ofN <| n_sortTI (by rfl) ms <| .ofN <| n_cat <| DN.w1 <| n_lct (own := [("_law_pair", 9)]) rfl nd (blkOk_by (N := nl_writes) (sc := defScope sl_writes) (by decide +kernel)) (gb_nm 9 (fun _ _ _ _ _ => pg_name (i := 9) nd rfl (Or.inl rfl))) (by simp) (i_tup <| d_dz <| d_nm 6 rfl ⟨_, rfl, ?_⟩)) nd
  dsimp only [tuQ]
  have fe := okc.few
  refine ⟨by rw [List.length_map]; omega, fun j acc => acc = ((c.ents.take j).filter (fun p => !decide (p.1 = key))).map entD, rfl, ?_, ?_⟩
  · rintro j d acc hd rfl
    rw [List.getElem?_map] at hd
    obtain ⟨pr, hpr, rfl⟩ := Option.map_eq_some_iff.mp hd
    have et : c.ents.take (j + 1) = c.ents.take j ++ [pr] := by rw [List.take_add_one, hpr]; rfl
    refine ⟨_, rfl, fun s1 H' C cl2 fp => t_ne hr.units <| .of <| d_ix <| d_nm 9 rfl <| d_int ⟨_, atI_0, .of <| d_nm 1 rfl ?_⟩⟩
    refine (show _ ∧ _ from ⟨fun h3 => fun s2 H2 C2 cl3 fp2 => d_nm 9 rfl ?_, fun h3 => ?_⟩)
    · have h3 : (!decide (pr.1 = key)) = true := h3
      show _ = ((c.ents.take (j + 1)).filter (fun p => !decide (p.1 = key))).map entD
      rw [et, List.filter_append, List.filter_cons_of_pos (p := fun p : Str × Int => !decide (p.1 = key)) h3, List.map_append]; rfl
    · have h3 : (!decide (pr.1 = key)) = false := h3
      show _ = ((c.ents.take (j + 1)).filter (fun p => !decide (p.1 = key))).map entD
      rw [et, List.filter_append, List.filter_cons_of_neg (p := fun p : Str × Int => !decide (p.1 = key)) (by rw [h3]; exact Bool.false_ne_true), List.filter_nil, List.append_nil]
  rintro acc _ rfl
  rw [List.length_map, List.take_length]
  refine DN.w1 <| n_repL <| DN.w1 <| n_lst <| l_cons <| d_tup <| l_cons <| d_nm 1 rfl <| l_cons <| d_nm 2 rfl <| l_nil ⟨by show 2 ≤ 100000; decide, l_nil ⟨by show 1 ≤ 100000; decide, d_intB rfl (by rfl) mi <| d_ne hr.units <| .of <| d_nm 2 rfl <| .of <| d_int ⟨_, rfl, _, _, rfl, rfl, ?_, by show 1 ≤ 1000; decide, ?_⟩⟩⟩
  · split <;> decide
  have fl : (c.ents.filter (fun p => !decide (p.1 = key))).length ≤ 3 := Nat.le_trans (List.length_filter_le _ _) fe
  have ea : (List.replicate (if (!decide (wo = 0)) = true then (1 : Int) else 0).toNat [Dt.tup [.str key, .int wo]]).flatten = (addE key wo).map entD := by
    unfold addE
    by_cases z : wo = 0
    · simp [z]
    · simp [z]
  refine ⟨_, _, rfl, rfl, ?_, c.ents.filter (fun p => !decide (p.1 = key)) ++ addE key wo, ?_, fun es pm so => ?_⟩
  · have : (addE key wo).length ≤ 1 := by unfold addE; split <;> simp
    rw [ea, List.length_map, List.length_map]; omega
  · rw [ea, List.map_append]
  have nok := new_ok okc hk hn hlow pm so
  have n4 := nok.few
  refine s_when <| t_lt <| .of <| d_len (by rfl) ml <| .of <| d_nm 8 rfl <| .of <| d_int ?_
  refine (show _ ∧ _ from ⟨fun h => ?_, fun h => ?_⟩)
  · have h : ((es.map pTI).length : Int) < 4 := of_decide_eq_true h
    rw [List.length_map] at h
    refine s_ret <| d_tup <| l_cons <| d_tup <| l_cons <| d_nm 4 rfl <| l_cons <| d_tup <| l_cons <| d_nm 5 rfl <| l_cons <| d_tupleZ (by rfl) mt <| d_nm 8 rfl ⟨_, rfl, l_cons <| d_nm 7 rfl <| l_nil ⟨by show 3 ≤ 100000; decide, l_nil ⟨by show 2 ≤ 100000; decide, l_nil ⟨by show 1 ≤ 100000; decide, q [(p, ⟨c.low, es, c.fol⟩)] (by show 1 ≤ 2; decide) fun x hx => ?_⟩⟩⟩⟩
    rw [List.mem_singleton.mp hx]
    exact ⟨nok.cn okc.low (by omega) okc.fol, by show p ≤ 1000; omega⟩
  have h : ¬ ((es.map pTI).length : Int) < 4 := of_decide_eq_false h
  rw [List.length_map] at h
  obtain ⟨e0, e1, e2, e3, rfl⟩ : ∃ e0 e1 e2 e3, es = [e0, e1, e2, e3] := by
    match es, h, n4 with
    | [a, b, c, d], _, _ => exact ⟨a, b, c, d, rfl⟩
    | [], h, _ => simp at h
    | [_], h, _ => simp at h
    | [_, _], h, _ => simp at h
    | [_, _, _], h, _ => simp at h
    | _ :: _ :: _ :: _ :: _ :: _, _, h => simp at h
  -- the pages that are held
  refine s_set 10 (.ofN <| n_cat <| DN.w1 <| n_lct (own := [("_law_n", 11)]) rfl nd (blkOk_by (N := nl_writes) (sc := defScope sl_writes) (by decide +kernel)) (gb_nm 11 (fun _ _ _ _ _ => pg_name (i := 11) nd rfl (Or.inl rfl))) (by simp) (i_rng (by rfl) mr <| d_len (by rfl) ml <| .of <| d_nm 0 rfl ⟨by rw [List.length_map]; omega, ?_⟩)) nd
  refine ⟨by rw [rngD_len, Int.toNat_natCast, List.length_map]; omega, fun j acc => ∃ hs : List Nat, acc = hs.map natD ∧ hs.length ≤ j ∧ ∀ n ∈ hs, n < ps.length, ⟨[], rfl, Nat.le_refl _, fun n h => nomatch h⟩, ?_, ?_⟩
  · rintro j d acc hd ⟨hs, rfl, hl, hh⟩
    obtain ⟨rfl, hj⟩ := rng_at hd
    rw [Int.toNat_natCast, List.length_map] at hj
    rw [Int.zero_add]
    refine ⟨_, rfl, fun s1 H' C cl2 fp => t_notN <| .of <| d_ix <| d_ix <| d_nm 0 rfl <| d_nm 11 rfl ⟨pgD ps[j], atI_nat (by rw [List.getElem?_map, List.getElem?_eq_getElem hj]; rfl), d_int ⟨_, atI_1, ?_⟩⟩⟩
    refine (show _ ∧ _ from ⟨fun h3 => fun s2 H2 C2 cl3 fp2 => d_nm 11 rfl ⟨hs ++ [j], by rw [List.map_append]; rfl, by rw [List.length_append]; show hs.length + 1 ≤ j + 1; omega, fun n hn => ?_⟩, fun h3 => ⟨hs, rfl, by omega, hh⟩⟩)
    rcases List.mem_append.mp hn with hn | hn
    · exact hh n hn
    · rw [List.mem_singleton.mp hn]; exact hj
  rintro acc _ ⟨hs, rfl, hl, hh⟩
  rw [rngD_len, Int.toNat_natCast, List.length_map] at hl
  refine DN.w1 <| n_list (by rfl) mli <| d_nm 3 rfl ⟨[], .inr rfl, _, _, rfl, rfl, by rw [List.length_map]; show hs.length + 0 ≤ 100000; omega, ?_⟩
  rw [List.append_nil]
  -- a page that is free
  refine s_set 12 (d_ix <| .ofN <| n_lct (own := [("_law_n", 11)]) rfl nd (blkOk_by (N := nl_writes) (sc := defScope sl_writes) (by decide +kernel)) (gb_nm 11 (fun _ _ _ _ _ => pg_name (i := 11) nd rfl (Or.inl rfl))) (by simp) (i_rng (by rfl) mr <| d_add <| d_add <| d_len (by rfl) ml <| .of <| d_nm 0 rfl <| d_len (by rfl) ml <| .of <| d_nm 10 rfl <| d_int ?_)) nd
  have eN : (((ps.map pgD).length : Int) + ((hs.map natD).length : Int) + 1) = ((ps.length + hs.length + 1 : Nat) : Int) := by rw [List.length_map, List.length_map]; omega
  refine ⟨by rw [eN]; omega, ?_⟩
  have eM : ((((ps.map pgD).length : Int) + ((hs.map natD).length : Int)) + 1).toNat = ps.length + hs.length + 1 := by rw [eN]; exact Int.toNat_natCast _
  refine ⟨by rw [rngD_len, eM]; omega, fun j acc => ∃ gs : List Nat, acc = gs.map natD ∧ (∀ n ∈ gs, n ≤ 1000) ∧ (ps.length < j → gs ≠ []), ⟨[], rfl, (fun n h => nomatch h), fun h => by omega⟩, ?_, ?_⟩
  · rintro j d acc hd ⟨gs, rfl, hg, h0⟩
    obtain ⟨rfl, hj⟩ := rng_at hd
    rw [eM] at hj
    rw [Int.zero_add]
    refine ⟨_, rfl, fun s1 H' C cl2 fp => t_nin <| .of <| d_nm 11 rfl <| .of <| d_nm 10 rfl ⟨⟨rfl, flat_nats _⟩, ?_⟩⟩
    refine (show _ ∧ _ from ⟨fun h3 => fun s2 H2 C2 cl3 fp2 => d_nm 11 rfl ⟨gs ++ [j], by rw [List.map_append]; rfl, fun n hn => ?_, fun _ => by simp⟩, fun h3 => ⟨gs, rfl, hg, fun h => ?_⟩⟩)
    · rcases List.mem_append.mp hn with hn | hn
      · exact hg n hn
      · rw [List.mem_singleton.mp hn]; omega
    · have h3 : (!Z.inD (natD j) (hs.map natD)) = false := h3
      have h4 := hh j (inD_nat (by simpa using h3))
      exact h0 (by omega)
  rintro acc _ ⟨gs, rfl, hg, h0⟩
  rw [rngD_len, eM] at h0
  have gne := h0 (by omega)
  obtain ⟨m, gs', rfl⟩ := List.exists_cons_of_ne_nil gne
  have hm1 : m ≤ 1000 := hg m List.mem_cons_self
  refine d_int ⟨natD m, atI_0, ?_⟩
  obtain ⟨ok1, ok2⟩ := new_two (m := (m : Int)) nok okc.low okc.fol ⟨by omega, by omega, by omega⟩
  refine s_ret <| d_tup <| l_cons <| d_tup <| l_cons <| d_nm 12 rfl <| l_cons <| d_tup <| l_cons <| d_ix <| d_ix <| d_nm 8 rfl <| d_int ⟨entD e2, atI_2, d_int ⟨_, atI_0, l_cons <| d_tupleZ (by rfl) mt <| .ofN <| n_drL <| d_nm 8 rfl ⟨_, rfl, d_int ⟨2, rfl, _, rfl, l_cons <| d_nm 7 rfl <| l_nil ⟨by show 3 ≤ 100000; decide, l_nil ⟨by show 2 ≤ 100000; decide, ?_⟩⟩⟩⟩⟩⟩
  refine l_cons <| d_tup <| l_cons <| d_nm 4 rfl <| l_cons <| d_tup <| l_cons <| d_nm 5 rfl <| l_cons <| d_tupleZ (by rfl) mt <| .ofN <| n_tkL <| d_nm 8 rfl ⟨_, rfl, d_int ⟨2, rfl, _, rfl, l_cons <| d_nm 12 rfl <| l_nil ⟨by show 3 ≤ 100000; decide, l_nil ⟨by show 2 ≤ 100000; decide, l_nil ⟨by show 2 ≤ 100000; decide, q [(m, ⟨e2.1, [e2, e3], c.fol⟩), (p, ⟨c.low, [e0, e1], some (m : Int)⟩)] (Nat.le_refl _) fun x hx => ?_⟩⟩⟩⟩⟩
  simp only [List.mem_cons, List.not_mem_nil, or_false] at hx
  rcases hx with rfl | rfl
  · exact ⟨ok1, hm1⟩
  · exact ⟨ok2, by show p ≤ 1000; omega⟩
end
end E5
set_option Elab.async false
set_option linter.all false
set_option maxRecDepth 100000
set_option maxHeartbeats 4000000
/-! chains of pages as lists; how a write changes them -/
namespace E5
open PySem PySem.Spec PyProof.Rows L2 Y Z
/-- what leads on from a page -/
def Lead (c d : Cn) : Prop := ltB c.low d.low = true ∧ ∀ p ∈ c.ents, ltB p.1 d.low = true
/-- the rest of a chain behind a page -/
def ChT (ps : List Pg) : Cn → List (Nat × Cn) → Prop
  | c, [] => c.fol = none
  | c, (m, d) :: r => c.fol = some (m : Int) ∧ cAt ps m = some d ∧ Lead c d ∧ ChT ps d r
/-- a whole chain -/
def ChL (ps : List Pg) : List (Nat × Cn) → Prop
  | [] => False
  | (n, c) :: r => n = 0 ∧ cAt ps 0 = some c ∧ c.low = "" ∧ ChT ps c r
theorem ltB_tr {a b c : Str} (h : ltB a b = true) (g : ltB b c = true) : ltB a c = true := ltB_iff.mpr (ltS_trans (ltB_iff.mp h) (ltB_iff.mp g))
theorem ltB_le {a b c : Str} (h : ltB b a = false) (g : ltB b c = true) : ltB a c = true := by
  rcases ltS_tri a c with x | x | x
  · exact ltB_iff.mpr x
  · subst x; rw [g] at h; cases h
  · have := ltB_tr g (ltB_iff.mpr x); rw [this] at h; cases h
theorem ltB_lt {a b c : Str} (h : ltB a b = true) (g : ltB c b = false) : ltB a c = true := by
  rcases ltS_tri a c with x | x | x
  · exact ltB_iff.mpr x
  · subst x; rw [h] at g; cases g
  · have := ltB_tr (ltB_iff.mpr x) h; rw [this] at g; cases g
theorem ltB_asym {a b : Str} (h : ltB a b = true) : ltB b a = false := by
  cases e : ltB b a with
  | false => rfl
  | true => have := ltB_tr h e; rw [ltB_irrefl] at this; cases this
/-- all lows behind are above -/
theorem ChT.above {ps : List Pg} : ∀ {c : Cn} {r : List (Nat × Cn)}, ChT ps c r → ∀ x ∈ r, ltB c.low x.2.low = true
  | _, [], _, x, hx => nomatch hx
  | c, (m, d) :: r, ⟨h1, h2, h3, h4⟩, x, hx => by
    rcases List.mem_cons.mp hx with rfl | hx
    · exact h3.1
    · exact ltB_tr h3.1 (ChT.above h4 x hx)
theorem ChT.entsB {ps : List Pg} : ∀ {c : Cn} {r : List (Nat × Cn)}, ChT ps c r → ∀ p ∈ c.ents, ∀ x ∈ r, ltB p.1 x.2.low = true
  | _, [], _, _, _, x, hx => nomatch hx
  | c, (m, d) :: r, ⟨h1, h2, h3, h4⟩, p, hp, x, hx => by
    rcases List.mem_cons.mp hx with rfl | hx
    · exact h3.2 p hp
    · exact ltB_tr (h3.2 p hp) (ChT.above h4 x hx)
theorem ChT.at {ps : List Pg} : ∀ {c : Cn} {r : List (Nat × Cn)}, ChT ps c r → ∀ x ∈ r, cAt ps x.1 = some x.2
  | _, [], _, x, hx => nomatch hx
  | c, (m, d) :: r, ⟨h1, h2, h3, h4⟩, x, hx => by
    rcases List.mem_cons.mp hx with rfl | hx
    · exact h2
    · exact ChT.at h4 x hx
/-- no page twice -/
theorem ChT.nd {ps : List Pg} : ∀ {c : Cn} {r : List (Nat × Cn)}, ChT ps c r → (r.map (·.1)).Nodup
  | _, [], _ => List.Pairwise.nil
  | c, (m, d) :: r, ⟨h1, h2, h3, h4⟩ => by
    rw [List.map_cons, List.nodup_cons]
    refine ⟨fun hm => ?_, ChT.nd h4⟩
    obtain ⟨x, hx, e⟩ := List.mem_map.mp hm
    have a := ChT.at h4 x hx
    have b := ChT.above h4 x hx
    dsimp only at e
    rw [e, h2] at a
    cases a
    rw [ltB_irrefl] at b; cases b
theorem ChL.at {ps : List Pg} {L : List (Nat × Cn)} (h : ChL ps L) : ∀ x ∈ L, cAt ps x.1 = some x.2 := by
  match L, h with
  | (n, c) :: r, ⟨h1, h2, h3, h4⟩ =>
    intro x hx
    rcases List.mem_cons.mp hx with rfl | hx
    · rw [h1]; exact h2
    · exact ChT.at h4 x hx
theorem ChL.nd {ps : List Pg} {L : List (Nat × Cn)} (h : ChL ps L) : (L.map (·.1)).Nodup := by
  match L, h with
  | (n, c) :: r, ⟨h1, h2, h3, h4⟩ =>
    rw [List.map_cons, List.nodup_cons]
    refine ⟨fun hm => ?_, ChT.nd h4⟩
    obtain ⟨x, hx, e⟩ := List.mem_map.mp hm
    have a := ChT.at h4 x hx
    have b := ChT.above h4 x hx
    dsimp only at e
    rw [e, h1, h2] at a
    cases a
    rw [ltB_irrefl] at b; cases b
theorem nodup_bound : ∀ (n : Nat) (l : List Nat), l.Nodup → (∀ x ∈ l, x < n) → l.length ≤ n
  | 0, l, _, h2 => by
    cases l with
    | nil => exact Nat.le_refl _
    | cons a r => exact absurd (h2 a List.mem_cons_self) (Nat.not_lt_zero _)
  | n + 1, l, h1, h2 => by
    by_cases hm : n ∈ l
    · have e := List.length_erase_of_mem hm
      have ih := nodup_bound n (l.erase n) (h1.erase n) fun x hx => by
        obtain ⟨a, b⟩ := (List.Nodup.mem_erase_iff h1).mp hx
        have := h2 x b
        omega
      omega
    · have ih := nodup_bound n l h1 fun x hx => by
        have := h2 x hx
        have : x ≠ n := fun z => hm (z ▸ hx)
        omega
      omega
theorem cAt_lt {ps : List Pg} {n : Nat} {c : Cn} (h : cAt ps n = some c) : n < ps.length := by
  obtain ⟨m, hm⟩ := cAt_page h
  exact (List.getElem?_eq_some_iff.mp hm).1
theorem ChL.len {ps : List Pg} {L : List (Nat × Cn)} (h : ChL ps L) : L.length ≤ ps.length := by
  have := nodup_bound ps.length (L.map (·.1)) h.nd fun x hx => by
    obtain ⟨y, hy, rfl⟩ := List.mem_map.mp hx
    exact cAt_lt (h.at y hy)
  rwa [List.length_map] at this
/-! ### the law's chain finds it -/
theorem step_go {ps : List Pg} {t : Nat} {fd : List Nat} {low : Str} {n : Nat} {c : Cn} (hc : cAt ps n = some c) (h0 : t = 0 → c.low = "") (h1 : 0 < t → ltB low c.low = true ∧ ∀ p ∈ prevE ps fd, ltB p.1 c.low = true) : chStep ps t (fd, some (n : Int), low) = some (fd ++ [n], c.fol, c.low) := by
  have e : chStep ps t (fd, some (n : Int), low) = match cAt ps n with
      | none => none
      | some c => if t = 0 ∧ c.low ≠ "" then none else
        if 0 < t ∧ (ltB low c.low = false ∨ ((prevE ps fd).any fun p => !ltB p.1 c.low) = true) then none
        else some (fd ++ [n], c.fol, c.low) := rfl
  rw [e, hc]
  dsimp only
  rw [if_neg fun z => z.2 (h0 z.1), if_neg]
  rintro ⟨a, b⟩
  obtain ⟨h2, h3⟩ := h1 a
  rcases b with b | b
  · rw [h2] at b; cases b
  · obtain ⟨p, hp, hb⟩ := List.any_eq_true.mp b
    rw [h3 p hp] at hb; cases hb
theorem run_none {ps : List Pg} {t : Nat} {fd : List Nat} {low : Str} (h : chRun ps t = some (fd, none, low)) : ∀ k, chRun ps (t + k) = some (fd, none, low)
  | 0 => h
  | k + 1 => by
    show (chRun ps (t + k)).bind _ = _
    rw [run_none h k]; rfl
theorem run_tail {ps : List Pg} : ∀ {c : Cn} {r : List (Nat × Cn)} {t : Nat} {fd : List Nat} {n : Nat}, ChT ps c r → cAt ps n = some c → 0 < t → chRun ps t = some (fd ++ [n], c.fol, c.low) → ∃ low, chRun ps (t + r.length) = some (fd ++ [n] ++ r.map (·.1), none, low)
  | c, [], t, fd, n, h, hc, ht, e => by
    have h : c.fol = none := h
    rw [h] at e
    exact ⟨c.low, by rw [List.map_nil, List.append_nil]; exact e⟩
  | c, (m, d) :: r, t, fd, n, ⟨h1, h2, h3, h4⟩, hc, ht, e => by
    have pe : prevE ps (fd ++ [n]) = c.ents := by unfold prevE; rw [List.getLast?_append]; simp [hc]
    have e2 : chRun ps (t + 1) = some (fd ++ [n] ++ [m], d.fol, d.low) := by
      show (chRun ps t).bind _ = _
      rw [e, h1]
      exact step_go h2 (fun z => by omega) fun _ => ⟨h3.1, by rw [pe]; exact h3.2⟩
    obtain ⟨low, hl⟩ := run_tail (n := m) h4 h2 (Nat.succ_pos t) e2
    refine ⟨low, ?_⟩
    rw [List.length_cons, show t + (r.length + 1) = t + 1 + r.length by omega, hl, List.map_cons, List.append_assoc (fd ++ [n])]; rfl
theorem chain_of_L {ps : List Pg} {L : List (Nat × Cn)} (h : ChL ps L) : chain ps = some (L.map (·.1)) := by
  have hl := h.len
  match L, h, hl with
  | (n, c) :: r, ⟨h1, h2, h3, h4⟩, hl =>
    subst h1
    have e1 : chRun ps 1 = some ([] ++ [0], c.fol, c.low) := by
      show (some (([], some 0, "") : ChS)).bind _ = _
      exact step_go (n := 0) h2 (fun _ => h3) fun z => absurd z (Nat.lt_irrefl _)
    obtain ⟨low, e2⟩ := run_tail h4 h2 Nat.one_pos e1
    rw [List.length_cons] at hl
    have e3 := run_none e2 (ps.length - (1 + r.length))
    rw [show 1 + r.length + (ps.length - (1 + r.length)) = ps.length by omega] at e3
    unfold chain
    rw [e3]; rfl
/-! ### the last page with a low up to a key -/
theorem split_place {ps : List Pg} {L : List (Nat × Cn)} (h : ChL ps L) (key : Str) : ∃ A p c B, L = A ++ (p, c) :: B ∧ (∀ x ∈ A, ltB key x.2.low = false) ∧ ltB key c.low = false ∧ (∀ x ∈ B, ltB key x.2.low = true) := by
  have gen : ∀ (r : List (Nat × Cn)) (n : Nat) (c : Cn), ChT ps c r → ltB key c.low = false → ∃ A p d B, (n, c) :: r = A ++ (p, d) :: B ∧ (∀ x ∈ A, ltB key x.2.low = false) ∧ ltB key d.low = false ∧ (∀ x ∈ B, ltB key x.2.low = true) := fun r => by
    induction r with
    | nil => exact fun n c _ hk => ⟨[], n, c, [], rfl, (fun x h => nomatch h), hk, fun x h => nomatch h⟩
    | cons y r ih =>
      obtain ⟨m, d⟩ := y
      rintro n c ⟨h1, h2, h3, h4⟩ hk
      cases hd : ltB key d.low with
      | false =>
        obtain ⟨A, p, e, B, eq, a1, a2, a3⟩ := ih m d h4 hd
        refine ⟨(n, c) :: A, p, e, B, by rw [eq]; rfl, fun x hx => ?_, a2, a3⟩
        rcases List.mem_cons.mp hx with rfl | hx
        · exact hk
        · exact a1 x hx
      | true =>
        refine ⟨[], n, c, (m, d) :: r, rfl, (fun x h => nomatch h), hk, fun x hx => ?_⟩
        rcases List.mem_cons.mp hx with rfl | hx
        · exact hd
        · exact ltB_tr hd (ChT.above h4 x hx)
  match L, h with
  | (n, c) :: r, ⟨h1, h2, h3, h4⟩ => exact gen r n c h4 (by rw [h3]; exact ltB_nil key)
/-! ### pages changed -/
theorem ChT.congr {ps ps' : List Pg} : ∀ {c : Cn} {r : List (Nat × Cn)}, ChT ps c r → (∀ x ∈ r, cAt ps' x.1 = cAt ps x.1) → ChT ps' c r
  | _, [], h, _ => h
  | c, (m, d) :: r, ⟨h1, h2, h3, h4⟩, k => ⟨h1, (k (m, d) List.mem_cons_self).trans h2, h3, ChT.congr h4 fun x hx => k x (List.mem_cons_of_mem _ hx)⟩
/-- another content for a page, that leads on as it did -/
theorem ChT.fol {ps : List Pg} {c c' : Cn} {r : List (Nat × Cn)} (h : ChT ps c r) (hf : c'.fol = c.fol) (hb : ∀ x ∈ r, ltB c'.low x.2.low = true ∧ ∀ p ∈ c'.ents, ltB p.1 x.2.low = true) : ChT ps c' r := by
  match r, h with
  | [], h => exact hf.trans h
  | (m, d) :: r, ⟨h1, h2, h3, h4⟩ => exact ⟨hf.trans h1, h2, hb (m, d) List.mem_cons_self, h4⟩
theorem repl_T {ps ps' : List Pg} {c c' : Cn} {p : Nat} {B B' : List (Nat × Cn)} (hlow : c'.low = c.low) (hp : cAt ps' p = some c') (hT : ChT ps' c' B') : ∀ (A : List (Nat × Cn)) (d : Cn), ChT ps d (A ++ (p, c) :: B) → (∀ x ∈ A, cAt ps' x.1 = cAt ps x.1) → ChT ps' d (A ++ (p, c') :: B')
  | [], d, ⟨h1, h2, h3, h4⟩, _ => ⟨h1, hp, ⟨by rw [hlow]; exact h3.1, by rw [hlow]; exact h3.2⟩, hT⟩
  | (m, e) :: A, d, ⟨h1, h2, h3, h4⟩, k => ⟨h1, (k (m, e) List.mem_cons_self).trans h2, h3, repl_T hlow hp hT A e h4 fun x hx => k x (List.mem_cons_of_mem _ hx)⟩
theorem repl_L {ps ps' : List Pg} {c c' : Cn} {p : Nat} {A B B' : List (Nat × Cn)} (h : ChL ps (A ++ (p, c) :: B)) (hlow : c'.low = c.low) (hp : cAt ps' p = some c') (hT : ChT ps' c' B') (hA : ∀ x ∈ A, cAt ps' x.1 = cAt ps x.1) : ChL ps' (A ++ (p, c') :: B') := by
  match A, h, hA with
  | [], ⟨h1, h2, h3, h4⟩, _ => exact ⟨h1, by rw [← h1]; exact hp, hlow.trans h3, hT⟩
  | (m, e) :: A, ⟨h1, h2, h3, h4⟩, hA =>
    refine ⟨h1, ?_, h3, repl_T hlow hp hT A e h4 fun x hx => hA x (List.mem_cons_of_mem _ hx)⟩
    have := hA (m, e) List.mem_cons_self
    rw [show ((m, e) : Nat × Cn).1 = 0 from h1] at this
    exact this.trans h2
/-- what stands behind a page of a chain -/
theorem ChT.behind {ps : List Pg} {c : Cn} {p : Nat} {B : List (Nat × Cn)} : ∀ (A : List (Nat × Cn)) (d : Cn), ChT ps d (A ++ (p, c) :: B) → ChT ps c B
  | [], _, ⟨_, _, _, h4⟩ => h4
  | (m, e) :: A, _, ⟨_, _, _, h4⟩ => ChT.behind A e h4
theorem ChL.behind {ps : List Pg} {c : Cn} {p : Nat} {A B : List (Nat × Cn)} (h : ChL ps (A ++ (p, c) :: B)) : ChT ps c B := by
  match A, h with
  | [], ⟨_, _, _, h4⟩ => exact h4
  | (m, e) :: A, ⟨_, _, _, h4⟩ => exact ChT.behind A e h4
theorem ChL.apart {ps : List Pg} {c : Cn} {p : Nat} {A B : List (Nat × Cn)} (h : ChL ps (A ++ (p, c) :: B)) : (∀ x ∈ A, x.1 ≠ p) ∧ ∀ x ∈ B, x.1 ≠ p := by
  have nd := h.nd
  rw [List.map_append, List.map_cons, List.nodup_append] at nd
  obtain ⟨n1, n2, n3⟩ := nd
  refine ⟨fun x hx e => n3 x.1 (List.mem_map.mpr ⟨x, hx, rfl⟩) p List.mem_cons_self e, fun x hx e => ?_⟩
  exact (List.nodup_cons.mp n2).1 (List.mem_map.mpr ⟨x, hx, e⟩)
/-- entries of a page behind a write, where they stand -/
theorem ents_B {ps : List Pg} {c : Cn} {B : List (Nat × Cn)} {key : Str} {n : Int} {es : List (Str × Int)} (h : ChT ps c B) (hB : ∀ x ∈ B, ltB key x.2.low = true) (pm : es.Perm (c.ents.filter (fun p => !decide (p.1 = key)) ++ addE key n)) : ∀ x ∈ B, ∀ p ∈ es, ltB p.1 x.2.low = true := fun x hx p hp => by
  rcases List.mem_append.mp (pm.mem_iff.mp hp) with g | g
  · exact h.entsB p (List.mem_filter.mp g).1 x hx
  · unfold addE at g
    split at g
    · cases g
    · rw [List.mem_singleton.mp g]; exact hB x hx
/-- a write of one page -/
theorem write_one {ps ps' : List Pg} {c : Cn} {p : Nat} {A B : List (Nat × Cn)} {es : List (Str × Int)} (h : ChL ps (A ++ (p, c) :: B)) (hes : ∀ x ∈ B, ∀ q ∈ es, ltB q.1 x.2.low = true) (hp : cAt ps' p = some ⟨c.low, es, c.fol⟩) (ho : ∀ n, n ≠ p → cAt ps' n = cAt ps n) : ChL ps' (A ++ (p, ⟨c.low, es, c.fol⟩) :: B) := by
  obtain ⟨a1, a2⟩ := h.apart
  have hT := h.behind
  refine repl_L h rfl hp ((ChT.congr hT fun x hx => ho _ (a2 x hx)).fol rfl fun x hx => ⟨hT.above x hx, hes x hx⟩) fun x hx => ho _ (a1 x hx)
/-- a page written that the chain does not reach -/
theorem write_off {ps ps' : List Pg} {L : List (Nat × Cn)} (h : ChL ps L) (ho : ∀ x ∈ L, cAt ps' x.1 = cAt ps x.1) : ChL ps' L := by
  match L, h with
  | (n, c) :: r, ⟨h1, h2, h3, h4⟩ =>
    refine ⟨h1, ?_, h3, ChT.congr h4 fun x hx => ho x (List.mem_cons_of_mem _ hx)⟩
    have := ho (n, c) List.mem_cons_self
    rw [show ((n, c) : Nat × Cn).1 = 0 from h1] at this
    exact this.trans h2
/-- a page parted in two -/
theorem write_two {ps ps' : List Pg} {c : Cn} {p m : Nat} {A B : List (Nat × Cn)} {e0 e1 e2 e3 : Str × Int} (h : ChL ps (A ++ (p, c) :: B)) (nok : NewOk c.low [e0, e1, e2, e3]) (hes : ∀ x ∈ B, ∀ q ∈ [e0, e1, e2, e3], ltB q.1 x.2.low = true)
    (hm : ∀ x ∈ A ++ (p, c) :: B, x.1 ≠ m) (hp : cAt ps' p = some ⟨c.low, [e0, e1], some (m : Int)⟩) (hm2 : cAt ps' m = some ⟨e2.1, [e2, e3], c.fol⟩) (ho : ∀ n, n ≠ p → n ≠ m → cAt ps' n = cAt ps n) : ChL ps' (A ++ (p, ⟨c.low, [e0, e1], some (m : Int)⟩) :: (m, ⟨e2.1, [e2, e3], c.fol⟩) :: B) := by
  obtain ⟨a1, a2⟩ := h.apart
  have hT := h.behind
  have as := nok.asc
  simp only [List.map_cons, List.map_nil, List.pairwise_cons, List.mem_cons, List.not_mem_nil, or_false] at as
  have l01 : ltB e0.1 e1.1 = true := as.1 _ (.inl rfl)
  have l02 : ltB e0.1 e2.1 = true := as.1 _ (.inr (.inl rfl))
  have l12 : ltB e1.1 e2.1 = true := as.2.1 _ (.inl rfl)
  have lc : ltB c.low e2.1 = true := ltB_le (nok.ents e0 (by simp)).2.2.2 l02
  refine repl_L (c' := ⟨c.low, [e0, e1], some (m : Int)⟩) h rfl hp ⟨rfl, hm2, ⟨lc, fun q hq => ?_⟩, ?_⟩ fun x hx => ho _ (a1 x hx) (hm x (List.mem_append_left _ hx))
  · simp only [List.mem_cons, List.not_mem_nil, or_false] at hq
    rcases hq with rfl | rfl
    · exact l02
    · exact l12
  · refine (ChT.congr hT fun x hx => ho _ (a2 x hx) (hm x (by simp [hx]))).fol rfl fun x hx => ⟨hes x hx e2 (by simp), fun q hq => ?_⟩
    simp only [List.mem_cons, List.not_mem_nil, or_false] at hq
    rcases hq with rfl | rfl
    · exact hes x hx _ (by simp)
    · exact hes x hx _ (by simp)
/-! ### all entries of a chain -/
def entsL (L : List (Nat × Cn)) : List (Str × Int) := L.flatMap (·.2.ents)
theorem entsL_app {A B : List (Nat × Cn)} : entsL (A ++ B) = entsL A ++ entsL B := List.flatMap_append
theorem entsL_cons {x : Nat × Cn} {B : List (Nat × Cn)} : entsL (x :: B) = x.2.ents ++ entsL B := List.flatMap_cons
end E5
set_option Elab.async false
set_option linter.all false
set_option maxRecDepth 100000
set_option maxHeartbeats 4000000
/-! the entries of a chain: their order, what a write makes of them, what is found in them -/
namespace E5
open PySem PySem.Spec PyProof.Rows L2 Y Z
theorem entsL_mem {B : List (Nat × Cn)} {q : Str × Int} (h : q ∈ entsL B) : ∃ x ∈ B, q ∈ x.2.ents := List.mem_flatMap.mp h
theorem le_lt {a b c : Str} (h : ltB a b = true) (g : ltB c b = false) : ltB a c = true := ltB_lt h g
theorem asc_T {ps : List Pg} : ∀ {r : List (Nat × Cn)} {c : Cn}, ChT ps c r → CnOk c → (∀ x ∈ r, CnOk x.2) → ((c.ents ++ entsL r).map (·.1)).Pairwise (fun a b => ltB a b = true)
  | [], c, _, ok, _ => by
    have e : c.ents ++ entsL [] = c.ents := List.append_nil _
    rw [e]; exact ok.asc
  | (m, d) :: r, c, h, ok, okr => by
    have ih := asc_T h.2.2.2 (okr (m, d) List.mem_cons_self) fun x hx => okr x (List.mem_cons_of_mem _ hx)
    rw [entsL_cons, List.map_append, List.pairwise_append]
    refine ⟨ok.asc, ih, fun a ha b hb => ?_⟩
    obtain ⟨p, hp, rfl⟩ := List.mem_map.mp ha
    obtain ⟨q, hq, rfl⟩ := List.mem_map.mp hb
    rcases List.mem_append.mp hq with hq | hq
    · exact le_lt (h.2.2.1.2 p hp) ((okr (m, d) List.mem_cons_self).ents q hq).2.2.2
    · obtain ⟨x, hx, hq⟩ := entsL_mem hq
      exact le_lt (h.entsB p hp x (List.mem_cons_of_mem _ hx)) ((okr x (List.mem_cons_of_mem _ hx)).ents q hq).2.2.2
theorem ChL.ok {ps : List Pg} {L : List (Nat × Cn)} (h : ChL ps L) (hp : ∀ p ∈ ps, PgOk p) : ∀ x ∈ L, CnOk x.2 := fun x hx => cAt_ok hp (h.at x hx)
theorem ChL.asc {ps : List Pg} {L : List (Nat × Cn)} (h : ChL ps L) (hp : ∀ p ∈ ps, PgOk p) : ((entsL L).map (·.1)).Pairwise (fun a b => ltB a b = true) := by
  have ok := h.ok hp
  match L, h with
  | (n, c) :: r, ⟨h1, h2, h3, h4⟩ =>
    rw [entsL_cons]
    exact asc_T h4 (ok (n, c) List.mem_cons_self) fun x hx => ok x (List.mem_cons_of_mem _ hx)
theorem ahead_T {ps : List Pg} {c : Cn} {p : Nat} {B : List (Nat × Cn)} : ∀ (A : List (Nat × Cn)) (d : Cn), ChT ps d (A ++ (p, c) :: B) → (∀ q ∈ d.ents, ltB q.1 c.low = true) ∧ ∀ x ∈ A, ∀ q ∈ x.2.ents, ltB q.1 c.low = true
  | [], d, h => ⟨fun q hq => h.entsB q hq (p, c) List.mem_cons_self, fun x hx => nomatch hx⟩
  | (m, e) :: A, d, h => by
    obtain ⟨i1, i2⟩ := ahead_T A e h.2.2.2
    refine ⟨fun q hq => h.entsB q hq (p, c) (by simp), fun x hx => ?_⟩
    rcases List.mem_cons.mp hx with rfl | hx
    · exact i1
    · exact i2 x hx
theorem ahead_L {ps : List Pg} {c : Cn} {p : Nat} {A B : List (Nat × Cn)} (h : ChL ps (A ++ (p, c) :: B)) : ∀ x ∈ A, ∀ q ∈ x.2.ents, ltB q.1 c.low = true := by
  match A, h with
  | [], _ => exact fun x hx => nomatch hx
  | (m, e) :: A, ⟨h1, h2, h3, h4⟩ =>
    obtain ⟨i1, i2⟩ := ahead_T A e h4
    intro x hx
    rcases List.mem_cons.mp hx with rfl | hx
    · exact i1
    · exact i2 x hx
/-- the key stands in no other page -/
theorem key_apart {ps : List Pg} {c : Cn} {p : Nat} {A B : List (Nat × Cn)} {key : Str} (h : ChL ps (A ++ (p, c) :: B)) (hp : ∀ p ∈ ps, PgOk p) (hk : ltB key c.low = false) (hB : ∀ x ∈ B, ltB key x.2.low = true) : (∀ q ∈ entsL A, q.1 ≠ key) ∧ ∀ q ∈ entsL B, q.1 ≠ key := by
  refine ⟨fun q hq e => ?_, fun q hq e => ?_⟩
  · obtain ⟨x, hx, hq⟩ := entsL_mem hq
    have := ahead_L h x hx q hq
    rw [e, hk] at this; cases this
  · obtain ⟨x, hx, hq⟩ := entsL_mem hq
    have h1 := hB x hx
    have h2 := ((h.ok hp x (by simp [hx])).ents q hq).2.2.2
    rw [e, h1] at h2; cases h2
theorem filter_all {l : List (Str × Int)} {key : Str} (h : ∀ q ∈ l, q.1 ≠ key) : l.filter (fun p => !decide (p.1 = key)) = l := List.filter_eq_self.mpr fun q hq => by
  have := h q hq
  simp [this]
/-- what a write makes of all the entries -/
theorem ents_write {ps : List Pg} {c : Cn} {p : Nat} {A B : List (Nat × Cn)} {key : Str} {n : Int} {es : List (Str × Int)} (h : ChL ps (A ++ (p, c) :: B)) (hp : ∀ p ∈ ps, PgOk p) (hk : ltB key c.low = false) (hB : ∀ x ∈ B, ltB key x.2.low = true)
    (pm : es.Perm (c.ents.filter (fun p => !decide (p.1 = key)) ++ addE key n)) : (entsL A ++ (es ++ entsL B)).Perm ((entsL (A ++ (p, c) :: B)).filter (fun p => !decide (p.1 = key)) ++ addE key n) := by
  obtain ⟨a1, a2⟩ := key_apart h hp hk hB
  rw [entsL_app, entsL_cons, List.filter_append, List.filter_append, filter_all a1, filter_all a2, List.append_assoc, List.append_assoc]
  refine List.Perm.append_left _ ?_
  refine (pm.append_right _).trans ?_
  rw [List.append_assoc]
  exact List.Perm.append_left _ List.perm_append_comm
theorem find_app {α : Type} {f : α → Bool} {a b : List α} (h : ∀ x ∈ a, f x = false) : (a ++ b).find? f = b.find? f := by
  rw [List.find?_append, List.find?_eq_none.mpr fun x hx => by rw [h x hx]; exact Bool.false_ne_true]; rfl
abbrev kvE (es : List (Str × Int)) : List (Key × Dt) := es.map fun p => ((.inr p.1 : Key), Dt.int p.2)
theorem val_app {es fs : List (Str × Int)} {key : Str} (h : ∀ q ∈ es, q.1 ≠ key) : valD (kvE (es ++ fs)) (.inr key) = valD (kvE fs) (.inr key) := by
  unfold valD kvE
  rw [List.map_append, find_app]
  intro x hx
  obtain ⟨p, hp, rfl⟩ := List.mem_map.mp hx
  exact decide_eq_false fun e => h p hp (Sum.inr.inj e)
theorem val_app2 {es fs : List (Str × Int)} {key : Str} (h : ∀ q ∈ fs, q.1 ≠ key) : valD (kvE (es ++ fs)) (.inr key) = valD (kvE es) (.inr key) := by
  unfold valD kvE
  rw [List.map_append, List.find?_append]
  have : (fs.map fun p => ((.inr p.1 : Key), Dt.int p.2)).find? (fun kv => decide (kv.1 = .inr key)) = none := List.find?_eq_none.mpr fun x hx => by
    obtain ⟨p, hp, rfl⟩ := List.mem_map.mp hx
    rw [decide_eq_false fun e => h p hp (Sum.inr.inj e)]; exact Bool.false_ne_true
  rw [this, Option.or_none]
/-- a key is found in its own page -/
theorem val_chain {ps : List Pg} {c : Cn} {p : Nat} {A B : List (Nat × Cn)} {key : Str} (h : ChL ps (A ++ (p, c) :: B)) (hp : ∀ p ∈ ps, PgOk p) (hk : ltB key c.low = false) (hB : ∀ x ∈ B, ltB key x.2.low = true) : valD (kvE (entsL (A ++ (p, c) :: B))) (.inr key) = valD (kvE c.ents) (.inr key) := by
  obtain ⟨a1, a2⟩ := key_apart h hp hk hB
  rw [entsL_app, entsL_cons, val_app a1, val_app2 a2]
/-- one order of the same entries -/
theorem ents_uniq {as bs : List (Str × Int)} (h : as.Perm bs) (ha : (as.map (·.1)).Pairwise (fun a b => ltB a b = true)) (hb : (bs.map (·.1)).Pairwise (fun a b => ltB a b = true)) : as = bs :=
  List.Perm.eq_of_pairwise (le := fun u v => ltB u.1 v.1 = true) (fun a b _ _ x y => by rw [ltB_asym x] at y; cases y) (List.pairwise_map.mp ha) (List.pairwise_map.mp hb) h
/-- sorted pairs with keys that differ -/
theorem sorted_asc {es : List (Str × Int)} (h : es.Pairwise (fun v u => ltB u.1 v.1 = false)) (nd : (es.map (·.1)).Nodup) : (es.map (·.1)).Pairwise (fun a b => ltB a b = true) := by
  have h1 : (es.map (·.1)).Pairwise (fun v u => ltB u v = false) := List.pairwise_map.mpr h
  refine (h1.and (List.nodup_iff_pairwise_ne.mp nd)).imp fun {a b} h => ?_
  rcases ltS_tri a b with g | g | g
  · exact ltB_iff.mpr g
  · exact absurd g h.2
  · have := ltB_iff.mpr g
    rw [h.1] at this; cases this
theorem asc_nodup {es : List (Str × Int)} (h : (es.map (·.1)).Pairwise (fun a b => ltB a b = true)) : (es.map (·.1)).Nodup := h.imp fun {a b} g => by
  rintro rfl
  rw [ltB_irrefl] at g; cases g
/-- a lookup does not see the order -/
theorem val_perm {es fs : List (Str × Int)} (pm : es.Perm fs) (nd : (es.map (·.1)).Nodup) (k : Key) : valD (kvE es) k = valD (kvE fs) k := by
  unfold valD kvE
  rw [List.find?_map, List.find?_map, Option.map_map, Option.map_map]
  congr 1
  induction pm with
  | nil => rfl
  | cons x _ ih =>
    rw [List.map_cons, List.nodup_cons] at nd
    rw [List.find?_cons, List.find?_cons, ih nd.2]
  | swap x y l =>
    rw [List.map_cons, List.map_cons, List.nodup_cons] at nd
    have ne : y.1 ≠ x.1 := fun e => nd.1 (by rw [e]; exact List.mem_cons_self)
    simp only [List.find?_cons, Function.comp]
    by_cases h1 : (Sum.inr y.1 : Key) = k
    · have h2 : (Sum.inr x.1 : Key) ≠ k := fun z => ne (Sum.inr.inj (h1.trans z.symm))
      simp [h1, h2]
    · simp [h1]
  | trans p1 _ i1 i2 => exact (i1 nd).trans (i2 ((p1.map (·.1)).nodup_iff.mp nd))
end E5
set_option Elab.async false
set_option linter.all false
set_option maxRecDepth 100000
set_option maxHeartbeats 4000000
/-! x, y = new, frozen; by data -/
namespace Z
open PySem PySem.Spec PyProof.Rows L2 Evl Y
section
variable {X : Cx} {ρ : List Sl} {e a b c o : Expr} {es : List Expr} {Q Q' : Dt → Prop} {σ : L2.St} {d : Dt} {pos p1 p2 p3 q1 q2 px py pz pt : Pos} {rest : List Stmt} {E : DEnds} {x y : Str}
theorem s_parOF {kt k2 : Nat} {pt2 : Pos} (i j : Nat) (h : DN X ρ a fun d1 => DE X ρ b fun d2 => DS X ((ρ.set i (.ow d1)).set j (.fr d2)) rest E) (hc : X.calm = true) (hN : X.N.Nodup) (hij : i ≠ j) (hi : X.N[i]? = some x := by rfl) (hj : X.N[j]? = some y := by rfl)
    (hx : X.env.scope.names.lookup x = some .local := by rfl) (hy : X.env.scope.names.lookup y = some .local := by rfl)
    (hw : swappedStores [.Tuple [.Name x px, .Name y py] kt pt] (.Tuple [a, b] k2 pt2) X.env = pure (some [x, y]) := by rfl) (hs : swapsWithSole [.Tuple [.Name x px, .Name y py] kt pt] (.Tuple [a, b] k2 pt2) pos.line X.env = pure false := by rfl)
    (he : starEach [a, b] X.env = (false, eval a X.env) :: starEach [b] X.env := by rfl) (he2 : starEach [b] X.env = (false, eval b X.env) :: starEach [] X.env := by rfl) :
    DS X ρ (.Assign [.Tuple [.Name x px, .Name y py] kt pt] (.Tuple [a, b] k2 pt2) pos :: rest) E :=
  ⟨fun H0 B0 B σ H D g En => fun L => semS_of (pss_cons (ps_par hc hN hi hj hij hx hy (pa_cons pe_sem (pa_cons pe_sem pa_nil he2) he) hw hs) pss_sem) (h.go En fun B2 p1 d1 H2 g2 E2 hp1 hb1 o1 q1 => q1.go E2 fun B3 v2 d2 H3 g3 E3 r2 q2 => ⟨_, _, rfl, by
    obtain ⟨u, hu, mu⟩ := o1.mut
    have hb1' : B3 p1 = none := g3.o p1 u hu mu hb1
    have o1' : Od X.K B3 H3 p1 d1 := o1.ex g3.b (by rw [hu, g3.h _ _ hu])
    have E4 := E3.setO (i := i) hb1' (fresh_back g.h hp1) o1' (fun k d z1 z2 => Z.En.noSlot (i := i) En hp1 k d z1 z2)
    exact q2.run H0 B0 B3 _ H3 D ((g.trans g2).trans g3) (E4.set (i := j) r2) L⟩)⟩
end
end Z
set_option Elab.async false
set_option linter.all false
set_option maxRecDepth 100000
set_option maxHeartbeats 4000000
/-! [e for x in a for y in b], b a tuple; by data -/
namespace Z
open PySem PySem.Spec PyProof.Rows L2 Evl Y
section
variable {X : Cx} {ρ : List Sl} {elt iter iter1 : Expr} {Q : Dt → Prop} {pos px py : Pos} {scope : Scope} {own : List (Str × Nat)} {xn yn : Str}
/-- the turns of two loops: what has been gathered -/
def Lc2Q (X : Cx) (scope : Scope) (own : List (Str × Nat)) (ρ : List Sl) (i j : Nat) (iter1 elt : Expr) (ds : List Dt) (Q : Dt → Prop) : Prop :=
  ∃ A : Nat → List Dt → Prop, A 0 [] ∧ (∀ n d acc, ds[n]? = some d → A n acc → DEb X scope ((wipeD ρ (own.map (·.2))).set i (.fr d)) iter1 fun x => ∃ es, x = .tup es ∧ ∃ A1 : Nat → List Dt → Prop, A1 0 acc ∧
    (∀ m e acc1, es[m]? = some e → A1 m acc1 → acc1.length < 100000 ∧ DEb X scope ((wipeD ((wipeD ρ (own.map (·.2))).set i (.fr d)) [j]).set j (.fr e)) elt fun y => A1 (m + 1) (acc1 ++ [y])) ∧ ∀ acc1, A1 es.length acc1 → A (n + 1) acc1) ∧
  ∀ acc, A ds.length acc → Q (.lst acc)
theorem n_lc2 (i j : Nat) (hc : X.calm = true) (hN : X.N.Nodup) (ok : BlkOk X.N X.env.scope scope own)
    (hg : ∀ (s : Shared) (H : Hp) (C : Addr) (cl : List (Str × Addr)) (fp : List Addr), PG (X.blk s H scope (compEnvC scope cl C X.env) fp) (.Name xn px) (gName i))
    (hg1 : ∀ (s : Shared) (H : Hp) (C : Addr) (cl : List (Str × Addr)) (fp : List Addr), PG (X.blk s H scope (compEnvC scope cl C X.env) fp) (.Name yn py) (gName j))
    (hj : i ∈ own.map (·.2)) (hj1 : j ∈ own.map (·.2)) (hs1 : ∀ env x, foldedSetIterable iter1 env x = pure x)
    (hi : DI X ρ (.Name xn px) iter fun ds => Lc2Q X scope own ρ i j iter1 elt ds Q) : DN X ρ (.ListComp elt [⟨.Name xn px, iter, [], 0⟩, ⟨.Name yn py, iter1, [], 0⟩] scope pos) Q := by
  obtain ⟨wi, pi, hw⟩ := hi.ex
  refine ⟨fun H0 B σ H E => sem_of (pe_lc2 (vs1 := [j]) (wi1 := iTup X.K (blkE X scope iter1)) hc hN pi ok (fun k hk => by rw [List.mem_singleton.mp hk]; exact hj1) hg (fun _ _ _ _ _ => pts_nil) (fun s H' C cl fp => pi_tup (pe_blk s H' C cl fp)) hg1 (fun _ _ _ _ _ => pts_nil) (fun s H' C cl fp => pe_blk s H' C cl fp) hi.fo hs1) (hw H0 B σ H _ E fun B2 H2 J ds g2 E2 w q D hD => ?_)⟩
  obtain ⟨G, Y, wk, hG, hY⟩ := w
  obtain ⟨A, a0, as, ad⟩ := q
  have hBD : B2 D = none := fresh_back E2.ex hD
  let Pv : Nat → Hp → Prop := fun n H' => ∃ Bn vs acc, Gr B2 H2 Bn H' ∧ Bn D = none ∧ H' D = some (.lst vs) ∧ RpL X.K Bn vs acc ∧ A n acc
  refine ⟨fun n m H' => m = ds.length - n ∧ n ≤ ds.length ∧ Pv n H', ⟨_, rfl, Nat.zero_le _, B2, [], [], ⟨Ex.refl _, Ex.new hD, Ex.mut E2.ex hBD, fun _ _ _ _ q => q⟩, hBD, upd_same, .nil, a0⟩, ?_⟩
  rintro n m H' ⟨rfl, hin, Bn, vs, acc, g1, n1, h1, r1, p1⟩
  have hGn : G H' := hG H' (g1.b.trans g1.s)
  by_cases hlt : n < ds.length
  · refine .inr ⟨wk.goes n H' hlt hGn, Pv (n + 1), fun H'' p' => ⟨ds.length - (n + 1), by omega, rfl, hlt, p'⟩, fun x H'' y => ?_⟩
    obtain ⟨Bm, d, gm, hd, rd⟩ := hY n H' x H'' Bn hlt g1.b g1.s (wk.yields n H' x H'' hlt hGn y)
    have gb := g1.trans gm
    have nm : Bm D = none := gm.o D _ h1 rfl n1
    have hm : H'' D = some (.lst vs) := gm.h _ _ h1
    have E1 : En X.K H0 Bm ((wipeD ρ (own.map (·.2))).set i (.fr d)) ((L2.wipe σ (own.map (·.2))).set i (some x)) H'' := ((E2.gr gb).wipe _).set rd
    refine ⟨by rw [wipe_set hj, wipe_idem], iteT (B := Pv (n + 1) H'') ?_⟩
    refine fun s0 Hh C cl fp => (as n d acc hd p1 s0 Hh C cl fp).go E1 fun B3 v d' H3 g3 E4 r3 ⟨es, ed, A1, b0, bs, bf⟩ => ?_
    subst ed
    cases r3 with
    | tup ha hx =>
      rename_i a xs
      have gq := gb.trans g3
      let Pw : Nat → Hp → Prop := fun k Hj => ∃ Bj vsj accj, Gr B2 H2 Bj Hj ∧ Ex B3 Bj ∧ Bj D = none ∧ Hj D = some (.lst vsj) ∧ RpL X.K Bj vsj accj ∧ A1 k accj
      have hwalk : Walk (Itt X.K a) es.length (fun H => SqT X.K H a xs) (YAt xs) := by rw [← hx.len]; exact walk_tup
      refine ⟨_, rfl, ⟨_, ex_t E4.ex ha⟩, fun k m Hj => m = es.length - k ∧ k ≤ es.length ∧ Pw k Hj, ⟨_, rfl, Nat.zero_le _, B3, vs, acc, gq, Ex.refl _, g3.o D _ hm rfl nm, g3.h _ _ hm, (r1.ex gm.b).ex g3.b, b0⟩, ?_⟩
      rintro k m Hj ⟨rfl, hk, Bj, vsj, accj, gj, e3, nj, hjD, rj, pj⟩
      have hsq : SqT X.K Hj a xs := ex_t (e3.trans gj.s) ha
      by_cases hkl : k < es.length
      · refine .inr ⟨hwalk.goes k Hj hkl hsq, Pw (k + 1), fun H'' p' => ⟨es.length - (k + 1), by omega, rfl, hkl, p'⟩, fun x1 H5 y1 => ?_⟩
        obtain ⟨rfl, hx1⟩ := hwalk.yields k Hj x1 H5 hkl hsq y1
        obtain ⟨e, he, re⟩ := hx.at hx1
        have rdj : Rp X.K Bj x d := (rd.ex g3.b).ex e3
        have E5 : En X.K H0 Bj ((wipeD ((wipeD ρ (own.map (·.2))).set i (.fr d)) [j]).set j (.fr e)) ((L2.wipe ((L2.wipe σ (own.map (·.2))).set i (some x)) [j]).set j (some x1)) _ := ((((E2.gr gj).wipe _).set rdj).wipe _).set (re.ex e3)
        obtain ⟨hfew, bd1⟩ := bs k e accj he pj
        refine ⟨by rw [wipe_set (List.mem_singleton.mpr rfl), wipe_idem], iteT (B := Pw (k + 1) H5) ?_⟩
        refine fun s1 Hh1 C1 cl1 fp1 => (bd1 s1 Hh1 C1 cl1 fp1).go E5 fun B6 v6 d6 H6 g6 E6 r6 q6 => ?_
        have gg := gj.trans g6
        have n6 : B6 D = none := g6.o D _ hjD rfl nj
        have h6 : H6 D = some (.lst vsj) := g6.h _ _ hjD
        exact ⟨vsj, h6, sz_lt (by rw [rj.len]; exact hfew), B6, vsj ++ [v6], accj ++ [d6], ⟨gg.b, Ex.mut gg.h hD, Ex.mut gg.s n6, gg.o⟩, e3.trans g6.b, n6, upd_same, (rj.ex g6.b).app (.cons r6 .nil), q6⟩
      · have e : k = es.length := by omega
        subst e
        exact .inl ⟨hwalk.stops Hj hsq, Bj, vsj, accj, gj, nj, hjD, rj, bf accj pj⟩
  · have e : n = ds.length := by omega
    subst e
    exact .inl ⟨wk.stops H' hGn, Bn, D, .lst acc, g2.trans g1, rfl, fresh_back g2.h hD, n1, ⟨vs, h1, r1⟩, ad acc p1⟩
end
end Z
set_option Elab.async false
set_option linter.all false
set_option maxRecDepth 100000
set_option maxHeartbeats 4000000
/-! the program's chains, by data -/
namespace E5
open PySem PySem.Spec PyProof.Rows L2 Y Z
open Evl (Ex st_of sq_of ex_l ex_t fresh_back sz_of sz_lt)
abbrev fsD (L : List (Nat × Cn)) : Dt := .lst (L.map fun x => natD x.1)
def nextD : List (Nat × Cn) → Dt
  | [] => .non
  | x :: _ => natD x.1
theorem fol_next {ps : List Pg} {A B : List (Nat × Cn)} {p : Nat} {c : Cn} (h : ChL ps (A ++ (p, c) :: B)) : foD c.fol = nextD B := by
  have := h.behind
  match B, this with
  | [], h => rw [show c.fol = none from h]; rfl
  | (m, d) :: r, ⟨h1, _⟩ => rw [h1]; rfl
theorem ChL.lead {ps : List Pg} {A B : List (Nat × Cn)} {l n : Nat} {d c : Cn} (h : ChL ps ((A ++ [(l, d)]) ++ (n, c) :: B)) : Lead d c := by
  rw [List.append_assoc] at h
  exact (ChL.behind (A := A) (B := (n, c) :: B) h).2.2.1
theorem ChL.ne {ps : List Pg} {L : List (Nat × Cn)} (h : ChL ps L) : L ≠ [] := by rintro rfl; exact h
theorem ChL.psne {ps : List Pg} {L : List (Nat × Cn)} (h : ChL ps L) : ps ≠ [] := by
  rintro rfl
  match L, h with
  | (n, c) :: r, ⟨_, h2, _⟩ => cases h2
section
variable {P : Program} {w : World} {K : PySem.W.Frag} {mg : Str → Option Value} {base : Heap}
def dMay : List Dt → (Dt → Prop) → Prop := fun ds Q => ∃ (ps : List Pg) (A : List (Nat × Cn)) (n : Nat) (c : Cn) (B : List (Nat × Cn)), ds = [pgsD ps, fsD A, natD n] ∧ (∀ p ∈ ps, PgOk p) ∧ ChL ps (A ++ (n, c) :: B) ∧ Q (.bl true)
theorem ownD_may (D : Def K mg "may_follow" sp_may_follow) (B : Blt mg) : OwnD P w K mg base "may_follow" ["pages", "chain", "n"] 1 dMay := by
  refine ownD D cp_may_follow (fun ds Q Q' k ⟨a, b, c, d, e, h1, h2, h3, q⟩ => ⟨a, b, c, d, e, h1, h2, h3, k _ q⟩) (fun ds Q ⟨a, b, c, d, e, h, _⟩ => by subst h; rfl) (fun _ _ _ _ _ _ us hl => match us, hl with | [_, _, _], _ => rfl) ?_
  rintro X ds Q ⟨f, cdv, A0, outer, s0, H, E, rfl⟩ hr ⟨ps, A, n, c, C, rfl, ok, hch, q⟩
  have nd := cp_may_follow.nd
  have hc := hch.at (n, c) (by simp)
  dsimp only at hc
  obtain ⟨m, hm⟩ := cAt_page hc
  have hn := cAt_lt hc
  have okc := cAt_ok ok hc
  have hlt : ¬ ((n : Int) ≥ ((ps.map pgD).length : Int)) := by rw [List.length_map]; omega
  refine s_when <| DW.dt <| w_or <| t_ge <| .of <| d_nm 2 rfl <| .of <| d_len (by rfl) B.len <| .of <| d_nm 0 rfl ?_
  dsimp only [lenQ]
  refine ord_f (decide_eq_false hlt) ?_
  refine w_or1 <| t_isN <| .of <| d_ix <| d_ix <| d_nm 0 rfl <| d_nm 2 rfl ⟨pgD (m, some c), atI_nat (by rw [List.getElem?_map, hm]; rfl), d_int ⟨_, atI_1, two_f ?_⟩⟩
  refine s_set 3 (d_ix <| d_ix <| d_ix <| d_nm 0 rfl <| d_nm 2 rfl ⟨pgD (m, some c), atI_nat (by rw [List.getElem?_map, hm]; rfl), d_int ⟨_, atI_1, d_int ⟨_, atI_0, ?_⟩⟩⟩) nd
  rcases List.eq_nil_or_concat A with e | ⟨A', ⟨l, d⟩, e⟩
  · subst e
    have h0 : c.low = "" := by
      obtain ⟨_, _, h3, _⟩ := hch
      exact h3
    refine s_when <| t_not <| t_v <| .of <| d_nm 1 rfl ?_
    refine (show _ ∧ _ from ⟨fun _ => s_ret <| d_eq hr.units <| .of <| d_nm 3 rfl <| .of <| d_str ?_, fun h => by cases h⟩)
    show Q (.bl (decide (c.low = "")))
    rw [decide_eq_true h0]; exact q
  · rw [List.concat_eq_append] at e
    subst e
    have hd := hch.at (l, d) (by simp)
    dsimp only at hd
    obtain ⟨m2, hm2⟩ := cAt_page hd
    have okd := cAt_ok ok hd
    have ld := hch.lead
    have hfd := okd.few
    have last : atI ((A' ++ [(l, d)]).map fun x => natD x.1) (-1) = some (natD l) := by rw [List.map_append]; exact L2.atI_last _ _
    refine s_when <| t_not <| t_v <| .of <| d_nm 1 rfl ?_
    refine (show _ ∧ _ from ⟨fun h => ?_, fun _ => ?_⟩)
    · exfalso
      simp at h
    refine s_asg (d_ix <| d_ix <| d_nm 0 rfl <| d_ix <| d_nm 1 rfl <| d_neg <| d_int ⟨natD l, last, pgD (m2, some d), atI_nat (by rw [List.getElem?_map, hm2]; rfl), d_int ⟨_, atI_1, _, rfl, ?_⟩⟩) (g_tup3 4 5 6 rfl nd)
    refine s_ret <| d_and <| d_ltS <| .of <| d_nm 4 rfl <| .of <| d_nm 3 rfl ?_
    show (ltB d.low c.low = true → _) ∧ (ltB d.low c.low = false → _)
    rw [ld.1]
    refine two_t <| d_all rfl (by rfl) B.all (.ofN (n_lc (own := [("key", 7), ("_", 6)]) rfl nd (blkOk_by (N := np_may_follow) (sc := defScope sp_may_follow) (by decide +kernel)) (gb_tup2 7 6 (fun _ _ _ _ _ => pg_tup rfl (pgs_cons (pg_name (i := 7) nd rfl (Or.inl rfl)) (pgs_cons (pg_name (i := 6) nd rfl (Or.inl rfl)) pgs_nil)))) (by simp) (i_tup <| d_dz <| d_nm 5 rfl ⟨_, rfl, ?_⟩)))
    dsimp only [tuQ]
    refine LcQ.map (fun _ => .bl true) (by rw [List.length_map]; omega) (fun d' hd' => ?_) (all_bls q)
    obtain ⟨p, hp, rfl⟩ := List.mem_map.mp hd'
    refine ⟨_, rfl, fun s1 H' C cl fp => d_ltS <| .of <| d_nm 7 rfl <| .of <| d_nm 3 rfl ?_⟩
    show Dt.bl (ltB p.1 c.low) = .bl true
    rw [ld.2 p hp]
def dChainOf : List Dt → (Dt → Prop) → Prop := fun ds Q => ∃ (ps : List Pg) (L : List (Nat × Cn)), ds = [pgsD ps] ∧ (∀ p ∈ ps, PgOk p) ∧ ps.length ≤ 100 ∧ ChL ps L ∧ Q (fsD L)
theorem ownD_chainof (D : Def K mg "chain_of" sp_chain_of) (OM : OwnD P w K mg base "may_follow" ["pages", "chain", "n"] 1 dMay) : OwnD P w K mg base "chain_of" ["pages"] 2 dChainOf := by
  refine ownD D cp_chain_of (fun ds Q Q' k ⟨a, b, h1, h2, h3, h4, q⟩ => ⟨a, b, h1, h2, h3, h4, k _ q⟩) (fun ds Q ⟨a, b, h, _⟩ => by subst h; rfl) (fun _ _ _ _ _ _ us hl => match us, hl with | [_], _ => rfl) ?_
  rintro X ds Q ⟨f, cdv, A0, outer, s0, H, E, rfl⟩ hr ⟨ps, L, rfl, ok, few, hch, q⟩
  have nd := cp_chain_of.nd
  have hl := hch.len
  refine s_parOF 1 2 (n_lst <| l_nil ⟨Nat.zero_le _, d_int ?_⟩) rfl nd (by decide)
  have e0 : nextD L = natD 0 := by
    match L, hch with
    | (n, c) :: r, ⟨h1, _⟩ => rw [h1]; rfl
  refine s_while PassesOwn.never (fun m ρ => ∃ A B : List (Nat × Cn), L = A ++ B ∧ m = B.length ∧ ρ = [.fr (pgsD ps), .ow (fsD A), .fr (nextD B)]) L.length ⟨[], L, rfl, rfl, by rw [e0]; rfl⟩ ?_
  rintro m ρ1 ⟨A, B, eL, rfl, rfl⟩
  refine t_notN <| .of <| d_nm 2 rfl ?_
  cases B with
  | nil =>
    rw [List.append_nil] at eL
    subst eL
    exact two_f <| s_freeze 1 rfl <| s_ret <| d_nm 1 rfl q
  | cons x B =>
    obtain ⟨n, c⟩ := x
    subst eL
    have hc := hch.at (n, c) (by simp)
    dsimp only at hc
    obtain ⟨m, hm⟩ := cAt_page hc
    rw [List.length_append, List.length_cons] at hl
    refine two_t <| s_when <| t_not <| t_v <| .of <| d_ownA OM (hr.mono (by decide)) (by rfl) <| la_cons <| .of <| d_nm 0 rfl <| la_cons <| d_nmO 1 rfl <| la_cons <| .of <| d_nm 2 rfl <| la_nil ⟨ps, A, n, c, B, rfl, ok, hch, rfl, two_f ?_⟩
    refine s_append 1 rfl <| d_nm 2 rfl ⟨by rw [List.length_map]; omega, ?_⟩
    refine s_set 2 (d_ix <| d_ix <| d_ix <| d_nm 0 rfl <| d_nm 2 rfl ⟨pgD (m, some c), atI_nat (by rw [List.getElem?_map, hm]; rfl), d_int ⟨_, atI_1, d_int ⟨_, atI_2, ?_⟩⟩⟩) nd
    refine s_nil ⟨B.length, Nat.lt_succ_self _, A ++ [(n, c)], B, by simp, rfl, ?_⟩
    rw [fol_next hch]
    show _ = [Sl.fr (pgsD ps), .ow (fsD (A ++ [(n, c)])), .fr (nextD B)]
    unfold fsD
    rw [List.map_append]; rfl
end
end E5
set_option Elab.async false
set_option linter.all false
set_option maxRecDepth 100000
set_option maxHeartbeats 4000000
/-! the program's places and worths, by data -/
namespace E5
open PySem PySem.Spec PyProof.Rows L2 Y Z
open Evl (Ex st_of sq_of ex_l ex_t fresh_back sz_of sz_lt)
/-- pages with a chain -/
structure ChA (ps : List Pg) (L : List (Nat × Cn)) : Prop where
  ok : ∀ p ∈ ps, PgOk p
  few : ps.length ≤ 100
  ch : ChL ps L
/-- the page of a key -/
structure PlA (ps : List Pg) (A : List (Nat × Cn)) (p : Nat) (c : Cn) (B : List (Nat × Cn)) (key : Str) : Prop where
  ch : ChA ps (A ++ (p, c) :: B)
  a : ∀ x ∈ A, ltB key x.2.low = false
  k : ltB key c.low = false
  b : ∀ x ∈ B, ltB key x.2.low = true
theorem ChA.pl {ps : List Pg} {L : List (Nat × Cn)} (h : ChA ps L) (key : Str) : ∃ A p c B, L = A ++ (p, c) :: B ∧ PlA ps A p c B key := by
  obtain ⟨A, p, c, B, e, h1, h2, h3⟩ := split_place h.ch key
  subst e
  exact ⟨A, p, c, B, rfl, h, h1, h2, h3⟩
theorem ents_len {L : List (Nat × Cn)} : (∀ x ∈ L, CnOk x.2) → (entsL L).length ≤ 3 * L.length := by
  induction L with
  | nil => exact fun _ => Nat.le_refl _
  | cons x r ih =>
    intro h
    rw [entsL_cons, List.length_append, List.length_cons]
    have h1 := (h x List.mem_cons_self).few
    have h2 := ih fun y hy => h y (List.mem_cons_of_mem _ hy)
    omega
def wOf (es : List (Str × Int)) (key : Str) : Int := match (valD (kvE es) (.inr key)).getD (.int 0) with
  | .int x => x
  | _ => 0
theorem val_w (es : List (Str × Int)) (key : Str) : (valD (kvE es) (.inr key)).getD (.int 0) = .int (wOf es key) := by
  obtain ⟨x, hx⟩ := val_int es (.inr key)
  unfold wOf
  rw [hx]
section
variable {P : Program} {w : World} {K : PySem.W.Frag} {mg : Str → Option Value} {base : Heap}
def dArCh : List Dt → (Dt → Prop) → Prop := fun ds Q => ∃ (ps : List Pg) (L : List (Nat × Cn)), ds = [pgsD ps] ∧ ChA ps L ∧ Q (.bl true)
theorem ownD_arch (D : Def K mg "are_chained" sp_are_chained) (OP : OwnD P w K mg base "are_pages" ["thing"] 6 dPages) (OC : OwnD P w K mg base "chain_of" ["pages"] 2 dChainOf) : OwnD P w K mg base "are_chained" ["pages"] 7 dArCh := by
  refine ownD D cp_are_chained (fun ds Q Q' k ⟨a, b, h1, h2, q⟩ => ⟨a, b, h1, h2, k _ q⟩) (fun ds Q ⟨a, b, h, _⟩ => by subst h; rfl) (fun _ _ _ _ _ _ us hl => match us, hl with | [_], _ => rfl) ?_
  rintro X ds Q ⟨f, cdv, A0, outer, s0, H, E, rfl⟩ hr ⟨ps, L, rfl, h, q⟩
  refine s_when <| t_not <| t_v <| .of <| d_own OP hr (by rfl) <| l_cons <| d_nm 0 rfl <| l_nil ⟨ps, rfl, h.ok, h.ch.psne, Nat.le_trans h.few (by decide), two_f ?_⟩
  exact s_ret <| d_notN <| .of <| d_own OC (hr.mono (by decide)) (by rfl) <| l_cons <| d_nm 0 rfl <| l_nil ⟨ps, L, rfl, h.ok, h.few, h.ch, q⟩
def dChk : List Dt → (Dt → Prop) → Prop := fun ds Q => ∃ (ps : List Pg) (L : List (Nat × Cn)), ds = [pgsD ps] ∧ ChA ps L ∧ Q .non
theorem ownD_chk (D : Def K mg "check_chained" sp_check_chained) (OP : OwnD P w K mg base "are_pages" ["thing"] 6 dPages) (OC : OwnD P w K mg base "chain_of" ["pages"] 2 dChainOf) : OwnD P w K mg base "check_chained" ["pages"] 7 dChk := by
  refine ownD D cp_check_chained (fun ds Q Q' k ⟨a, b, h1, h2, q⟩ => ⟨a, b, h1, h2, k _ q⟩) (fun ds Q ⟨a, b, h, _⟩ => by subst h; rfl) (fun _ _ _ _ _ _ us hl => match us, hl with | [_], _ => rfl) ?_
  rintro X ds Q ⟨f, cdv, A0, outer, s0, H, E, rfl⟩ hr ⟨ps, L, rfl, h, q⟩
  refine s_when <| t_or <| t_not <| t_v <| .of <| d_own OP hr (by rfl) <| l_cons <| d_nm 0 rfl <| l_nil ⟨ps, rfl, h.ok, h.ch.psne, Nat.le_trans h.few (by decide), two_f <| t_isN <| .of <| d_own OC (hr.mono (by decide)) (by rfl) <| l_cons <| d_nm 0 rfl <| l_nil ⟨ps, L, rfl, h.ok, h.few, h.ch, two_f ?_⟩⟩
  exact s_nil q
def dCkKey : List Dt → (Dt → Prop) → Prop := fun ds Q => ∃ s : Str, ds = [.str s] ∧ KeyS s ∧ Q .non
theorem ownD_ckkey (D : Def K mg "check_key" sp_check_key) (OK : OwnD P w K mg base "is_key" ["thing"] 1 dKey) : OwnD P w K mg base "check_key" ["key"] 2 dCkKey := by
  refine ownD D cp_check_key (fun ds Q Q' k ⟨a, h1, h2, q⟩ => ⟨a, h1, h2, k _ q⟩) (fun ds Q ⟨a, h, _⟩ => by subst h; rfl) (fun _ _ _ _ _ _ us hl => match us, hl with | [_], _ => rfl) ?_
  rintro X ds Q ⟨f, cdv, A0, outer, s0, H, E, rfl⟩ hr ⟨s, rfl, h, q⟩
  refine s_when <| t_not <| t_v <| .of <| d_own OK hr (by rfl) <| l_cons <| d_nm 0 rfl <| l_nil ⟨s, rfl, h, two_f ?_⟩
  exact s_nil q
def dCkWo : List Dt → (Dt → Prop) → Prop := fun ds Q => ∃ n : Int, ds = [.int n] ∧ Q .non
def dPlIn : List Dt → (Dt → Prop) → Prop := fun ds Q => ∃ (ps : List Pg) (A : List (Nat × Cn)) (p : Nat) (c : Cn) (B : List (Nat × Cn)) (key : Str), ds = [pgsD ps, .str key] ∧ PlA ps A p c B key ∧ Q (natD p)
theorem filt_place {ps : List Pg} {A B : List (Nat × Cn)} {p : Nat} {c : Cn} {key : Str} (h : PlA ps A p c B key) : (A ++ (p, c) :: B).filter (fun x => !ltB key x.2.low) = A ++ [(p, c)] := by
  rw [List.filter_append, List.filter_cons_of_pos (by simp [h.k]), List.filter_eq_self.mpr fun x hx => by simp [h.a x hx], List.filter_eq_nil_iff.mpr fun x hx => by simp [h.b x hx]]
theorem ownD_plin (D : Def K mg "place_in" sp_place_in) (OC : OwnD P w K mg base "chain_of" ["pages"] 2 dChainOf) : OwnD P w K mg base "place_in" ["pages", "key"] 3 dPlIn := by
  refine ownD D cp_place_in (fun ds Q Q' k ⟨a, b, c, d, e, f, h1, h2, q⟩ => ⟨a, b, c, d, e, f, h1, h2, k _ q⟩) (fun ds Q ⟨a, b, c, d, e, f, h, _⟩ => by subst h; rfl) (fun _ _ _ _ _ _ us hl => match us, hl with | [_, _], _ => rfl) ?_
  rintro X ds Q ⟨f, cdv, A0, outer, s0, H, E, rfl⟩ hr ⟨ps, A, p, c, B, key, rfl, h, q⟩
  have nd := cp_place_in.nd
  have hlen := h.ch.ch.len
  have few := h.ch.few
  refine s_ret <| d_ix <| .ofN <| n_lct (own := [("n", 2)]) rfl nd (blkOk_by (N := np_place_in) (sc := defScope sp_place_in) (by decide +kernel)) (gb_nm 2 (fun _ _ _ _ _ => pg_name (i := 2) nd rfl (Or.inl rfl))) (by simp) (i_lst <| d_own OC (hr.mono (by decide)) (by rfl) <| l_cons <| d_nm 0 rfl <| l_nil ⟨ps, _, rfl, h.ch.ok, h.ch.few, h.ch.ch, ?_⟩)
  dsimp only [fsD, lstQ]
  generalize hL : A ++ (p, c) :: B = L at *
  have hch : ChL ps L := by rw [← hL]; exact h.ch.ch
  refine ⟨by rw [List.length_map]; omega, fun j acc => acc = ((L.take j).filter (fun x => !ltB key x.2.low)).map (fun x => natD x.1), rfl, ?_, ?_⟩
  · rintro j d acc hd rfl
    rw [List.getElem?_map] at hd
    obtain ⟨⟨n, e⟩, hn, rfl⟩ := Option.map_eq_some_iff.mp hd
    have hc := hch.at _ (List.mem_of_getElem? hn)
    dsimp only at hc
    obtain ⟨m, hm⟩ := cAt_page hc
    have et : L.take (j + 1) = L.take j ++ [(n, e)] := by rw [List.take_add_one, hn]; rfl
    refine ⟨_, rfl, fun s1 H' C cl2 fp => t_leS <| .of <| d_ix <| d_ix <| d_ix <| d_nm 0 rfl <| d_nm 2 rfl ⟨pgD (m, some e), atI_nat (by rw [List.getElem?_map, hm]; rfl), d_int ⟨_, atI_1, d_int ⟨_, atI_0, .of <| d_nm 1 rfl ?_⟩⟩⟩⟩
    refine (show _ ∧ _ from ⟨fun h3 => fun s2 H2 C2 cl3 fp2 => d_nm 2 rfl ?_, fun h3 => ?_⟩)
    · have h3 : (!ltB key e.low) = true := h3
      show _ = ((L.take (j + 1)).filter (fun x => !ltB key x.2.low)).map (fun x => natD x.1)
      rw [et, List.filter_append, List.filter_cons_of_pos (p := fun x : Nat × Cn => !ltB key x.2.low) h3, List.map_append]; rfl
    · have h3 : (!ltB key e.low) = false := h3
      show _ = ((L.take (j + 1)).filter (fun x => !ltB key x.2.low)).map (fun x => natD x.1)
      rw [et, List.filter_append, List.filter_cons_of_neg (p := fun x : Nat × Cn => !ltB key x.2.low) (by rw [h3]; exact Bool.false_ne_true), List.filter_nil, List.append_nil]
  rintro acc _ rfl
  rw [List.length_map, List.take_length, ← hL, filt_place h]
  exact d_neg <| d_int ⟨natD p, by rw [List.map_append]; exact L2.atI_last _ _, q⟩
def dPlOf : List Dt → (Dt → Prop) → Prop := fun ds Q => ∃ (ps : List Pg) (A : List (Nat × Cn)) (p : Nat) (c : Cn) (B : List (Nat × Cn)) (key : Str), ds = [pgsD ps, .str key] ∧ PlA ps A p c B key ∧ KeyS key ∧ Q (natD p)
theorem ownD_plof (D : Def K mg "place_of" sp_place_of) (OC : OwnD P w K mg base "check_chained" ["pages"] 7 dChk) (OK : OwnD P w K mg base "check_key" ["key"] 2 dCkKey) (OP : OwnD P w K mg base "place_in" ["pages", "key"] 3 dPlIn) : OwnD P w K mg base "place_of" ["pages", "key"] 8 dPlOf := by
  refine ownD D cp_place_of (fun ds Q Q' k ⟨a, b, c, d, e, f, h1, h2, h3, q⟩ => ⟨a, b, c, d, e, f, h1, h2, h3, k _ q⟩) (fun ds Q ⟨a, b, c, d, e, f, h, _⟩ => by subst h; rfl) (fun _ _ _ _ _ _ us hl => match us, hl with | [_, _], _ => rfl) ?_
  rintro X ds Q ⟨f, cdv, A0, outer, s0, H, E, rfl⟩ hr ⟨ps, A, p, c, B, key, rfl, h, hk, q⟩
  refine s_expr <| .of <| d_own OC hr (by rfl) <| l_cons <| d_nm 0 rfl <| l_nil ⟨ps, _, rfl, h.ch, ?_⟩
  refine s_expr <| .of <| d_own OK (hr.mono (by decide)) (by rfl) <| l_cons <| d_nm 1 rfl <| l_nil ⟨key, rfl, hk, ?_⟩
  exact s_ret <| d_own OP (hr.mono (by decide)) (by rfl) <| l_cons <| d_nm 0 rfl <| l_cons <| d_nm 1 rfl <| l_nil ⟨ps, A, p, c, B, key, rfl, h, q⟩
abbrev esD (L : List (Nat × Cn)) : Dt := .tz ((entsL L).map entD)
def dWsIn : List Dt → (Dt → Prop) → Prop := fun ds Q => ∃ (ps : List Pg) (L : List (Nat × Cn)), ds = [pgsD ps] ∧ ChA ps L ∧ Q (esD L)
theorem ownD_wsin (D : Def K mg "worths_in" sp_worths_in) (mt : mg "tuple" = none) (OC : OwnD P w K mg base "chain_of" ["pages"] 2 dChainOf) : OwnD P w K mg base "worths_in" ["pages"] 3 dWsIn := by
  refine ownD D cp_worths_in (fun ds Q Q' k ⟨a, b, h1, h2, q⟩ => ⟨a, b, h1, h2, k _ q⟩) (fun ds Q ⟨a, b, h, _⟩ => by subst h; rfl) (fun _ _ _ _ _ _ us hl => match us, hl with | [_], _ => rfl) ?_
  rintro X ds Q ⟨f, cdv, A0, outer, s0, H, E, rfl⟩ hr ⟨ps, L, rfl, h, q⟩
  have nd := cp_worths_in.nd
  have okL := h.ch.ok h.ok
  have hlen := h.ch.len
  have few := h.few
  refine s_ret <| d_tupleZ (by rfl) mt <| .ofN <| n_lc2 (own := [("n", 1), ("entry", 2)]) 1 2 rfl nd (blkOk_by (N := np_worths_in) (sc := defScope sp_worths_in) (by decide +kernel)) (fun _ _ _ _ _ => pg_name (i := 1) nd rfl (Or.inl rfl)) (fun _ _ _ _ _ => pg_name (i := 2) nd rfl (Or.inl rfl)) (by simp) (by simp) (fun _ _ => rfl) (i_lst <| d_own OC (hr.mono (by decide)) (by rfl) <| l_cons <| d_nm 0 rfl <| l_nil ⟨ps, L, rfl, h.ok, h.few, h.ch, ?_⟩)
  dsimp only [fsD, lstQ]
  refine ⟨fun n acc => acc = (entsL (L.take n)).map entD, rfl, ?_, ?_⟩
  · rintro n d acc hd rfl
    rw [List.getElem?_map] at hd
    obtain ⟨⟨m, c⟩, hn, rfl⟩ := Option.map_eq_some_iff.mp hd
    have hc := h.ch.at _ (List.mem_of_getElem? hn)
    dsimp only at hc
    obtain ⟨z, hz⟩ := cAt_page hc
    have et : L.take (n + 1) = L.take n ++ [(m, c)] := by rw [List.take_add_one, hn]; rfl
    have hnl := (List.getElem?_eq_some_iff.mp hn).1
    have bound : (entsL (L.take n)).length ≤ 300 := by
      have := ents_len (L := L.take n) fun x hx => okL x (List.mem_of_mem_take hx)
      rw [List.length_take] at this
      omega
    have okc := (okL (m, c) (List.mem_of_getElem? hn)).few
    dsimp only at okc
    refine fun s1 H' C cl fp => d_dz <| d_ix <| d_ix <| d_ix <| d_nm 0 rfl <| d_nm 1 rfl ⟨pgD (z, some c), atI_nat (by rw [List.getElem?_map, hz]; rfl), d_int ⟨_, atI_1, d_int ⟨_, atI_1, _, rfl, _, rfl, ?_⟩⟩⟩
    refine ⟨fun k acc => acc = (entsL (L.take n) ++ c.ents.take k).map entD, by show _ = (entsL (L.take n) ++ c.ents.take 0).map entD; rw [List.take_zero, List.append_nil], ?_, ?_⟩
    · rintro k e acc he rfl
      rw [List.getElem?_map] at he
      obtain ⟨pr, hpr, rfl⟩ := Option.map_eq_some_iff.mp he
      have ek : c.ents.take (k + 1) = c.ents.take k ++ [pr] := by rw [List.take_add_one, hpr]; rfl
      refine ⟨by rw [List.length_map, List.length_append, List.length_take]; omega, fun s2 H2 C2 cl2 fp2 => d_nm 2 rfl ?_⟩
      show _ = (entsL (L.take n) ++ c.ents.take (k + 1)).map entD
      rw [ek, ← List.append_assoc, List.map_append (l₁ := entsL (L.take n) ++ c.ents.take k)]; rfl
    · rintro acc rfl
      rw [List.length_map, List.take_length]
      show _ = (entsL (L.take (n + 1))).map entD
      rw [et, entsL_app, entsL_cons]
      show _ = (entsL (L.take n) ++ (c.ents ++ [])).map entD
      rw [List.append_nil]
  · rintro acc rfl
    rw [List.length_map, List.take_length]
    exact ⟨_, rfl, q⟩
def dWsOn : List Dt → (Dt → Prop) → Prop := dWsIn
theorem ownD_wson (D : Def K mg "worths_on" sp_worths_on) (OC : OwnD P w K mg base "check_chained" ["pages"] 7 dChk) (OW : OwnD P w K mg base "worths_in" ["pages"] 3 dWsIn) : OwnD P w K mg base "worths_on" ["pages"] 8 dWsIn := by
  refine ownD D cp_worths_on (fun ds Q Q' k ⟨a, b, h1, h2, q⟩ => ⟨a, b, h1, h2, k _ q⟩) (fun ds Q ⟨a, b, h, _⟩ => by subst h; rfl) (fun _ _ _ _ _ _ us hl => match us, hl with | [_], _ => rfl) ?_
  rintro X ds Q ⟨f, cdv, A0, outer, s0, H, E, rfl⟩ hr ⟨ps, L, rfl, h, q⟩
  refine s_expr <| .of <| d_own OC hr (by rfl) <| l_cons <| d_nm 0 rfl <| l_nil ⟨ps, _, rfl, h, ?_⟩
  exact s_ret <| d_own OW (hr.mono (by decide)) (by rfl) <| l_cons <| d_nm 0 rfl <| l_nil ⟨ps, L, rfl, h, q⟩
def dWoIn : List Dt → (Dt → Prop) → Prop := fun ds Q => ∃ (ps : List Pg) (L : List (Nat × Cn)) (key : Str), ds = [pgsD ps, .str key] ∧ ChA ps L ∧ Q (.int (wOf (entsL L) key))
theorem kvE_nodup {es : List (Str × Int)} (h : (es.map (·.1)).Nodup) : ((kvE es).map (·.1)).Nodup := by
  have e : (kvE es).map (·.1) = (es.map (·.1)).map (fun s => (.inr s : Key)) := by unfold kvE; rw [List.map_map, List.map_map]; rfl
  rw [e]
  exact List.Pairwise.map _ (fun a b h => by intro z; exact h (Sum.inr.inj z)) h
theorem ownD_woin (D : Def K mg "worth_in" sp_worth_in) (md : mg "dict" = none) (OW : OwnD P w K mg base "worths_in" ["pages"] 3 dWsIn) : OwnD P w K mg base "worth_in" ["pages", "key"] 4 dWoIn := by
  refine ownD D cp_worth_in (fun ds Q Q' k ⟨a, b, c, h1, h2, q⟩ => ⟨a, b, c, h1, h2, k _ q⟩) (fun ds Q ⟨a, b, c, h, _⟩ => by subst h; rfl) (fun _ _ _ _ _ _ us hl => match us, hl with | [_, _], _ => rfl) ?_
  rintro X ds Q ⟨f, cdv, A0, outer, s0, H, E, rfl⟩ hr ⟨ps, L, key, rfl, h, q⟩
  have h65 := hu65_of hr
  refine s_ret <| d_get2 (Nat.lt_of_le_of_lt (Nat.add_le_add_left (by decide) _) h65) (.of <| .ofN <| n_dictZ rfl (by rfl) md <| d_own OW hr (by rfl) <| l_cons <| d_nm 0 rfl <| l_nil ⟨ps, L, rfl, h, kvE (entsL L), by unfold kvE; rw [List.map_map]; rfl, kvE_nodup (asc_nodup (h.ch.asc h.ok)), _, rfl, d_nm 1 rfl ⟨.inr key, rfl, d_int ?_⟩⟩)
  rw [val_w]
  exact ⟨rfl, q⟩
def dWoOf : List Dt → (Dt → Prop) → Prop := fun ds Q => ∃ (ps : List Pg) (L : List (Nat × Cn)) (key : Str), ds = [pgsD ps, .str key] ∧ ChA ps L ∧ KeyS key ∧ Q (.int (wOf (entsL L) key))
theorem ownD_woof (D : Def K mg "worth_of" sp_worth_of) (OC : OwnD P w K mg base "check_chained" ["pages"] 7 dChk) (OK : OwnD P w K mg base "check_key" ["key"] 2 dCkKey) (OW : OwnD P w K mg base "worth_in" ["pages", "key"] 4 dWoIn) : OwnD P w K mg base "worth_of" ["pages", "key"] 8 dWoOf := by
  refine ownD D cp_worth_of (fun ds Q Q' k ⟨a, b, c, h1, h2, h3, q⟩ => ⟨a, b, c, h1, h2, h3, k _ q⟩) (fun ds Q ⟨a, b, c, h, _⟩ => by subst h; rfl) (fun _ _ _ _ _ _ us hl => match us, hl with | [_, _], _ => rfl) ?_
  rintro X ds Q ⟨f, cdv, A0, outer, s0, H, E, rfl⟩ hr ⟨ps, L, key, rfl, h, hk, q⟩
  refine s_expr <| .of <| d_own OC hr (by rfl) <| l_cons <| d_nm 0 rfl <| l_nil ⟨ps, _, rfl, h, ?_⟩
  refine s_expr <| .of <| d_own OK (hr.mono (by decide)) (by rfl) <| l_cons <| d_nm 1 rfl <| l_nil ⟨key, rfl, hk, ?_⟩
  exact s_ret <| d_own OW (hr.mono (by decide)) (by rfl) <| l_cons <| d_nm 0 rfl <| l_cons <| d_nm 1 rfl <| l_nil ⟨ps, L, key, rfl, h, q⟩
end
end E5
set_option Elab.async false
set_option linter.all false
set_option maxRecDepth 100000
set_option maxHeartbeats 4000000
/-! sorted(d.items()) of texts and numbers; d.pop(k); n += 1; by data -/
namespace Z
open PySem PySem.Spec PyProof.Rows L2 Evl Y
theorem sorted_outTI {h : Heap} {vs : List Value} {k : Value → Str × Int} {arr : Array Keyed} (hp : ∀ v ∈ vs, IsTI h v (k v)) (pm : arr.Perm (pairsOf vs)) (hs : SortedToK (PyProof.Rows.G.tupKindC h shTI) arr (pairsOf vs).size) :
    (arr.toList.map (·.2)).Pairwise (fun v u => ltB (k u).1 (k v).1 = false) ∧ (arr.toList.map (·.2)).Perm vs := by
  have hl2 : arr.toList.Perm (vs.zip vs) := by rw [← pairsOf_toList]; exact Array.perm_iff_toList_perm.mp pm
  refine ⟨?_, by have := hl2.map (·.2); rwa [List.map_snd_zip (Nat.le_refl _)] at this⟩
  rw [List.pairwise_map, List.pairwise_iff_getElem]
  intro i j hi hj hij
  have hi' : i < arr.size := by simpa using hi
  have hj' : j < arr.size := by simpa using hj
  have h1 := hs i j (Nat.le_of_lt hij) (by rw [← pm.size_eq]; exact hj')
  obtain ⟨a1, a2⟩ := mem_zip_self (hl2.mem_iff.mp (show arr.toList[i] ∈ arr.toList from List.getElem_mem _))
  obtain ⟨b1, b2⟩ := mem_zip_self (hl2.mem_iff.mp (show arr.toList[j] ∈ arr.toList from List.getElem_mem _))
  have k1 : KK (PyProof.Rows.G.tupKindC h shTI) arr i = [Sum.inr (k arr.toList[i].2).1.cps.toList, Sum.inl (k arr.toList[i].2).2] := by
    unfold KK
    rw [getElem?_pos arr i hi']
    have := (hp _ a2).key
    rw [Array.getElem_toList] at this a1 ⊢
    show (PyProof.Rows.G.tupKeyC h shTI arr[i].1).getD [] = _
    rw [this, ← a1]; rfl
  have k2 : KK (PyProof.Rows.G.tupKindC h shTI) arr j = [Sum.inr (k arr.toList[j].2).1.cps.toList, Sum.inl (k arr.toList[j].2).2] := by
    unfold KK
    rw [getElem?_pos arr j hj']
    have := (hp _ b2).key
    rw [Array.getElem_toList] at this b1 ⊢
    show (PyProof.Rows.G.tupKeyC h shTI arr[j].1).getD [] = _
    rw [this, ← b1]; rfl
  rw [k1, k2] at h1
  exact (lex_false (O := itemOrd).mp (show lexLt itemOrd _ _ = false from h1)).1
theorem IsTI.uniq {h : Heap} {v : Value} {e e' : Str × Int} (x : IsTI h v e) (y : IsTI h v e') : e = e' := by
  obtain ⟨a, o, t, u, n, rfl, ho, hc, hd⟩ := x
  obtain ⟨a', o', t', u', n', ea, ho', hc', hd'⟩ := y
  cases ea
  rw [ho] at ho'
  cases ho'
  rw [hd] at hd'
  have q := (Data.seq.inj hd').1
  have q2 := congrArg Array.toList q
  simp only [List.cons.injEq, Value.str.injEq, Value.int.injEq, and_true] at q2
  exact Prod.ext q2.1.1 q2.2.1
open Classical in
noncomputable def keyH (h : Heap) (v : Value) : Str × Int := if x : ∃ e, IsTI h v e then Classical.choose x else ("", 0)
theorem keyH_eq {h : Heap} {v : Value} {e : Str × Int} (x : IsTI h v e) : keyH h v = e := by
  have y : ∃ e, IsTI h v e := ⟨e, x⟩
  unfold keyH
  rw [dif_pos y]
  exact (Classical.choose_spec y).uniq x
section
variable {X : Cx}
theorem mt_itemsK : MtR X "dict.items" (fun x xs H Q => ∃ (a : Addr) (kvs : List (Key × V)), x = .ref a ∧ xs = [] ∧ H a = some (.dK kvs) ∧ ∀ p, H p = none → Q (.ref p) (upd H p (DX.itemsO p a))) := by
  intro pins s σ H x xs v us Q I rx rxs h
  obtain ⟨a, kvs, rfl, rfl, ha, q⟩ := h
  cases rx
  cases rxs
  obtain ⟨z, hd, vs, rel, o, es, ep, ho, hx, hdat, _⟩ := dk_of I.hok ha
  refine DT.callItems (es := es) (ep := ep) hd ⟨o, ho, hx, hdat⟩ ?_
  have hf : H s.heap.objs.size = none := I.hok.fresh (Nat.le_refl _)
  exact ⟨.ref s.heap.objs.size, upd H s.heap.objs.size (DX.itemsO s.heap.objs.size a), I.laid (t' := s.toks) (fun b u e => Heap.get?_push_of_some _ e) (Nat.le_refl _) (DX.itemsO_ok (Heap.get?_push_size _ rfl)), rfl, q _ hf⟩
abbrev kvV (ks : List (Str × Int)) : List (Key × V) := ks.map fun e => ((.inr e.1 : Key), V.int e.2)
def rSortItTI : List V → Hp → VK → Prop := fun vs H Q => ∃ (p a : Addr) (ks : List (Str × Int)), vs = [.ref p] ∧ H p = some (DX.itemsO p a) ∧ H a = some (.dK (kvV ks)) ∧
  ∀ (H' : Hp) (l : Addr) (ps : List (Addr × Str × Int)), Ex H H' → (ps.map (·.2)).Perm ks → (ps.map (·.2)).Pairwise (fun v u => ltB u.1 v.1 = false) → H l = none → H' l = some (.lst (ps.map fun z => V.ref z.1)) → (∀ z ∈ ps, H' z.1 = some (.tup [.str z.2.1, .int z.2.2])) → Q (.ref l) H'
theorem pairs_at {knd : KeyKind prog w Key} : ∀ {es : List DictEntry} {kvs : List (Key × Value)} {j : Nat} {en : DictEntry}, Pairs knd es kvs → es[j]? = some en → ∃ kv, kvs[j]? = some kv ∧ knd.is kv.1 en.key = true ∧ en.val = kv.2
  | _, _, j, en, .nil, h => by simp at h
  | _, _, 0, en, .cons h1 h2 _, h => by
    rw [List.getElem?_cons_zero] at h
    cases h
    exact ⟨_, rfl, h1, h2⟩
  | _, _, j + 1, en, .cons _ _ t, h => by
    rw [List.getElem?_cons_succ] at h
    obtain ⟨kv, a, b, c⟩ := pairs_at t h
    exact ⟨kv, by rw [List.getElem?_cons_succ]; exact a, b, c⟩
theorem cr_sortItTI (hc : X.calm = true) : CallR X (.builtin "sorted") (rSortItTI) := by
  intro pins s σ H xs us Q I r h
  obtain ⟨p, a, ks, rfl, hp, ha, q⟩ := h
  obtain rfl := Vals.ref1 r
  have view : s.heap.IsItemsView p a := (show ObjOk X.prog X.w H s.heap p (DX.itemsO p a) from I.hok p _ hp).1
  obtain ⟨z, hd, vs, rel, o, es, ep, ho, hx, hdat, hkk, hprs, hnd⟩ := dk_of I.hok ha
  have l1 : (kvV ks).length = vs.length := KV.length rel
  rw [List.length_map] at l1 z
  have l2 : es.size = vs.length := by have := hprs.length; rwa [Array.length_toList] at this
  have hh : X.A.handled = none := I.ok.hd hc
  have ent : ∀ (j : Nat) (en : DictEntry), es[j]? = some en → ∃ (e : Str × Int) (t u : Tok), ks[j]? = some e ∧ en.key = .str e.1 t ∧ en.val = .int e.2 u := fun j en hj => by
    obtain ⟨kv, h1, h2, h3⟩ := pairs_at hprs (by rw [Array.getElem?_toList]; exact hj)
    obtain ⟨y, hy, hk, hv⟩ := DX.pget rel h1
    rw [List.getElem?_map] at hy
    obtain ⟨e, he, rfl⟩ := Option.map_eq_some_iff.mp hy
    obtain ⟨u, hu⟩ := (show ∃ u, kv.2 = Value.int e.2 u from hv)
    have hk2 : (mixKind X.prog X.w).is (.inr e.1) en.key = true := by rw [show (Sum.inr e.1 : Key) = kv.1 from hk]; exact h2
    have hk3 : Value.isStrOf e.1 en.key = true := hk2
    cases hke : en.key with
    | str i t =>
      rw [hke] at hk3
      have : i = e.1 := eq_of_beq (show (i == e.1) = true from hk3)
      exact ⟨e, t, u, he, by rw [this], h3.trans hu⟩
    | _ => rw [hke] at hk3; cases hk3
  refine DT.sortedI (es := es) (ep := ep) hh view ⟨o, ho, hx, hdat⟩ (by rw [l2, ← l1]; exact z) fun h' tk as hk hlt hl hG => ?_
  have lak : as.length = ks.length := by omega
  have nd : as.Nodup := List.Pairwise.imp (fun h => Nat.ne_of_lt h) hG.rise
  have pr : ∀ (j : Nat) (b : Addr), as[j]? = some b → ∃ (e : Str × Int) (t u : Tok), ks[j]? = some e ∧ h'.get? b = some { cls := .type "tuple", data := .seq #[.str e.1 t, .int e.2 u] } := fun j b hj => by
    obtain ⟨en, he, hg⟩ := hG.pairs j b hj
    obtain ⟨e, t, u, h1, h2, h3⟩ := ent j en he
    exact ⟨e, t, u, h1, by rw [hg, h2, h3]⟩
  have hob : (h'.push { cls := .type "list", data := .seq (as.map Value.ref).toArray }).get? h'.objs.size = some (seqObj "list" (as.map Value.ref).toArray 0) := Heap.get?_push_size _ rfl
  have kb : ∀ b o, s.heap.get? b = some o → (h'.push { cls := .type "list", data := .seq (as.map Value.ref).toArray }).get? b = some o := fun b o e => Heap.get?_push_of_some _ (hk b o e)
  have ne0 : ∀ b o, h'.get? b = some o → b ≠ h'.objs.size := fun b o e => Nat.ne_of_lt (Heap.lt_size e)
  generalize hh2 : h'.push { cls := .type "list", data := .seq (as.map Value.ref).toArray } = h2 at hob kb ⊢
  have ka : ∀ b o, h'.get? b = some o → h2.get? b = some o := fun b o e => by rw [← hh2]; exact Heap.get?_push_of_some _ e
  have isj : ∀ (j : Nat) (b : Addr) (e : Str × Int), as[j]? = some b → ks[j]? = some e → IsTI h2 (.ref b) e := fun j b e hj he => by
    obtain ⟨e', t, u, h1, h3⟩ := pr j b hj
    rw [he] at h1
    cases h1
    exact ⟨b, _, t, u, 0, rfl, ka _ _ h3, rfl, rfl⟩
  have allTI : ∀ v ∈ as.map Value.ref, IsTI h2 v (keyH h2 v) := fun v hv => by
    obtain ⟨b, hb, rfl⟩ := List.mem_map.mp hv
    obtain ⟨j, hj⟩ := List.mem_iff_getElem?.mp hb
    obtain ⟨e, t, u, h1, _⟩ := pr j b hj
    have := isj j b e hj h1
    rw [keyH_eq this]; exact this
  obtain ⟨fs, ht⟩ := IsTI.tups allTI
  have hL : (as.map Value.ref).length ≤ sizeLine := by rw [List.length_map, lak]; exact z
  refine wpAny_call_entry PyProof.Rows.slot_list_sort ⟨_, hob, rfl⟩ PyProof.Rows.entry_list_sort
    (PyProof.Rows.G.list_sort_tups (s := { s with heap := h2, toks := tk }) hob ht (fun v hv => ⟨_, (allTI v hv).key⟩) hL fun st' pm hs _ => ⟨.none, rfl, ?_⟩) (PyProof.Rows.args_list_sort _)
  obtain ⟨o1, o2⟩ := sorted_outTI allTI pm hs
  obtain ⟨zs, pz, ez⟩ := perm_lift (fun z : Addr × Str × Int => Value.ref z.1) o2 (as.zip ks) (by
    have : (as.zip ks).map (fun z => Value.ref z.1) = ((as.zip ks).map (·.1)).map Value.ref := by rw [List.map_map]; rfl
    rw [this, List.map_fst_zip (by rw [lak]; exact Nat.le_refl _)])
  have idx : ∀ z ∈ zs, ∃ j : Nat, as[j]? = some z.1 ∧ ks[j]? = some z.2 := fun z' hz' => by
    obtain ⟨j, hj⟩ := List.mem_iff_getElem?.mp (pz.mem_iff.mp hz')
    exact ⟨j, List.getElem?_zip_eq_some.mp hj⟩
  have hperm : (zs.map (·.2)).Perm ks := by
    have e := pz.map (·.2)
    have m2 : (as.zip ks).map (·.2) = ks := List.map_snd_zip (by rw [lak]; exact Nat.le_refl _)
    rw [m2] at e
    exact e
  have hsort : (zs.map (·.2)).Pairwise (fun v u => ltB u.1 v.1 = false) := by
    rw [← ez, List.pairwise_map] at o1
    rw [List.pairwise_map]
    refine List.Pairwise.imp_of_mem (fun {x y} hx hy h => ?_) o1
    obtain ⟨j, j1, j2⟩ := idx x hx
    obtain ⟨i, i1, i2⟩ := idx y hy
    rw [keyH_eq (isj j _ _ j1 j2), keyH_eq (isj i _ _ i1 i2)] at h
    exact h
  have e2 : ((arrOf st').map (·.2)) = (zs.map fun z => Value.ref z.1).toArray := by
    apply Array.ext'
    rw [ez]; simp
  rw [e2]
  show EP X pins σ Q (.ref h'.objs.size) { s with heap := sortedHeap h2 h'.objs.size (as.map Value.ref) (zs.map fun z => Value.ref z.1).toArray, toks := tk }
  generalize hout : (zs.map fun z => Value.ref z.1).toArray = out
  have kF : ∀ b o, b ≠ h'.objs.size → h2.get? b = some o → (sortedHeap h2 h'.objs.size (as.map Value.ref) out).get? b = some o := fun b o hb e => (PyProof.Rows.sortedHeap_old hb (Heap.lt_size e)).trans e
  have kS : ∀ b o, s.heap.get? b = some o → (sortedHeap h2 h'.objs.size (as.map Value.ref) out).get? b = some o := fun b o e => kF b o (ne0 _ _ (hk b o e)) (kb b o e)
  obtain ⟨eF, heF⟩ := PyProof.Rows.sortedHeap_at (vs := as.map Value.ref) (out := out) hob
  have I1 : Inv X pins σ H { s with heap := sortedHeap h2 h'.objs.size (as.map Value.ref) out, toks := tk } := I.kept (t' := tk) kS
  have hn0 : H h'.objs.size = none := I.hok.fresh (Nat.le_of_lt hlt)
  have hlen : (zs.map fun z => V.ref z.1).length ≤ sizeLine := by
    have e := hperm.length_eq
    rw [List.length_map] at e
    rw [List.length_map, e]; exact z
  have rv : Vals (zs.map fun z => V.ref z.1) out.toList := by
    rw [← hout]
    exact vals_maps (fun z : Addr × Str × Int => V.ref z.1) (fun z => Value.ref z.1) zs fun _ _ => rfl
  have I2 : Inv X pins σ (upd H h'.objs.size (.lst (zs.map fun z => V.ref z.1))) { s with heap := sortedHeap h2 h'.objs.size (as.map Value.ref) out, toks := tk } :=
    I1.take (h' := sortedHeap h2 h'.objs.size (as.map Value.ref) out) (t' := tk) (fun b ob _ e => e) (I.fpOk (Nat.le_of_lt hlt) hn0) ⟨hlen, out.toList, eF, rv, heF⟩
  obtain ⟨H2, I3, g, qt⟩ := DX.takeT (P := fun b vs => ∃ (j : Nat) (e : Str × Int), as[j]? = some b ∧ ks[j]? = some e ∧ vs = [.str e.1, .int e.2]) I as _ I2 nd fun b hb => by
    obtain ⟨j, hj⟩ := List.mem_iff_getElem?.mp hb
    obtain ⟨e, t, u, he, hg⟩ := pr j b hj
    have hbl : s.heap.objs.size ≤ b := Nat.le_of_lt (hG.above b hb)
    refine ⟨hbl, ?_, [.str e.1, .int e.2], ⟨j, e, hj, he, rfl⟩, fun H3 => ⟨(by rw [sizeLine_eq]; show 2 ≤ 16777216; omega), [Value.str e.1 t, Value.int e.2 u], .cons ⟨t, rfl⟩ (.cons ⟨u, rfl⟩ .nil), ⟨_, kF _ _ (ne0 _ _ hg) (ka _ _ hg), rfl, 0, rfl⟩⟩⟩
    rw [upd_ne (ne0 _ _ hg)]
    exact I.hok.fresh hbl
  have gr : Ex H H2 := fun b o e => g b o (by rw [upd_ne (fun z => by rw [z, hn0] at e; cases e)]; exact e)
  refine ⟨.ref h'.objs.size, H2, I3, rfl, q H2 h'.objs.size zs gr hperm hsort hn0 (g _ _ upd_same) fun z' hz' => ?_⟩
  obtain ⟨i, i1, i2⟩ := idx z' hz'
  obtain ⟨vs', ⟨j, e, j1, j2, ev⟩, hH⟩ := qt z'.1 (List.mem_of_getElem? i1)
  have eij : i = j := (List.getElem?_inj (List.getElem?_eq_some_iff.mp i1).1 nd).mp (i1.trans j1.symm)
  subst eij
  have ee : e = z'.2 := Option.some.inj (j2.symm.trans i2)
  rw [ev, ee] at hH
  exact hH
end
end Z
set_option Elab.async false
set_option linter.all false
set_option maxRecDepth 100000
set_option maxHeartbeats 4000000
/-! sorted(d.items()), d.pop(k), n += m, as rules by data -/
namespace Z
open PySem PySem.Spec PyProof.Rows L2 Evl Y
def dropD (kvs : List (Key × Dt)) (k : Key) : List (Key × Dt) := kvs.filter fun kv => decide (kv.1 ≠ k)
theorem RpK.drop {K : PySem.W.Frag} {B : Hp} (k : Key) : ∀ {ys : List (Key × V)} {kvs : List (Key × Dt)}, RpK K B ys kvs → RpK K B (dropK ys k) (dropD kvs k)
  | _, _, .nil => .nil
  | _, _, .cons (k := k') r t => by
    unfold dropK dropD
    by_cases e : k' = k
    · rw [List.filter_cons_of_neg (by simp [e]), List.filter_cons_of_neg (by simp [e])]
      exact RpK.drop k t
    · rw [List.filter_cons_of_pos (by simp [e]), List.filter_cons_of_pos (by simp [e])]
      exact .cons r (RpK.drop k t)
theorem rpk_ti {K : PySem.W.Frag} {B : Hp} : ∀ {ys : List (Key × V)} {ks : List (Str × Int)}, RpK K B ys (ks.map fun p => ((.inr p.1 : Key), Dt.int p.2)) → ys = kvV ks
  | _, [], h => by cases h; rfl
  | _, p :: ks, h => by
    rw [List.map_cons] at h
    cases h with
    | cons r t =>
      cases r
      rw [rpk_ti t]; rfl
section
variable {X : Cx} {ρ : List Sl} {e a b c o : Expr} {es : List Expr} {Q Q' : Dt → Prop} {σ : L2.St} {d : Dt} {pos p1 p2 p3 q1 q2 px py pz pt apos cpos pos' : Pos} {rest : List Stmt} {E : DEnds} {x : Str}
/-- sorted(d.items()), d one's own, of texts and numbers -/
theorem n_sortItems (i : Nat) {ks : List (Str × Int)} (hc : X.calm = true) (hg : Gl X "sorted") (hm : X.mg "sorted" = none) (hi : ρ[i]? = some (.ow (.dic (ks.map fun p => ((.inr p.1 : Key), Dt.int p.2))))) (q : ∀ ps : List (Str × Int), ps.Perm ks → ps.Pairwise (fun v u => ltB u.1 v.1 = false) → Q (.lst (ps.map pTI)))
    (hN : X.N[i]? = some x := by rfl) (hv : Vis X.env.scope x := by first | exact Or.inl rfl | exact Or.inr (Or.inl rfl) | exact Or.inr (Or.inr rfl)) (hd : (x == ("__debug__" : Str)) = false := by decide) (hcd : (x == ("__classdict__" : Str)) = false := by decide)
    (hbase : attributeBase (.Name x px) "items" X.env (eval (.Name x px) X.env) = eval (.Name x px) X.env := by rfl) (hline : (apos.endLine == cpos.line) = true := by rfl)
    (hst : starEach [.Call (.Attribute (.Name x px) "items" apos) [] [] cpos] X.env = (false, eval (.Call (.Attribute (.Name x px) "items" apos) [] [] cpos) X.env) :: starEach [] X.env := by rfl) : DN X ρ (.Call (.Name "sorted" q1) [.Call (.Attribute (.Name x px) "items" apos) [] [] cpos] [] q2) Q :=
  ⟨fun H0 B σ H En => by
    obtain ⟨p, hσ, hb, h0, ys, hp, rs⟩ := En.ow i _ hi
    refine sem_of (pe_callB (cr_sortItTI hc) hg hm (by decide +kernel) (pa_cons (pe_bm0 PySem.F.plainAttrs_dict PySem.F.slot_dict_items PySem.F.type_dict_items mt_itemsK pe_sem hbase hline) pa_nil hst) (he := hst)) ?_
    refine EV.ev (ev_nm i hσ hN hv hd hcd) H (Ex.refl _) _ fun H1 e1 => ⟨.inr (.inr (.inl ⟨rfl, .inl ⟨ys, e1 _ _ hp⟩⟩)), p, ys, rfl, rfl, e1 _ _ hp, fun v hv0 => ?_⟩
    have ev : Ex H1 (upd H1 v (DX.itemsO v p)) := Ex.new hv0
    have ey := rpk_ti rs
    subst ey
    refine ⟨v, p, ks, rfl, upd_same, ev _ _ (e1 _ _ hp), fun H' l ps g pm so hl0 hl hps => ?_⟩
    have e2 : Ex H H' := (e1.trans ev).trans g
    have sB : Ex B H' := En.ex.trans e2
    have hlH : H l = none := by
      cases h : H l with
      | none => rfl
      | some o => rw [ev _ _ (e1 _ _ h)] at hl0; cases hl0
    have hlB : B l = none := fresh_back En.ex hlH
    refine ⟨wT B H', l, .lst ((ps.map (·.2)).map pTI), (Gr.more En.ex e2).trans (Gr.tups sB), rfl, hlH, ?_, ⟨_, hl, ?_⟩, q _ pm so⟩
    · unfold wT
      rw [hl]; exact hlB
    · rw [List.map_map]
      clear pm so hl
      induction ps with
      | nil => exact .nil
      | cons z zs ih =>
        rw [List.map_cons, List.map_cons]
        refine .cons (.tup (st_of (by unfold wT; rw [hps z List.mem_cons_self])) (.cons (.str _) (.cons (.int _) .nil))) (ih fun y hy => hps y (List.mem_cons_of_mem _ hy))⟩
/-- d.pop(k), d one's own, k there -/
theorem m_dpop (i : Nat) {kvs : List (Key × Dt)} {Q : Dt → List Sl → Prop} (hi : ρ[i]? = some (.ow (.dic kvs))) (h : DE X ρ e fun y => ∃ k d, keyD y = some k ∧ valD kvs k = some d ∧ Q d (ρ.set i (.ow (.dic (dropD kvs k))))) (m : M1 X (.Name x px) "pop" apos e cpos := by exact ⟨rfl, rfl, rfl, rfl⟩)
    (hN : X.N[i]? = some x := by rfl) (hv : Vis X.env.scope x := by first | exact Or.inl rfl | exact Or.inr (Or.inl rfl) | exact Or.inr (Or.inr rfl)) (hd : (x == ("__debug__" : Str)) = false := by decide) (hcd : (x == ("__classdict__" : Str)) = false := by decide) :
    DM X ρ (.Call (.Attribute (.Name x px) "pop" apos) [e] [] cpos) Q :=
  ⟨fun H0 B0 B σ H g En => by
    obtain ⟨p, hσ, hb, h0, ys, hp, rs⟩ := En.ow i _ hi
    refine sem_of (pe_dpop1 pe_sem pe_sem m) ?_
    refine EV.ev (ev_nm i hσ hN hv hd hcd) H (Ex.refl _) _ fun H1 e1 => ⟨p, rfl, .inl ⟨ys, .inl (e1 _ _ hp)⟩, h.go (En.more e1) fun B2 v z H2 g2 E2 r ⟨k, d, hk, hd, q⟩ => ?_⟩
    have hp2 : H2 p = some (.dK ys) := g2.h _ _ (e1 _ _ hp)
    have nb : B2 p = none := g2.o p _ (e1 _ _ hp) rfl hb
    have g3 := (g.trans (Gr.more g.s e1)).trans g2
    rcases (rs.ex g2.b).val (k := k) with ⟨_, h2⟩ | ⟨v', d', h1, h2, ru⟩
    · rw [hd] at h2; cases h2
    · rw [hd] at h2
      cases h2
      exact ⟨ys, k, v', hp2, r.key hk, h1, B2, d, _, g3.mutO nb h0, E2.put (d' := .dic (dropD kvs k)) hi hσ ⟨_, upd_same, (rs.ex g2.b).drop k⟩, ru, q⟩⟩
/-- n += m, both numbers -/
theorem s_augI (i : Nat) {n : Int} (hi : ρ[i]? = some (.fr (.int n))) (h : DE X ρ e fun y => ∃ m, y = .int m ∧ DS X (ρ.set i (.fr (.int (n + m)))) rest E) (hN : X.N.Nodup) (hx0 : X.N[i]? = some x := by rfl) (hx : Loc X.env.scope x := by first | exact Or.inl rfl | exact Or.inr rfl)
    (hf : X.fn x = true ∨ X.env.scope.names.lookup x = some .local := by first | exact .inl rfl | exact .inr rfl) : DS X ρ (.AugAssign (.Name x pos') .Add e pos :: rest) E :=
  ⟨fun H0 B0 B σ H D g En L => semS_of (pss_cons (ps_aug hN hx0 hx pe_sem ip_add hf) pss_sem) (by
    obtain ⟨v, hv, rv⟩ := En.fr i _ hi
    cases rv
    exact ⟨_, hv, h.go En fun B2 w d H2 g2 E2 r ⟨m, ed, q⟩ => by
      subst ed
      cases r
      exact ⟨n, m, rfl, rfl, q.run H0 B0 B2 _ H2 D (g.trans g2) (E2.set (.int _)) L⟩⟩)⟩
end
end Z
set_option Elab.async false
set_option linter.all false
set_option maxRecDepth 100000
set_option maxHeartbeats 4000000
/-! what is one's own, read: a if c else b; sorted pairs; by data -/
namespace Z
open PySem PySem.Spec PyProof.Rows L2 Evl Y
section
variable {X : Cx} {ρ : List Sl} {a b c : Expr} {Q : Dt → Prop} {pos q1 q2 : Pos}
theorem a_if (h : DT X ρ c fun x => (x = true → DA X ρ a Q) ∧ (x = false → DA X ρ b Q)) : DA X ρ (.IfExp c a b pos) Q :=
  ⟨fun H0 B σ H E => sem_of (pe_ifExp pt_sem pe_sem pe_sem) (h.go E fun B2 x H2 g E2 q => by
    cases x with
    | true => exact (q.1 rfl).go E2 fun B3 w d' H3 g3 _ r3 q3 => ⟨B3, d', g.trans g3, r3, q3⟩
    | false => exact (q.2 rfl).go E2 fun B3 w d' H3 g3 _ r3 q3 => ⟨B3, d', g.trans g3, r3, q3⟩)⟩
theorem n_sortTIA (hg : Gl X "sorted") (hm : X.mg "sorted" = none) (h : DA X ρ a fun d => ∃ ps : List (Str × Int), d = .lst (ps.map pTI) ∧ ∀ ps' : List (Str × Int), ps'.Perm ps → ps'.Pairwise (fun v u => ltB u.1 v.1 = false) → Q (.lst (ps'.map pTI))) (hst : starEach [a] X.env = (false, eval a X.env) :: starEach [] X.env := by rfl) : DN X ρ (.Call (.Name "sorted" q1) [a] [] q2) Q :=
  ⟨fun H0 B σ H E => sem_of (pe_callB cr_sortedTI hg hm (by decide +kernel) (pa_cons pe_sem pa_nil hst) (he := hst)) (h.go E fun B2 v d H2 g E2 r ⟨ps, ed, q⟩ => by
    subst ed
    cases r with
    | lst ha hx =>
      rename_i p0 xs
      refine ⟨_, xs, ps, rfl, ha, hx, fun ys ps' p ry hpm hpw hp => ?_⟩
      have g2 := Gr.tups E2.ex
      have hW : RpL X.K (wT B2 H2) ys (ps'.map pTI) := ry.flat wT_t (by
        generalize ps' = zs
        induction zs with
        | nil => rfl
        | cons z zs ih => rw [List.map_cons]; show (imm (pTI z) && immL (zs.map pTI)) = true; rw [ih]; rfl)
      have gg := g.trans g2
      have hbw : wT B2 H2 p = none := fresh_back g2.s hp
      exact ⟨wT B2 H2, p, .lst (ps'.map pTI), ⟨gg.b, gg.h.trans (Ex.new hp), Ex.mut g2.s hbw, gg.o⟩, rfl, fresh_back gg.h hp, hbw, ⟨_, upd_same, hW⟩, q _ hpm hpw⟩)⟩
end
end Z
set_option Elab.async false
set_option linter.all false
set_option maxRecDepth 100000
set_option maxHeartbeats 8000000
/-! free pages, numbers, writes; by data -/
namespace E5
open PySem PySem.Spec PyProof.Rows L2 Y Z
open Evl (Ex st_of sq_of ex_l ex_t fresh_back sz_of sz_lt)
/-- the first page that is free -/
structure FreeP (ps : List Pg) (rv : List Nat) (m : Nat) : Prop where
  r : m ∉ rv
  c : cAt ps m = none
  l : ∀ k, k < m → k ∈ rv ∨ cAt ps k ≠ none
theorem FreeP.uniq {ps : List Pg} {rv : List Nat} {m n : Nat} (h : FreeP ps rv m) (g : FreeP ps rv n) : m = n := by
  rcases Nat.lt_trichotomy m n with x | x | x
  · rcases g.l m x with y | y
    · exact absurd y h.r
    · exact absurd h.c y
  · exact x
  · rcases h.l n x with y | y
    · exact absurd y g.r
    · exact absurd g.c y
theorem nat_inD {a : Nat} : ∀ {l : List Nat}, a ∈ l → Z.inD (natD a) (l.map natD) = true
  | [], h => nomatch h
  | n :: l, h => by
    unfold Z.inD
    rw [List.map_cons, List.any_cons, Bool.or_eq_true]
    rcases List.mem_cons.mp h with h | h
    · subst h; exact .inl (show ((a : Int) == (a : Int)) = true from beq_self_eq_true _)
    · exact .inr (nat_inD h)
/-- what a write says -/
inductive WrOk (ps : List Pg) (rv : List Nat) (p : Nat) (c : Cn) (key : Str) (n : Int) : List (Nat × Cn) → Prop
  | none : wOf c.ents key = n → WrOk ps rv p c key n []
  | one (es : List (Str × Int)) : wOf c.ents key ≠ n → es.Perm (c.ents.filter (fun p => !decide (p.1 = key)) ++ addE key n) → es.Pairwise (fun v u => ltB u.1 v.1 = false) → es.length ≤ 3 → WrOk ps rv p c key n [(p, ⟨c.low, es, c.fol⟩)]
  | two (e0 e1 e2 e3 : Str × Int) (m : Nat) : wOf c.ents key ≠ n → [e0, e1, e2, e3].Perm (c.ents.filter (fun p => !decide (p.1 = key)) ++ addE key n) → [e0, e1, e2, e3].Pairwise (fun v u => ltB u.1 v.1 = false) → FreeP ps rv m → m ≤ 1001 →
      WrOk ps rv p c key n [(m, ⟨e2.1, [e2, e3], c.fol⟩), (p, ⟨c.low, [e0, e1], some (m : Int)⟩)]
theorem WrOk.uniq {ps : List Pg} {rv : List Nat} {p : Nat} {c : Cn} {key : Str} {n : Int} {ws vs : List (Nat × Cn)} (ok : CnOk c) (hk : KeyS key) (hn : Num n) (hl : ltB key c.low = false) (h : WrOk ps rv p c key n ws) (g : WrOk ps rv p c key n vs) : ws = vs := by
  have same : ∀ es fs : List (Str × Int), es.Perm (c.ents.filter (fun p => !decide (p.1 = key)) ++ addE key n) → es.Pairwise (fun v u => ltB u.1 v.1 = false) → fs.Perm (c.ents.filter (fun p => !decide (p.1 = key)) ++ addE key n) → fs.Pairwise (fun v u => ltB u.1 v.1 = false) → es = fs := fun es fs a b a' b' =>
    ents_uniq (a.trans a'.symm) (new_ok ok hk hn hl a b).asc (new_ok ok hk hn hl a' b').asc
  cases h with
  | none h1 =>
    cases g with
    | none _ => rfl
    | one _ g1 => exact absurd h1 g1
    | two _ _ _ _ _ g1 => exact absurd h1 g1
  | one es h1 h2 h3 h4 =>
    cases g with
    | none g1 => exact absurd g1 h1
    | one fs g1 g2 g3 g4 => rw [same es fs h2 h3 g2 g3]
    | two a b d e m g1 g2 g3 g4 =>
      have := same _ _ h2 h3 g2 g3
      subst this
      simp at h4
  | two a b d e m h1 h2 h3 h4 =>
    cases g with
    | none g1 => exact absurd g1 h1
    | one fs g1 g2 g3 g4 =>
      have := same _ _ h2 h3 g2 g3
      subst this
      simp at g4
    | two a' b' d' e' m' g1 g2 g3 g4 =>
      have := same _ _ h2 h3 g2 g3
      simp only [List.cons.injEq, and_true] at this
      obtain ⟨rfl, rfl, rfl, rfl⟩ := this
      rw [h4.uniq g4]
abbrev wrT (x : Nat × Cn) : Dt := .tup [natD x.1, .tup [.str x.2.low, .tup (x.2.ents.map entD), foD x.2.fol]]
abbrev rvD (rv : List Nat) : Dt := .tup (rv.map natD)
section
variable {P : Program} {w : World} {K : PySem.W.Frag} {mg : Str → Option Value} {base : Heap}
def dFree : List Dt → (Dt → Prop) → Prop := fun ds Q => ∃ (ps : List Pg) (rv : List Nat), ds = [pgsD ps, rvD rv] ∧ ps.length ≤ 100 ∧ (∀ r ∈ rv, r ≤ 1000) ∧ ∀ m, FreeP ps rv m → m ≤ 1001 → Q (natD m)
def dAscN : List Dt → (Dt → Prop) → Prop := fun ds Q => ∃ rv : List Nat, ds = [rvD rv] ∧ rv.length ≤ 1000 ∧ rv.Pairwise (· < ·) ∧ Q (.bl true)
theorem ownD_ascN (D : Def K mg "is_ascending" sp_is_ascending) (B : Blt mg) : OwnD P w K mg base "is_ascending" ["things"] 1 dAscN := by
  refine ownD D cp_is_ascending (fun ds Q Q' k ⟨s, e, p, p2, q⟩ => ⟨s, e, p, p2, k _ q⟩) (fun ds Q ⟨s, e, _⟩ => by subst e; rfl) (fun _ _ _ _ _ _ us hl => match us, hl with | [_], _ => rfl) ?_
  rintro X ds Q ⟨f, cdv, A, outer, s0, H, E, rfl⟩ hr ⟨ss, rfl, hl, ha, q⟩
  have nd := cp_is_ascending.nd
  refine s_ret (d_all rfl (by rfl) B.all (.ofN (n_lc (own := [("one", 1), ("other", 2)]) rfl nd (blkOk_by (N := np_is_ascending) (sc := defScope sp_is_ascending) (by decide +kernel)) (gb_tup2 1 2 (fun _ _ _ _ _ => pg_tup rfl (pgs_cons (pg_name (i := 1) nd rfl (Or.inl rfl)) (pgs_cons (pg_name (i := 2) nd rfl (Or.inl rfl)) pgs_nil)))) (by simp) (i_zipT (by rfl) B.zip <| d_nm 0 rfl <| d_drT <| d_nm 0 rfl ⟨_, rfl, d_int ⟨1, rfl, ?_⟩⟩))))
  dsimp only [tuQ]
  refine LcQ.map (fun _ => .bl true) ?_ (fun d hd => ?_) (all_bls q)
  · unfold zipD; rw [List.length_map, List.length_zip, List.length_map]; omega
  · unfold zipD at hd
    obtain ⟨q', hq, rfl⟩ := List.mem_map.mp hd
    obtain ⟨n, hn⟩ := List.getElem?_of_mem hq
    obtain ⟨h1, h2⟩ := List.getElem?_zip_eq_some.mp hn
    rw [List.getElem?_drop, List.getElem?_map] at h2
    rw [List.getElem?_map] at h1
    obtain ⟨s1, g1, e1⟩ := Option.map_eq_some_iff.mp h1
    obtain ⟨s2, g2, e2⟩ := Option.map_eq_some_iff.mp h2
    obtain ⟨qa, qb⟩ := q'
    have e1 : natD s1 = qa := e1
    have e2 : natD s2 = qb := e2
    subst e1 e2
    refine ⟨_, rfl, fun s' H' C cl fp => d_lt <| .of <| d_nm 1 rfl <| .of <| d_nm 2 rfl ?_⟩
    show Dt.bl (decide ((s1 : Int) < (s2 : Int))) = .bl true
    obtain ⟨a1, b1⟩ := List.getElem?_eq_some_iff.mp g1
    obtain ⟨a2, b2⟩ := List.getElem?_eq_some_iff.mp g2
    have := List.pairwise_iff_getElem.mp ha n (1 + n) a1 a2 (by omega)
    rw [b1, b2] at this
    rw [decide_eq_true (by omega)]
def dAreN : List Dt → (Dt → Prop) → Prop := dAscN
/-! ### writes_in -/
structure WrA (ps : List Pg) (A : List (Nat × Cn)) (p : Nat) (c : Cn) (B : List (Nat × Cn)) (key : Str) (n : Int) (rv : List Nat) : Prop where
  pl : PlA ps A p c B key
  k : KeyS key
  n : Num n
  rl : rv.length ≤ 1000
  rb : ∀ r ∈ rv, r ≤ 1000
  ra : rv.Pairwise (· < ·)
def dWrIn : List Dt → (Dt → Prop) → Prop := fun ds Q => ∃ (ps : List Pg) (A : List (Nat × Cn)) (p : Nat) (c : Cn) (B : List (Nat × Cn)) (key : Str) (n : Int) (rv : List Nat), ds = [pgsD ps, .str key, .int n, rvD rv] ∧ WrA ps A p c B key n rv ∧ ∀ ws, WrOk ps rv p c key n ws → Q (.tup (ws.map wrT))
def dWrFor : List Dt → (Dt → Prop) → Prop := dWrIn
end
end E5
set_option Elab.async false
set_option linter.all false
set_option maxRecDepth 100000
set_option maxHeartbeats 8000000
/-! the law's place and writes, to the letter; by data -/
namespace E5
open PySem PySem.Spec PyProof.Rows L2 Y Z
open Evl (Ex st_of sq_of ex_l ex_t fresh_back sz_of sz_lt)
theorem sub_len : ∀ (l m : List Nat), l.Nodup → (∀ x ∈ l, x ∈ m) → l.length ≤ m.length
  | [], m, _, _ => Nat.zero_le _
  | a :: l, m, nd, h => by
    have ha := h a List.mem_cons_self
    have e := List.length_erase_of_mem ha
    have ih := sub_len l (m.erase a) (List.nodup_cons.mp nd).2 fun x hx => (List.mem_erase_of_ne (fun z => (List.nodup_cons.mp nd).1 (by rw [← z]; exact hx))).mpr (h x (List.mem_cons_of_mem _ hx))
    have : 0 < m.length := List.length_pos_of_mem ha
    rw [List.length_cons]
    omega
section
variable {P : Program} {w : World} {K : PySem.W.Frag} {mg : Str → Option Value} {base : Heap}
theorem ownD_lplE (D : Def K mg "_law_place" sl_place) (OC : OwnD P w K mg base "_law_chain" ["_law_pages"] 1 dChain) : OwnD P w K mg base "_law_place" ["_law_pages", "_law_key_here"] 2 dPlIn := by
  refine ownD D cl_place (fun ds Q Q' k ⟨a, b, c, d, e, f, h1, h2, q⟩ => ⟨a, b, c, d, e, f, h1, h2, k _ q⟩) (fun ds Q ⟨a, b, c, d, e, f, h, _⟩ => by subst h; rfl) (fun _ _ _ _ _ _ us hl => match us, hl with | [_, _], _ => rfl) ?_
  rintro X ds Q ⟨f, cdv, A0, outer, s0, H, E, rfl⟩ hr ⟨ps, A, p, c, B, key, rfl, h, q⟩
  have nd := cl_place.nd
  have hlen := h.ch.ch.len
  have few := h.ch.few
  have eCh := chain_of_L h.ch.ch
  refine s_ret <| d_ix <| .ofN <| n_lct (own := [("_law_n", 2)]) rfl nd (blkOk_by (N := nl_place) (sc := defScope sl_place) (by decide +kernel)) (gb_nm 2 (fun _ _ _ _ _ => pg_name (i := 2) nd rfl (Or.inl rfl))) (by simp) (i_lst <| d_own OC hr (by rfl) <| l_cons <| d_nm 0 rfl <| l_nil ⟨ps, rfl, h.ch.ok, h.ch.few, ?_⟩)
  rw [eCh]
  dsimp only [chD, lstQ]
  rw [List.map_map]
  generalize hL : A ++ (p, c) :: B = L at *
  have hch : ChL ps L := by rw [← hL]; exact h.ch.ch
  refine ⟨by rw [List.length_map]; omega, fun j acc => acc = ((L.take j).filter (fun x => !ltB key x.2.low)).map (fun x => natD x.1), rfl, ?_, ?_⟩
  · rintro j d acc hd rfl
    rw [List.getElem?_map] at hd
    obtain ⟨⟨n, e⟩, hn, rfl⟩ := Option.map_eq_some_iff.mp hd
    have hc := hch.at _ (List.mem_of_getElem? hn)
    dsimp only at hc
    obtain ⟨m, hm⟩ := cAt_page hc
    have et : L.take (j + 1) = L.take j ++ [(n, e)] := by rw [List.take_add_one, hn]; rfl
    refine ⟨_, rfl, fun s1 H' C cl2 fp => t_leS <| .of <| d_ix <| d_ix <| d_ix <| d_nm 0 rfl <| d_nm 2 rfl ⟨pgD (m, some e), atI_nat (by rw [List.getElem?_map, hm]; rfl), d_int ⟨_, atI_1, d_int ⟨_, atI_0, .of <| d_nm 1 rfl ?_⟩⟩⟩⟩
    refine (show _ ∧ _ from ⟨fun h3 => fun s2 H2 C2 cl3 fp2 => d_nm 2 rfl ?_, fun h3 => ?_⟩)
    · have h3 : (!ltB key e.low) = true := h3
      show _ = ((L.take (j + 1)).filter (fun x => !ltB key x.2.low)).map (fun x => natD x.1)
      rw [et, List.filter_append, List.filter_cons_of_pos (p := fun x : Nat × Cn => !ltB key x.2.low) h3, List.map_append]; rfl
    · have h3 : (!ltB key e.low) = false := h3
      show _ = ((L.take (j + 1)).filter (fun x => !ltB key x.2.low)).map (fun x => natD x.1)
      rw [et, List.filter_append, List.filter_cons_of_neg (p := fun x : Nat × Cn => !ltB key x.2.low) (by rw [h3]; exact Bool.false_ne_true), List.filter_nil, List.append_nil]
  rintro acc _ rfl
  rw [List.length_map, List.take_length, ← hL, filt_place h]
  exact d_neg <| d_int ⟨natD p, by rw [List.map_append]; exact L2.atI_last _ _, q⟩
def dWrL : List Dt → (Dt → Prop) → Prop := fun ds Q => ∃ (ps : List Pg) (A : List (Nat × Cn)) (p : Nat) (c : Cn) (B : List (Nat × Cn)) (key : Str) (n : Int) (rv : List Nat), ds = [pgsD ps, .str key, .int n, rvD rv] ∧ WrA ps A p c B key n rv ∧ ∀ ws, WrOk ps rv p c key n ws → Q (.tup (ws.map wrD))
theorem ownD_lwrE (D : Def K mg "_law_writes" sl_writes) (OP : OwnD P w K mg base "_law_place" ["_law_pages", "_law_key_here"] 2 dPlIn) (md : mg "dict" = none) (ms : mg "sorted" = none) (mi : mg "int" = none) (ml : mg "len" = none) (mt : mg "tuple" = none) (mr : mg "range" = none) (mli : mg "list" = none) : OwnD P w K mg base "_law_writes" ["_law_pages", "_law_key_here", "_law_worth_here", "_law_reserved"] 3 dWrL := by
  refine ownD D cl_writes (fun ds Q Q' k ⟨a, b, c, d, e, f, g, h, h1, h2, q⟩ => ⟨a, b, c, d, e, f, g, h, h1, h2, fun ws z => k _ (q ws z)⟩) (fun ds Q ⟨a, b, c, d, e, f, g, h, h1, _⟩ => by subst h1; rfl) (fun _ _ _ _ _ _ us hl => match us, hl with | [_, _, _, _], _ => rfl) ?_
  rintro X ds Q ⟨f, cdv, A0, outer, s0, H, E, rfl⟩ hr ⟨ps, A, p, c, C, key, wo, rv, rfl, h, q⟩
  have ok := h.pl.ch.ok
  have few := h.pl.ch.few
  have hch := h.pl.ch.ch
  have hk := h.k
  have hn := h.n
  have hlow := h.pl.k
  have rl := h.rl
  have hrb := h.rb
  have hc := hch.at (p, c) (by simp)
  dsimp only at hc
  have nd := cl_writes.nd
  refine s_set 4 (d_own OP (hr.mono (by decide)) (by rfl) <| l_cons <| d_nm 0 rfl <| l_cons <| d_nm 1 rfl <| l_nil ⟨ps, A, p, c, C, key, rfl, h.pl, ?_⟩) nd
  obtain ⟨m0, hm⟩ := cAt_page hc
  have okc := cAt_ok ok hc
  have hp : p < ps.length := (List.getElem?_eq_some_iff.mp hm).1
  refine s_asg (d_ix <| d_ix <| d_nm 0 rfl <| d_nm 4 rfl ⟨pgD (m0, some c), atI_nat (by rw [List.getElem?_map, hm]; rfl), d_int ⟨_, atI_1, _, rfl, ?_⟩⟩) (g_tup3 5 6 7 rfl nd)
  -- the worth it has
  have nodk : (((c.ents.map fun p => ((.inr p.1 : Key), Dt.int p.2))).map (·.1)).Nodup := by
    rw [List.map_map]
    have h1 : (c.ents.map (·.1)).Nodup := okc.asc.imp fun {a b} h => by
      rintro rfl
      rw [ltB_irrefl] at h; cases h
    have e : c.ents.map ((fun kv : Key × Dt => kv.1) ∘ fun p => ((.inr p.1 : Key), Dt.int p.2)) = (c.ents.map (·.1)).map (fun s => (.inr s : Key)) := by rw [List.map_map]; rfl
    rw [e]
    exact List.Pairwise.map _ (fun a b h => by intro z; exact h (Sum.inr.inj z)) h1
  have h65 := hu65_of hr
  refine s_when <| t_eq hr.units <| .of <| d_get2 (Nat.lt_of_le_of_lt (Nat.add_le_add_left (by decide) _) h65) (.of <| .ofN <| n_dictZ rfl (by rfl) md <| d_nm 6 rfl ⟨c.ents.map fun p => ((.inr p.1 : Key), Dt.int p.2), by rw [List.map_map]; rfl, nodk, _, rfl, d_nm 1 rfl ⟨.inr key, rfl, d_int ?_⟩⟩)
  rw [val_w]
  refine ⟨rfl, .of <| d_nm 2 rfl ⟨fun h1 => s_ret <| d_tup <| l_nil ⟨Nat.zero_le _, q [] (.none (of_decide_eq_true h1))⟩, fun h1 => ?_⟩⟩
  have hne : wOf c.ents key ≠ wo := of_decide_eq_false h1
  -- the entries behind it
  refine s_set 8 (.ofN <| n_sortTI (by rfl) ms <| .ofN <| n_cat <| DN.w1 <| n_lct (own := [("_law_pair", 9)]) rfl nd (blkOk_by (N := nl_writes) (sc := defScope sl_writes) (by decide +kernel)) (gb_nm 9 (fun _ _ _ _ _ => pg_name (i := 9) nd rfl (Or.inl rfl))) (by simp) (i_tup <| d_dz <| d_nm 6 rfl ⟨_, rfl, ?_⟩)) nd
  dsimp only [tuQ]
  have fe := okc.few
  refine ⟨by rw [List.length_map]; omega, fun j acc => acc = ((c.ents.take j).filter (fun p => !decide (p.1 = key))).map entD, rfl, ?_, ?_⟩
  · rintro j d acc hd rfl
    rw [List.getElem?_map] at hd
    obtain ⟨pr, hpr, rfl⟩ := Option.map_eq_some_iff.mp hd
    have et : c.ents.take (j + 1) = c.ents.take j ++ [pr] := by rw [List.take_add_one, hpr]; rfl
    refine ⟨_, rfl, fun s1 H' C cl2 fp => t_ne hr.units <| .of <| d_ix <| d_nm 9 rfl <| d_int ⟨_, atI_0, .of <| d_nm 1 rfl ?_⟩⟩
    refine (show _ ∧ _ from ⟨fun h3 => fun s2 H2 C2 cl3 fp2 => d_nm 9 rfl ?_, fun h3 => ?_⟩)
    · have h3 : (!decide (pr.1 = key)) = true := h3
      show _ = ((c.ents.take (j + 1)).filter (fun p => !decide (p.1 = key))).map entD
      rw [et, List.filter_append, List.filter_cons_of_pos (p := fun p : Str × Int => !decide (p.1 = key)) h3, List.map_append]; rfl
    · have h3 : (!decide (pr.1 = key)) = false := h3
      show _ = ((c.ents.take (j + 1)).filter (fun p => !decide (p.1 = key))).map entD
      rw [et, List.filter_append, List.filter_cons_of_neg (p := fun p : Str × Int => !decide (p.1 = key)) (by rw [h3]; exact Bool.false_ne_true), List.filter_nil, List.append_nil]
  rintro acc _ rfl
  rw [List.length_map, List.take_length]
  refine DN.w1 <| n_repL <| DN.w1 <| n_lst <| l_cons <| d_tup <| l_cons <| d_nm 1 rfl <| l_cons <| d_nm 2 rfl <| l_nil ⟨by show 2 ≤ 100000; decide, l_nil ⟨by show 1 ≤ 100000; decide, d_intB rfl (by rfl) mi <| d_ne hr.units <| .of <| d_nm 2 rfl <| .of <| d_int ⟨_, rfl, _, _, rfl, rfl, ?_, by show 1 ≤ 1000; decide, ?_⟩⟩⟩
  · split <;> decide
  have fl : (c.ents.filter (fun p => !decide (p.1 = key))).length ≤ 3 := Nat.le_trans (List.length_filter_le _ _) fe
  have ea : (List.replicate (if (!decide (wo = 0)) = true then (1 : Int) else 0).toNat [Dt.tup [.str key, .int wo]]).flatten = (addE key wo).map entD := by
    unfold addE
    by_cases z : wo = 0
    · simp [z]
    · simp [z]
  refine ⟨_, _, rfl, rfl, ?_, c.ents.filter (fun p => !decide (p.1 = key)) ++ addE key wo, ?_, fun es pm so => ?_⟩
  · have : (addE key wo).length ≤ 1 := by unfold addE; split <;> simp
    rw [ea, List.length_map, List.length_map]; omega
  · rw [ea, List.map_append]
  have nok := new_ok okc hk hn hlow pm so
  have n4 := nok.few
  refine s_when <| t_lt <| .of <| d_len (by rfl) ml <| .of <| d_nm 8 rfl <| .of <| d_int ?_
  refine (show _ ∧ _ from ⟨fun h => ?_, fun h => ?_⟩)
  · have h : ((es.map pTI).length : Int) < 4 := of_decide_eq_true h
    rw [List.length_map] at h
    refine s_ret <| d_tup <| l_cons <| d_tup <| l_cons <| d_nm 4 rfl <| l_cons <| d_tup <| l_cons <| d_nm 5 rfl <| l_cons <| d_tupleZ (by rfl) mt <| d_nm 8 rfl ⟨_, rfl, l_cons <| d_nm 7 rfl <| l_nil ⟨by show 3 ≤ 100000; decide, l_nil ⟨by show 2 ≤ 100000; decide, l_nil ⟨by show 1 ≤ 100000; decide, q [(p, ⟨c.low, es, c.fol⟩)] (.one es hne pm so (by omega))⟩⟩⟩⟩
  have h : ¬ ((es.map pTI).length : Int) < 4 := of_decide_eq_false h
  rw [List.length_map] at h
  obtain ⟨e0, e1, e2, e3, rfl⟩ : ∃ e0 e1 e2 e3, es = [e0, e1, e2, e3] := by
    match es, h, n4 with
    | [a, b, c, d], _, _ => exact ⟨a, b, c, d, rfl⟩
    | [], h, _ => simp at h
    | [_], h, _ => simp at h
    | [_, _], h, _ => simp at h
    | [_, _, _], h, _ => simp at h
    | _ :: _ :: _ :: _ :: _ :: _, _, h => simp at h
  -- the pages that are held
  refine s_set 10 (.ofN <| n_cat <| DN.w1 <| n_lct (own := [("_law_n", 11)]) rfl nd (blkOk_by (N := nl_writes) (sc := defScope sl_writes) (by decide +kernel)) (gb_nm 11 (fun _ _ _ _ _ => pg_name (i := 11) nd rfl (Or.inl rfl))) (by simp) (i_rng (by rfl) mr <| d_len (by rfl) ml <| .of <| d_nm 0 rfl ⟨by rw [List.length_map]; omega, ?_⟩)) nd
  refine ⟨by rw [rngD_len, Int.toNat_natCast, List.length_map]; omega, fun j acc => ∃ hs : List Nat, acc = hs.map natD ∧ hs.length ≤ j ∧ ∀ n, n ∈ hs ↔ (n < j ∧ cAt ps n ≠ none), ⟨[], rfl, Nat.le_refl _, fun n => ⟨fun h => (nomatch h), fun h => by omega⟩⟩, ?_, ?_⟩
  · rintro j d acc hd ⟨hs, rfl, hl, hh⟩
    obtain ⟨rfl, hj⟩ := rng_at hd
    rw [Int.toNat_natCast, List.length_map] at hj
    rw [Int.zero_add]
    have ej : cAt ps j = ps[j].2 := by unfold cAt; rw [List.getElem?_eq_getElem hj]; rfl
    refine ⟨_, rfl, fun s1 H' C cl2 fp => t_notN <| .of <| d_ix <| d_ix <| d_nm 0 rfl <| d_nm 11 rfl ⟨pgD ps[j], atI_nat (by rw [List.getElem?_map, List.getElem?_eq_getElem hj]; rfl), d_int ⟨_, atI_1, ?_⟩⟩⟩
    have eN : (!Z.isNon (cnD ps[j].2)) = decide (cAt ps j ≠ none) := by rw [ej]; cases ps[j].2 <;> simp [Z.isNon]
    refine (show _ ∧ _ from ⟨fun h3 => fun s2 H2 C2 cl3 fp2 => d_nm 11 rfl ⟨hs ++ [j], by rw [List.map_append]; rfl, by rw [List.length_append]; show hs.length + 1 ≤ j + 1; omega, fun n => ?_⟩, fun h3 => ⟨hs, rfl, by omega, fun n => ?_⟩⟩)
    · have h3 : (!Z.isNon (cnD ps[j].2)) = true := h3
      have h3 : cAt ps j ≠ none := of_decide_eq_true (eN.symm.trans h3)
      rw [List.mem_append, List.mem_singleton, hh]
      constructor
      · rintro (⟨a, b⟩ | rfl)
        · exact ⟨by omega, b⟩
        · exact ⟨by omega, h3⟩
      · rintro ⟨a, b⟩
        by_cases z : n = j
        · exact .inr z
        · exact .inl ⟨by omega, b⟩
    · have h3 : (!Z.isNon (cnD ps[j].2)) = false := h3
      have h3 : ¬ cAt ps j ≠ none := of_decide_eq_false (eN.symm.trans h3)
      rw [hh]
      constructor
      · rintro ⟨a, b⟩; exact ⟨by omega, b⟩
      · rintro ⟨a, b⟩
        refine ⟨?_, b⟩
        by_cases z : n = j
        · rw [z] at b; exact absurd b h3
        · omega
  rintro acc _ ⟨hs, rfl, hl, hh⟩
  rw [rngD_len, Int.toNat_natCast, List.length_map] at hl hh
  refine DN.w1 <| n_list (by rfl) mli <| d_nm 3 rfl ⟨rv.map natD, .inr rfl, _, _, rfl, rfl, by rw [List.length_map, List.length_map]; omega, ?_⟩
  rw [← List.map_append]
  generalize hheld : hs ++ rv = held
  have hlen : held.length = hs.length + rv.length := by rw [← hheld, List.length_append]
  -- a page that is free
  refine s_set 12 (d_ix <| .ofN <| n_lct (own := [("_law_n", 11)]) rfl nd (blkOk_by (N := nl_writes) (sc := defScope sl_writes) (by decide +kernel)) (gb_nm 11 (fun _ _ _ _ _ => pg_name (i := 11) nd rfl (Or.inl rfl))) (by simp) (i_rng (by rfl) mr <| d_add <| d_add <| d_len (by rfl) ml <| .of <| d_nm 0 rfl <| d_len (by rfl) ml <| .of <| d_nm 10 rfl <| d_int ?_)) nd
  have eN : (((ps.map pgD).length : Int) + ((held.map natD).length : Int) + 1) = ((ps.length + held.length + 1 : Nat) : Int) := by rw [List.length_map, List.length_map]; omega
  refine ⟨by rw [eN]; omega, ?_⟩
  have eM : ((((ps.map pgD).length : Int) + ((held.map natD).length : Int)) + 1).toNat = ps.length + held.length + 1 := by rw [eN]; exact Int.toNat_natCast _
  refine ⟨by rw [rngD_len, eM]; omega, fun j acc => ∃ gs : List Nat, acc = gs.map natD ∧ gs.Pairwise (· < ·) ∧ ∀ n, n ∈ gs ↔ (n < j ∧ n ∉ held), ⟨[], rfl, List.Pairwise.nil, fun n => ⟨fun h => (nomatch h), fun h => by omega⟩⟩, ?_, ?_⟩
  · rintro j d acc hd ⟨gs, rfl, hg, h0⟩
    obtain ⟨rfl, hj⟩ := rng_at hd
    rw [eM] at hj
    rw [Int.zero_add]
    refine ⟨_, rfl, fun s1 H' C cl2 fp => t_nin <| .of <| d_nm 11 rfl <| .of <| d_nm 10 rfl ⟨⟨rfl, flat_nats _⟩, ?_⟩⟩
    refine (show _ ∧ _ from ⟨fun h3 => fun s2 H2 C2 cl3 fp2 => d_nm 11 rfl ⟨gs ++ [j], by rw [List.map_append]; rfl, ?_, fun n => ?_⟩, fun h3 => ⟨gs, rfl, hg, fun n => ?_⟩⟩)
    · rw [List.pairwise_append]
      exact ⟨hg, List.pairwise_singleton _ _, fun a ha b hb => by rw [List.mem_singleton.mp hb]; exact ((h0 a).mp ha).1⟩
    · have h3 : (!Z.inD (natD j) (held.map natD)) = true := h3
      have h4 : j ∉ held := fun z => by rw [nat_inD z] at h3; cases h3
      rw [List.mem_append, List.mem_singleton, h0]
      constructor
      · rintro (⟨a, b⟩ | rfl)
        · exact ⟨by omega, b⟩
        · exact ⟨by omega, h4⟩
      · rintro ⟨a, b⟩
        by_cases z : n = j
        · exact .inr z
        · exact .inl ⟨by omega, b⟩
    · have h3 : (!Z.inD (natD j) (held.map natD)) = false := h3
      have h4 : j ∈ held := inD_nat (by simpa using h3)
      rw [h0]
      constructor
      · rintro ⟨a, b⟩; exact ⟨by omega, b⟩
      · rintro ⟨a, b⟩
        refine ⟨?_, b⟩
        by_cases z : n = j
        · rw [z] at b; exact absurd h4 b
        · omega
  rintro acc _ ⟨gs, rfl, hg, h0⟩
  rw [rngD_len, eM] at h0
  have gne : gs ≠ [] := by
    rintro rfl
    have := sub_len (List.range (ps.length + held.length + 1)) held List.nodup_range fun x hx => by
      by_cases z : x ∈ held
      · exact z
      · have := (h0 x).mpr ⟨List.mem_range.mp hx, z⟩
        cases this
    rw [List.length_range] at this
    omega
  obtain ⟨m, gs', rfl⟩ := List.exists_cons_of_ne_nil gne
  obtain ⟨m1, m2⟩ := (h0 m).mp List.mem_cons_self
  have free : FreeP ps rv m := by
    refine ⟨fun z => m2 (by rw [← hheld]; exact List.mem_append_right _ z), ?_, fun k hk => ?_⟩
    · by_cases z : m < ps.length
      · cases hcm : cAt ps m with
        | none => rfl
        | some c' => exact absurd (by rw [← hheld]; exact List.mem_append_left _ ((hh m).mpr ⟨z, by rw [hcm]; exact fun z => nomatch z⟩)) m2
      · unfold cAt; rw [List.getElem?_eq_none (by omega)]; rfl
    · have hkh : k ∈ held := by
        by_cases z : k ∈ held
        · exact z
        · have hk2 := (h0 k).mpr ⟨by omega, z⟩
          rcases List.mem_cons.mp hk2 with e | e
          · omega
          · have := (List.pairwise_cons.mp hg).1 k e; omega
      rw [← hheld] at hkh
      rcases List.mem_append.mp hkh with e | e
      · exact .inr ((hh k).mp e).2
      · exact .inl e
  have hm1 : m ≤ 1001 := by
    by_cases z : m ≤ 1001
    · exact z
    · rcases free.l 1001 (by omega) with e | e
      · have := hrb _ e; omega
      · obtain ⟨c', hc'⟩ := Option.ne_none_iff_exists'.mp e
        have := cAt_lt hc'; omega
  refine d_int ⟨natD m, atI_0, ?_⟩
  refine s_ret <| d_tup <| l_cons <| d_tup <| l_cons <| d_nm 12 rfl <| l_cons <| d_tup <| l_cons <| d_ix <| d_ix <| d_nm 8 rfl <| d_int ⟨entD e2, atI_2, d_int ⟨_, atI_0, l_cons <| d_tupleZ (by rfl) mt <| .ofN <| n_drL <| d_nm 8 rfl ⟨_, rfl, d_int ⟨2, rfl, _, rfl, l_cons <| d_nm 7 rfl <| l_nil ⟨by show 3 ≤ 100000; decide, l_nil ⟨by show 2 ≤ 100000; decide, ?_⟩⟩⟩⟩⟩⟩
  refine l_cons <| d_tup <| l_cons <| d_nm 4 rfl <| l_cons <| d_tup <| l_cons <| d_nm 5 rfl <| l_cons <| d_tupleZ (by rfl) mt <| .ofN <| n_tkL <| d_nm 8 rfl ⟨_, rfl, d_int ⟨2, rfl, _, rfl, l_cons <| d_nm 12 rfl <| l_nil ⟨by show 3 ≤ 100000; decide, l_nil ⟨by show 2 ≤ 100000; decide, l_nil ⟨by show 2 ≤ 100000; decide, q [(m, ⟨e2.1, [e2, e3], c.fol⟩), (p, ⟨c.low, [e0, e1], some (m : Int)⟩)] (.two e0 e1 e2 e3 m hne pm so free hm1)⟩⟩⟩⟩⟩
end
end E5
set_option Elab.async false
set_option linter.all false
set_option maxRecDepth 100000
set_option maxHeartbeats 4000000
/-! w, x, y, z = frozen, frozen, new, frozen; by data -/
namespace Z
open PySem PySem.Spec PyProof.Rows L2 Evl Y
section
variable {X : Cx} {ρ : List Sl} {a b c d : Expr} {rest : List Stmt} {E : DEnds} {n1 n2 n3 n4 : Str} {pos p1 p2 p3 p4 pt pt2 : Pos}
theorem s_par4 {kt k2 : Nat} (i j l m : Nat) (h : DE X ρ a fun d1 => DE X ρ b fun d2 => DN X ρ c fun d3 => DE X ρ d fun d4 => DS X ((((ρ.set i (.fr d1)).set j (.fr d2)).set l (.ow d3)).set m (.fr d4)) rest E) (hc : X.calm = true) (hN : X.N.Nodup) (hil : i ≠ l) (hjl : j ≠ l)
    (h1 : X.N[i]? = some n1 := by rfl) (h2 : X.N[j]? = some n2 := by rfl) (h3 : X.N[l]? = some n3 := by rfl) (h4 : X.N[m]? = some n4 := by rfl)
    (l1 : Loc X.env.scope n1 := by first | exact Or.inl rfl | exact Or.inr rfl) (l2 : Loc X.env.scope n2 := by first | exact Or.inl rfl | exact Or.inr rfl) (l3 : Loc X.env.scope n3 := by first | exact Or.inl rfl | exact Or.inr rfl) (l4 : Loc X.env.scope n4 := by first | exact Or.inl rfl | exact Or.inr rfl)
    (f1 : X.fn n1 = true ∨ X.env.scope.names.lookup n1 = some .local := by first | exact .inl rfl | exact .inr rfl) (f2 : X.fn n2 = true ∨ X.env.scope.names.lookup n2 = some .local := by first | exact .inl rfl | exact .inr rfl) (f3 : X.fn n3 = true ∨ X.env.scope.names.lookup n3 = some .local := by first | exact .inl rfl | exact .inr rfl) (f4 : X.fn n4 = true ∨ X.env.scope.names.lookup n4 = some .local := by first | exact .inl rfl | exact .inr rfl)
    (hs : swapsWithSole [.Tuple [.Name n1 p1, .Name n2 p2, .Name n3 p3, .Name n4 p4] kt pt] (.Tuple [a, b, c, d] k2 pt2) pos.line X.env = pure false := by rfl) (hw : swappedStores [.Tuple [.Name n1 p1, .Name n2 p2, .Name n3 p3, .Name n4 p4] kt pt] (.Tuple [a, b, c, d] k2 pt2) X.env = pure none := by rfl)
    (he0 : (assignEach [.Tuple [.Name n1 p1, .Name n2 p2, .Name n3 p3, .Name n4 p4] kt pt] X.env).map (·.2) = [assign (.Tuple [.Name n1 p1, .Name n2 p2, .Name n3 p3, .Name n4 p4] kt pt) X.env] := by rfl)
    (he : starEach [a, b, c, d] X.env = (false, eval a X.env) :: starEach [b, c, d] X.env := by rfl) (he2 : starEach [b, c, d] X.env = (false, eval b X.env) :: starEach [c, d] X.env := by rfl) (he3 : starEach [c, d] X.env = (false, eval c X.env) :: starEach [d] X.env := by rfl) (he4 : starEach [d] X.env = (false, eval d X.env) :: starEach [] X.env := by rfl) :
    DS X ρ (.Assign [.Tuple [.Name n1 p1, .Name n2 p2, .Name n3 p3, .Name n4 p4] kt pt] (.Tuple [a, b, c, d] k2 pt2) pos :: rest) E :=
  ⟨fun H0 B0 B σ H D g En L => semS_of (pss_cons (ps_asg (pe_tup (pa_cons pe_sem (pa_cons pe_sem (pa_cons pe_sem (pa_cons pe_sem pa_nil he4) he3) he2) he)) (pg_tup hc (pgs_cons (pg_name hN h1 l1 f1) (pgs_cons (pg_name hN h2 l2 f2) (pgs_cons (pg_name hN h3 l3 f3) (pgs_cons (pg_name hN h4 l4 f4) pgs_nil))))) hs hw he0) pss_sem)
    (h.go En fun B1 v1 d1 H1 g1 E1 r1 q1 => q1.go E1 fun B2 v2 d2 H2 g2 E2 r2 q2 => q2.go E2 fun B3 p3 d3 H3 g3 E3 hp3 hb3 o3 q3 => q3.go E3 fun B4 v4 d4 H4 g4 E4 r4 q4 => ⟨sz_of (by show 4 ≤ 100000; decide), fun p hp => ⟨_, _, rfl, st_of upd_same, rfl, _, _, rfl, _, _, rfl, _, _, rfl, _, _, rfl, rfl, by
      obtain ⟨u, hu, mu⟩ := o3.mut
      have hb3' : B4 p3 = none := g4.o p3 u hu mu hb3
      have np : p3 ≠ p := fun z => by subst z; rw [g4.h _ _ hu] at hp; cases hp
      have gn := Gr.more E4.ex (Ex.new (o := .tup [v1, v2, .ref p3, v4]) hp)
      have o3' : Od X.K B4 (upd H4 p (.tup [v1, v2, .ref p3, v4])) p3 d3 := o3.ex g4.b (by rw [upd_ne np, hu, g4.h _ _ hu])
      have E4' := E4.gr gn
      have g12 := g1.trans g2
      have hp2 : H p3 = none := fresh_back g12.h hp3
      have E5 := ((E4'.setO (i := l) hb3' (fresh_back g.h hp2) o3' (fun k d z1 z2 => Z.En.noSlot (i := l) En hp2 k d z1 z2)).set (i := i) (r1.ex ((g2.trans g3).trans g4).b)).set (i := j) (r2.ex (g3.trans g4).b)
      have E6 := E5.set (i := m) r4
      rw [List.set_comm _ _ (Ne.symm hil), List.set_comm _ _ (Ne.symm hjl), List.set_comm _ _ (Ne.symm hil), List.set_comm _ _ (Ne.symm hjl)] at E6
      exact q4.run H0 B0 B4 _ _ D (((((g.trans g1).trans g2).trans g3).trans g4).trans gn) E6 L⟩⟩)⟩
end
end Z
set_option Elab.async false
set_option linter.all false
set_option maxRecDepth 100000
set_option maxHeartbeats 4000000
/-! what a long row of writes does: pages, chains, tables -/
namespace E5
open PySem PySem.Spec PyProof.Rows L2 Y Z
theorem cAt_vw {ps : List Pg} {n : Nat} : cAt ps n = (vw ps n).2 := by
  unfold cAt vw
  cases ps[n]? <;> rfl
theorem vw_le {ps : List Pg} {N : Int} (h : ∀ p ∈ ps, p.1 ≤ N) (h0 : 0 ≤ N) (n : Nat) : (vw ps n).1 ≤ N := by
  unfold vw
  cases e : ps[n]? with
  | none => exact h0
  | some p => exact h p (List.mem_of_getElem? e)
theorem after_at {ps : List Pg} {N : Int} {n : Nat} {c : Option Cn} (h : ∀ p ∈ ps, p.1 ≤ N) (h0 : 0 ≤ N) : cAt (afterPg ps (N + 1) n c) n = c ∧ ∀ m, m ≠ n → cAt (afterPg ps (N + 1) n c) m = cAt ps m := by
  have hv := vw_le h h0 n
  refine ⟨?_, fun m hm => ?_⟩
  · rw [cAt_vw, vw_after (by omega), if_pos ⟨rfl, by omega⟩]
  · rw [cAt_vw, cAt_vw, vw_after (by omega), if_neg fun z => hm z.1]
theorem after_top {ps : List Pg} {N : Int} {n : Nat} {c : Option Cn} (h : ∀ p ∈ ps, p.1 ≤ N) (h0 : 0 ≤ N) : ∀ p ∈ afterPg ps (N + 1) n c, p.1 ≤ N + 1 := fun p hp => by
  obtain ⟨m, hm⟩ := List.getElem?_of_mem hp
  have e : vw (afterPg ps (N + 1) n c) m = p := by unfold vw; rw [hm]; rfl
  rw [← e, vw_after (by omega)]
  split
  · exact Int.le_refl _
  · have := vw_le h h0 m; omega
/-- pages behind the first writes -/
def psAt (ps : List Pg) (N : Int) (ws : List (Nat × Cn)) : Nat → List Pg
  | 0 => ps
  | j + 1 => match ws[j]? with
    | some (n, c) => afterPg (psAt ps N ws j) (N + (j : Int) + 1) n (some c)
    | none => psAt ps N ws j
structure PsOk (ps : List Pg) (N : Int) : Prop where
  ok : ∀ p ∈ ps, PgOk p
  top : ∀ p ∈ ps, p.1 ≤ N
  len : ps.length ≤ 8
  ne : ps ≠ []
theorem psAt_ok {ps : List Pg} {N : Int} {ws : List (Nat × Cn)} (h : PsOk ps N) (h0 : 0 ≤ N) (hN : N ≤ 1000) (hw : ∀ x ∈ ws, CnOk x.2 ∧ x.1 ≤ 7) (hl : ws.length ≤ 2) : ∀ j, j ≤ ws.length → PsOk (psAt ps N ws j) (N + (j : Int))
  | 0, _ => by rw [show N + ((0 : Nat) : Int) = N by omega]; exact h
  | j + 1, hj => by
    have ih := psAt_ok h h0 hN hw hl j (by omega)
    have hj2 : j < ws.length := by omega
    have e : psAt ps N ws (j + 1) = afterPg (psAt ps N ws j) (N + (j : Int) + 1) ws[j].1 (some ws[j].2) := by
      show (match ws[j]? with | some (n, c) => _ | none => _) = _
      rw [List.getElem?_eq_getElem hj2]
    obtain ⟨w1, w2⟩ := hw _ (List.getElem_mem hj2)
    rw [e, show N + ((j + 1 : Nat) : Int) = N + (j : Int) + 1 by omega]
    have hnn : afterPg (psAt ps N ws j) (N + (j : Int) + 1) ws[j].1 (some ws[j].2) ≠ [] := fun z => by
      have := congrArg List.length z
      rw [len_after] at this
      simp at this
    exact ⟨afterPg_ok ih.ok ⟨by omega, by omega, by omega⟩ (fun d h => by cases h; exact w1), after_top ih.top (by omega), by rw [len_after]; have := ih.len; omega, hnn⟩
/-! ### what a write finds -/
theorem w_find {key : Str} : ∀ {es : List (Str × Int)}, (∃ n, (key, n) ∈ es ∧ wOf es key = n) ∨ ((∀ q ∈ es, q.1 ≠ key) ∧ wOf es key = 0)
  | [] => .inr ⟨fun q h => (nomatch h), rfl⟩
  | (k, n) :: r => by
    by_cases e : k = key
    · subst e
      refine .inl ⟨n, List.mem_cons_self, ?_⟩
      unfold wOf valD kvE
      rw [List.map_cons, List.find?_cons_of_pos (by simp)]; rfl
    · have er : wOf ((k, n) :: r) key = wOf r key := by
        unfold wOf valD kvE
        rw [List.map_cons, List.find?_cons_of_neg (by simp; exact e)]
      rcases w_find (key := key) (es := r) with ⟨m, h1, h2⟩ | ⟨h1, h2⟩
      · exact .inl ⟨m, List.mem_cons_of_mem _ h1, by rw [er]; exact h2⟩
      · refine .inr ⟨fun q hq => ?_, by rw [er]; exact h2⟩
        rcases List.mem_cons.mp hq with rfl | hq
        · exact e
        · exact h1 q hq
theorem perm_mem {key : Str} {n : Int} : ∀ {es : List (Str × Int)}, (es.map (·.1)).Nodup → (key, n) ∈ es → es.Perm (es.filter (fun p => !decide (p.1 = key)) ++ [(key, n)])
  | q :: r, nd, h => by
    rw [List.map_cons, List.nodup_cons] at nd
    by_cases e : q.1 = key
    · have hr : ∀ x ∈ r, x.1 ≠ key := fun x hx z => nd.1 (by rw [e, ← z]; exact List.mem_map.mpr ⟨x, hx, rfl⟩)
      have hq : q = (key, n) := by
        rcases List.mem_cons.mp h with z | z
        · exact z.symm
        · exact absurd rfl (hr _ z)
      rw [List.filter_cons_of_neg (by simp [e]), filter_all hr, ← hq]
      exact List.perm_append_comm (l₁ := [q]) (l₂ := r)
    · have hm : (key, n) ∈ r := by
        rcases List.mem_cons.mp h with z | z
        · exact absurd (by rw [← z]) e
        · exact z
      rw [List.filter_cons_of_pos (by simp [e])]
      exact (perm_mem nd.2 hm).cons q
theorem none_perm {c : Cn} {key : Str} (ok : CnOk c) : c.ents.Perm (c.ents.filter (fun p => !decide (p.1 = key)) ++ addE key (wOf c.ents key)) := by
  rcases w_find (key := key) (es := c.ents) with ⟨n, h1, h2⟩ | ⟨h1, h2⟩
  · rw [h2]
    have hz := (ok.ents _ h1).2.1
    unfold addE
    rw [if_neg hz]
    exact perm_mem (asc_nodup ok.asc) h1
  · rw [h2, filter_all h1]
    unfold addE
    rw [if_pos rfl, List.append_nil]
/-! ### a whole write -/
theorem writes_chain {ps : List Pg} {A : List (Nat × Cn)} {p : Nat} {c : Cn} {B : List (Nat × Cn)} {key : Str} {n : Int} {rv : List Nat} {ws : List (Nat × Cn)} {N : Int} (h : WrA ps A p c B key n rv) (hw : WrOk ps rv p c key n ws) (hN : PsOk ps N) (h0 : 0 ≤ N) :
    (∀ x ∈ ws, CnOk x.2) ∧ ws.length ≤ 2 ∧ (ws.length = 2 → ChL (psAt ps N ws 1) (A ++ (p, c) :: B)) ∧ ∃ L', ChL (psAt ps N ws ws.length) L' ∧ (entsL L').Perm ((entsL (A ++ (p, c) :: B)).filter (fun p => !decide (p.1 = key)) ++ addE key n) := by
  have okp := h.pl.ch.ok
  have hch := h.pl.ch.ch
  have okc := cAt_ok okp (hch.at (p, c) (by simp))
  cases hw with
  | none h1 =>
    refine ⟨fun x hx => (nomatch hx), Nat.zero_le _, fun z => (nomatch z), _, hch, ?_⟩
    have := ents_write hch okp h.pl.k h.pl.b (none_perm (key := key) okc)
    rw [h1] at this
    rw [entsL_app, entsL_cons] at this ⊢
    exact this
  | one es h1 h2 h3 h4 =>
    have nok := new_ok okc h.k h.n h.pl.k h2 h3
    obtain ⟨a1, a2⟩ := after_at (n := p) (c := some ⟨c.low, es, c.fol⟩) hN.top h0
    have e1 : psAt ps N [(p, ⟨c.low, es, c.fol⟩)] 1 = afterPg ps (N + 1) p (some ⟨c.low, es, c.fol⟩) := by
      show afterPg ps (N + ((0 : Nat) : Int) + 1) p _ = _
      rw [show N + ((0 : Nat) : Int) + 1 = N + 1 by omega]
    refine ⟨fun x hx => by rw [List.mem_singleton.mp hx]; exact nok.cn okc.low h4 okc.fol, by show 1 ≤ 2; decide, fun z => (nomatch z), A ++ (p, ⟨c.low, es, c.fol⟩) :: B, ?_, ?_⟩
    · show ChL (psAt ps N [(p, ⟨c.low, es, c.fol⟩)] 1) _
      rw [e1]
      exact write_one hch (ents_B hch.behind h.pl.b h2) a1 a2
    · rw [entsL_app, entsL_cons]
      exact ents_write hch okp h.pl.k h.pl.b h2
  | two e0 e1 e2 e3 m h1 h2 h3 h4 h5 =>
    have nok := new_ok okc h.k h.n h.pl.k h2 h3
    obtain ⟨c1, c2⟩ := new_two (m := (m : Int)) nok okc.low okc.fol ⟨by omega, by omega, by omega⟩
    have mne : ∀ x ∈ A ++ (p, c) :: B, x.1 ≠ m := fun x hx z => by
      have := hch.at x hx
      rw [z, h4.c] at this; cases this
    obtain ⟨a1, a2⟩ := after_at (n := m) (c := some ⟨e2.1, [e2, e3], c.fol⟩) hN.top h0
    have f1 : psAt ps N [(m, ⟨e2.1, [e2, e3], c.fol⟩), (p, ⟨c.low, [e0, e1], some (m : Int)⟩)] 1 = afterPg ps (N + 1) m (some ⟨e2.1, [e2, e3], c.fol⟩) := by
      show afterPg ps (N + ((0 : Nat) : Int) + 1) m _ = _
      rw [show N + ((0 : Nat) : Int) + 1 = N + 1 by omega]
    have top1 := after_top (n := m) (c := some ⟨e2.1, [e2, e3], c.fol⟩) hN.top h0
    obtain ⟨b1, b2⟩ := after_at (n := p) (c := some ⟨c.low, [e0, e1], some (m : Int)⟩) top1 (by omega)
    have f2 : psAt ps N [(m, ⟨e2.1, [e2, e3], c.fol⟩), (p, ⟨c.low, [e0, e1], some (m : Int)⟩)] 2 = afterPg (afterPg ps (N + 1) m (some ⟨e2.1, [e2, e3], c.fol⟩)) (N + 1 + 1) p (some ⟨c.low, [e0, e1], some (m : Int)⟩) := by
      show afterPg (psAt ps N _ 1) (N + ((1 : Nat) : Int) + 1) p _ = _
      rw [f1, show N + ((1 : Nat) : Int) + 1 = N + 1 + 1 by omega]
    have pm : p ≠ m := fun z => mne (p, c) (by simp) z
    refine ⟨fun x hx => ?_, Nat.le_refl _, fun _ => ?_, A ++ (p, ⟨c.low, [e0, e1], some (m : Int)⟩) :: (m, ⟨e2.1, [e2, e3], c.fol⟩) :: B, ?_, ?_⟩
    · simp only [List.mem_cons, List.not_mem_nil, or_false] at hx
      rcases hx with rfl | rfl
      · exact c1
      · exact c2
    · rw [f1]
      exact write_off hch fun x hx => a2 _ (mne x hx)
    · show ChL (psAt ps N _ 2) _
      rw [f2]
      exact write_two hch nok (ents_B hch.behind h.pl.b h2) mne b1 ((b2 m (Ne.symm pm)).trans a1) fun k hk1 hk2 => (b2 k hk1).trans (a2 k hk2)
    · rw [entsL_app, entsL_cons, entsL_cons]
      have := ents_write hch okp h.pl.k h.pl.b h2
      simpa using this
/-! ### tables -/
theorem put_cons {x : Key × Dt} {R : List (Key × Dt)} {k : Key} {d : Dt} (h : x.1 ≠ k) : putD (x :: R) k d = x :: putD R k d := by
  unfold putD
  have e : ((x :: R).any fun kv => decide (kv.1 = k)) = R.any fun kv => decide (kv.1 = k) := by rw [List.any_cons, decide_eq_false h, Bool.false_or]
  rw [e]
  split
  · rw [List.map_cons, if_neg h]
  · rfl
theorem put_tb {tb : List (Str × Int)} {key : Str} {n : Int} (nd : (tb.map (·.1)).Nodup) : ∃ tb' : List (Str × Int), putD (kvE tb) (.inr key) (.int n) = kvE tb' ∧ tb'.Perm (tb.filter (fun p => !decide (p.1 = key)) ++ [(key, n)]) := by
  induction tb with
  | nil => exact ⟨[(key, n)], rfl, List.Perm.refl _⟩
  | cons q r ih =>
    rw [List.map_cons, List.nodup_cons] at nd
    by_cases e : q.1 = key
    · have hr : ∀ x ∈ r, x.1 ≠ key := fun x hx z => nd.1 (by rw [e, ← z]; exact List.mem_map.mpr ⟨x, hx, rfl⟩)
      refine ⟨(key, n) :: r, ?_, ?_⟩
      · unfold putD kvE
        rw [if_pos (by simp [e])]
        rw [List.map_cons, List.map_cons, List.map_cons]
        congr 1
        · simp [e]
        · rw [List.map_map]
          refine List.map_congr_left fun x hx => ?_
          have := hr x hx
          simp [this]
      · rw [List.filter_cons_of_neg (by simp [e]), filter_all hr]
        exact List.perm_append_comm (l₁ := [(key, n)]) (l₂ := r)
    · obtain ⟨tb', h1, h2⟩ := ih nd.2
      refine ⟨q :: tb', ?_, ?_⟩
      · show putD (((.inr q.1 : Key), Dt.int q.2) :: kvE r) (.inr key) (.int n) = ((.inr q.1 : Key), Dt.int q.2) :: kvE tb'
        rw [put_cons (fun z => e (Sum.inr.inj z)), h1]
      · rw [List.filter_cons_of_pos (by simp [e])]
        exact h2.cons q
theorem drop_tb {tb : List (Str × Int)} {key : Str} : dropD (kvE tb) (.inr key) = kvE (tb.filter (fun p => !decide (p.1 = key))) := by
  unfold dropD kvE
  rw [List.filter_map]
  congr 1
  refine List.filter_congr fun x _ => ?_
  simp
theorem val_none {tb : List (Str × Int)} {key : Str} (h : valD (kvE tb) (.inr key) = none) : ∀ q ∈ tb, q.1 ≠ key := fun q hq z => by
  unfold valD kvE at h
  rw [Option.map_eq_none_iff, List.find?_eq_none] at h
  exact h _ (List.mem_map.mpr ⟨q, hq, rfl⟩) (by simp [z])
end E5
set_option Elab.async false
set_option linter.all false
set_option maxRecDepth 100000
set_option maxHeartbeats 4000000
/-! parts of tuples that have no dict; sorted(d); d.update(e); by data -/
namespace Y
open PySem PySem.Spec PyProof.Rows L2
section
variable {X : Cx}
def rSlTZ (K : PySem.W.Frag) : V → Option Int → Option Int → Hp → VK → Prop := fun x lo hi H Q => ∃ a xs, x = .ref a ∧ SqT K H a xs ∧ ¬(HT.sIx xs.length 0 lo = 0 ∧ HT.sIx xs.length xs.length hi = xs.length) ∧ ∀ p o, H p = none → o.dict = none → Q (.ref p) (upd H p (.frz o (.tup (cutV xs lo hi))))
theorem sl_tupZ : SlR X (rSlTZ X.K) := by
  intro pins s σ H x v vl vu lo hi sl Q I rx hs pl pu h
  obtain ⟨a, xs, rfl, hx, hw, q⟩ := h
  cases rx
  obtain ⟨its, r, ht, hz⟩ := I.tuple hx
  have hlen : its.toArray.size = xs.length := by rw [List.size_toArray]; exact r.length.symm
  refine ⟨"tuple", _, PyProof.Rows.slot_tuple_getitem.lookup, ht.typeIs, ?_⟩
  refine HT.getItem_tuple_cut ht hs pl pu (by rw [hlen]; exact hw) ?_ (by rw [hlen]; exact hz)
  rw [hlen]
  refine ⟨.ref s.heap.objs.size, _, I.laid (t' := s.toks) (o := .frz { cls := .type "tuple", data := .seq ((its.drop (HT.sIx xs.length 0 lo)).take (HT.sIx xs.length xs.length hi - HT.sIx xs.length 0 lo)).toArray } (.tup (cutV xs lo hi))) (fun b ob q => Heap.get?_push_of_some _ q) (Nat.le_refl _) ?_, rfl, q _ _ (I.hok.fresh (Nat.le_refl _)) rfl⟩
  exact ⟨Heap.get?_push_size _ rfl, Nat.le_trans (cutV_length xs lo hi) hz, _, (r.drop (HT.sIx xs.length 0 lo)).take (HT.sIx xs.length xs.length hi - HT.sIx xs.length 0 lo), IsTup.new _ _⟩
end
end Y
namespace Z
open PySem PySem.Spec PyProof.Rows L2 Evl Y
section
variable {X : Cx} {ρ : List Sl} {a b c : Expr} {Q : Dt → Prop} {p1 p2 pos q1 q2 : Pos}
/-- t[n:], 0 < n ≤ len -/
theorem d_drZ (h : DE X ρ a fun x => ∃ ds, x = .tz ds ∧ DE X ρ b fun y => ∃ n : Nat, y = .int (n : Int) ∧ 0 < n ∧ n ≤ ds.length ∧ Q (.tz (ds.drop n))) : DE X ρ (.Subscript a (.Slice (some b) none none p2) pos) Q :=
  ⟨fun H0 B σ H E => sem_of (pe_slice sl_tupZ pe_sem (po_some pe_sem) po_none) (h.go E fun B2 v d H2 g E2 r ⟨ds, ed, q⟩ => q.go E2 fun B3 w' d' H3 g3 E3 r3 ⟨n, en, n0, n1, q3⟩ => by
    subst ed en
    have r := r.ex g3.b
    cases r3
    cases r with
    | tz ha hx =>
      have hl := hx.len
      refine ⟨(n : Int), rfl, _, _, rfl, ex_t E3.ex ha.st, fun z => ?_, fun p o hp ho => ?_⟩
      · rw [show HT.sIx _ 0 (some (n : Int)) = min n _ from HT.sIx_nat _ 0 n] at z
        have := z.1
        omega
      · have q4 : Q (.tz (cutD ds (some (n : Int)) none)) := by rw [cutD_dr]; exact q3
        exact ⟨_, _, (g.trans g3).trans (Gr.new E3.ex hp), .tz ⟨o, upd_same, ho⟩ ((hx.cut (some (n : Int)) none).ex (Gr.new E3.ex hp).b), q4⟩)⟩
/-- t[:n], n < len -/
theorem d_tkZ (h : DE X ρ a fun x => ∃ ds, x = .tz ds ∧ DE X ρ b fun y => ∃ n : Nat, y = .int (n : Int) ∧ n < ds.length ∧ Q (.tz (ds.take n))) : DE X ρ (.Subscript a (.Slice none (some b) none p2) pos) Q :=
  ⟨fun H0 B σ H E => sem_of (pe_slice sl_tupZ pe_sem po_none (po_some pe_sem)) (h.go E fun B2 v d H2 g E2 r ⟨ds, ed, q⟩ => q.go E2 fun B3 w' d' H3 g3 E3 r3 ⟨n, en, n1, q3⟩ => by
    subst ed en
    have r := r.ex g3.b
    cases r3
    cases r with
    | tz ha hx =>
      have hl := hx.len
      refine ⟨(n : Int), rfl, _, _, rfl, ex_t E3.ex ha.st, fun z => ?_, fun p o hp ho => ?_⟩
      · rw [show HT.sIx _ _ (some (n : Int)) = min n _ from HT.sIx_nat _ _ n] at z
        have := z.2
        omega
      · have q4 : Q (.tz (cutD ds none (some (n : Int)))) := by rw [cutD_tk]; exact q3
        exact ⟨_, _, (g.trans g3).trans (Gr.new E3.ex hp), .tz ⟨o, upd_same, ho⟩ ((hx.cut none (some (n : Int))).ex (Gr.new E3.ex hp).b), q4⟩)⟩
theorem rpk_keys {K : PySem.W.Frag} {B : Hp} {ys : List (Key × V)} {ks : List (Str × Int)} (h : RpK K B ys (ks.map fun p => ((.inr p.1 : Key), Dt.int p.2))) : ys.map (·.1) = (ks.map (·.1)).map Sum.inr := by
  rw [rpk_ti h, List.map_map, List.map_map]; rfl
/-- sorted(d), the keys of a dict of texts and numbers -/
theorem n_sortD (hc : X.calm = true) (hg : Gl X "sorted") (hm : X.mg "sorted" = none) (h : DA X ρ a fun d => ∃ ks : List (Str × Int), d = .dic (ks.map fun p => ((.inr p.1 : Key), Dt.int p.2)) ∧ ks.length < 64 ∧ ∀ out : List Str, out.Perm (ks.map (·.1)) → sortedS out = true → Q (.lst (out.map Dt.str))) (hst : starEach [a] X.env = (false, eval a X.env) :: starEach [] X.env := by rfl) : DN X ρ (.Call (.Name "sorted" q1) [a] [] q2) Q :=
  ⟨fun H0 B σ H E => sem_of (pe_callB (call_sortedD hc) hg hm (by decide +kernel) (pa_cons pe_sem pa_nil hst) (he := hst)) (h.go E fun B2 v d H2 g E2 r ⟨ks, ed, few, q⟩ => by
    subst ed
    cases r with
    | dic ha hx =>
      refine ⟨_, _, ks.map (·.1), rfl, ha, rpk_keys hx, by rw [List.length_map]; exact few, fun ys p pm so hp => ?_⟩
      have hb := fresh_back E2.ex hp
      exact ⟨B2, p, .lst (ys.map Dt.str), ⟨g.b, g.h.trans (Ex.new hp), Ex.mut E2.ex hb, g.o⟩, rfl, fresh_back g.h hp, hb, ⟨_, upd_same, rpl_strs ys⟩, q ys pm so⟩)⟩
end
end Z
set_option Elab.async false
set_option linter.all false
set_option maxRecDepth 100000
set_option maxHeartbeats 4000000
/-! d.update(e), e of other keys; by data -/
namespace Z
open PySem PySem.Spec PyProof.Rows L2 Evl Y
theorem mt_updK {X : Cx} : MtR X "dict.update" (fun x xs H Q => ∃ (a b : Addr) (kvs more : List (Key × V)), x = .ref a ∧ xs = [.ref b] ∧ H a = some (.dK kvs) ∧ Rd H b (.dK more) ∧ a ≠ b ∧ kvs.length + more.length ≤ sizeLine ∧ Q .non (upd H a (.dK (mergeK kvs more)))) := by
  intro pins s σ H x xs v us Q I rx rxs h
  obtain ⟨a, b, kvs, more, rfl, rfl, ha, hb, hne, hl, q⟩ := h
  cases rx
  obtain ⟨u, rfl, r1⟩ := vals1 rxs
  cases r1
  obtain ⟨z, hd, vs, rel, dd⟩ := dk_of I.hok ha
  obtain ⟨z2, hd2, vs2, rel2, dd2⟩ := dk_rd I.hok hb
  refine call_meetsIn PySem.F.slot_dict_update dd.typeIs PySem.F.entry_dict_update (PySem.F.args_dict_update_2 _ _) (meets_dict_update (mixKind X.prog X.w) a b hne hd2) ⟨vs, vs2, dd, dd2, by rw [← rel.length, ← rel2.length]; exact hl, fun h' dd' _ hs => ?_⟩
  have he : ∃ q, h'.get? a = some q := let ⟨q, _, _, hq, _⟩ := dd'; ⟨q, hq⟩
  have hl2 : (mergeK kvs more).length ≤ sizeLine := Nat.le_trans (length_mergeK more kvs) hl
  show EP X pins σ Q .none _
  exact ⟨.non, _, d_write I (by rw [ha]; exact True.intro) hs he (dk_new hl2 hd (KV.merge rel2 rel) dd'), rfl, q⟩
theorem RpK.cat {K : PySem.W.Frag} {B : Hp} : ∀ {ys zs : List (Key × V)} {as bs : List (Key × Dt)}, RpK K B ys as → RpK K B zs bs → RpK K B (ys ++ zs) (as ++ bs)
  | _, _, _, _, .nil, h => h
  | _, _, _, _, .cons r t, h => .cons r (RpK.cat t h)
section
variable {X : Cx} {ρ : List Sl} {e : Expr} {px apos cpos : Pos} {x : Str}
theorem m_dupd (i : Nat) {kvs : List (Key × Dt)} {Q : Dt → List Sl → Prop} (hi : ρ[i]? = some (.ow (.dic kvs))) (h : DE X ρ e fun y => ∃ more, y = .dic more ∧ ((kvs ++ more).map (·.1)).Nodup ∧ kvs.length + more.length ≤ 100000 ∧ Q .non (ρ.set i (.ow (.dic (kvs ++ more)))))
    (hN : X.N[i]? = some x := by rfl) (hv : Vis X.env.scope x := by first | exact Or.inl rfl | exact Or.inr (Or.inl rfl) | exact Or.inr (Or.inr rfl)) (hd : (x == ("__debug__" : Str)) = false := by decide) (hcd : (x == ("__classdict__" : Str)) = false := by decide)
    (hbase : attributeBase (.Name x px) "update" X.env (eval (.Name x px) X.env) = eval (.Name x px) X.env := by rfl)
    (hfew : ((backTo cpos (starEach [e] X.env)).all (fun x => !x.1) && (backToKw cpos (keywordEach [] X.env)).all (fun x => x.1.isSome) && decide (([e] : List Expr).length + ([] : List Keyword).length + (if ([] : List Keyword).isEmpty then 0 else 1) < 30)) = true := by rfl)
    (hline : (apos.endLine == cpos.line) = true := by rfl) (hst : starEach [e] X.env = (false, eval e X.env) :: starEach [] X.env := by rfl) (hplain : (backTo cpos (starEach [] X.env)).any (·.1) = false := by rfl) :
    DM X ρ (.Call (.Attribute (.Name x px) "update" apos) [e] [] cpos) Q :=
  ⟨fun H0 B0 B σ H g En => by
    obtain ⟨p, hσ, hb, h0, ys, hp, rs⟩ := En.ow i _ hi
    refine sem_of (pe_bm PySem.F.plainAttrs_dict PySem.F.slot_dict_update PySem.F.type_dict_update mt_updK pe_sem (pa_cons pe_sem pa_nil hst) hbase hfew hline hst hplain) ?_
    refine EV.ev (ev_nm i hσ hN hv hd hcd) H (Ex.refl _) _ fun H1 e1 => ⟨.inr (.inr (.inl ⟨rfl, .inl ⟨ys, e1 _ _ hp⟩⟩)), h.go (En.more e1) fun B2 v d H2 g2 E2 r ⟨more, ed, nd, few, q⟩ => ?_⟩
    subst ed
    have hp2 : H2 p = some (.dK ys) := g2.h _ _ (e1 _ _ hp)
    have nb : B2 p = none := g2.o p _ (e1 _ _ hp) rfl hb
    have g3 := (g.trans (Gr.more g.s e1)).trans g2
    cases r with
    | dic ha hx =>
      rename_i b zs
      have hne : p ≠ b := by
        rintro rfl
        rcases ha with ha | ⟨o, ha⟩ <;> rw [nb] at ha <;> cases ha
      have k1 := rs.keys
      have k2 := hx.keys
      have l1 : ys.length = kvs.length := by have := congrArg List.length k1; simpa using this
      have l2 : zs.length = more.length := by have := congrArg List.length k2; simpa using this
      refine ⟨p, b, ys, zs, rfl, rfl, hp2, rd_mono ha E2.ex, hne, sz_of (by omega), ?_⟩
      rw [mergeK_new zs ys (by rw [List.map_append, k1, k2, ← List.map_append]; exact nd)]
      exact ⟨B2, .non, _, g3.mutO nb h0, E2.put (d' := .dic (kvs ++ more)) hi hσ ⟨_, upd_same, RpK.cat (rs.ex g2.b) hx⟩, .non, q⟩⟩
end
end Z
set_option Elab.async false
set_option linter.all false
set_option maxRecDepth 100000
set_option maxHeartbeats 8000000
/-! the law's worths, by data -/
namespace E5
open PySem PySem.Spec PyProof.Rows L2 Y Z
open Evl (Ex st_of sq_of ex_l ex_t fresh_back sz_of sz_lt)
section
variable {P : Program} {w : World} {K : PySem.W.Frag} {mg : Str → Option Value} {base : Heap}
def dWorths : List Dt → (Dt → Prop) → Prop := fun ds Q => ∃ (ps : List Pg) (L : List (Nat × Cn)), ds = [pgsD ps] ∧ ChA ps L ∧ Q (.dic (kvE (entsL L)))
theorem ownD_lworths (D : Def K mg "_law_worths" sl_worths) (OC : OwnD P w K mg base "_law_chain" ["_law_pages"] 1 dChain) (md : mg "dict" = none) : OwnD1 P w K mg base "_law_worths" ["_law_pages"] 2 dWorths := by
  refine ownD1 D cl_worths (fun ds Q Q' k ⟨a, b, h1, h2, q⟩ => ⟨a, b, h1, h2, k _ q⟩) (fun ds Q ⟨a, b, h, _⟩ => by subst h; rfl) (fun _ _ _ _ _ _ us hl => match us, hl with | [_], _ => rfl) ?_
  rintro X ds Q ⟨f, cdv, A0, outer, s0, H, E, rfl⟩ hr ⟨ps, L, rfl, h, q⟩
  have nd := cl_worths.nd
  have asc := h.ch.asc h.ok
  have ndE := asc_nodup asc
  have okL := h.ch.ok h.ok
  have hlen := h.ch.len
  have few := h.few
  have eCh := chain_of_L h.ch
  refine s_setO 1 (n_dict0 ?_) nd
  refine s_for PassesOwn.never rfl (g_nm 2 nd) <| i_lst <| d_own OC hr (by rfl) <| l_cons <| d_nm 0 rfl <| l_nil ⟨ps, rfl, h.ok, h.few, ?_⟩
  rw [eCh]
  dsimp only [chD, lstQ]
  rw [List.map_map]
  refine ⟨fun j ρ => ∃ x2, ρ = [.fr (pgsD ps), .ow (.dic (kvE (entsL (L.take j)))), x2], ⟨_, rfl⟩, ?_, ?_⟩
  · rintro j d ρ1 hd ⟨x2, rfl⟩
    rw [List.getElem?_map] at hd
    obtain ⟨⟨m, c⟩, hn, rfl⟩ := Option.map_eq_some_iff.mp hd
    have hc := h.ch.at _ (List.mem_of_getElem? hn)
    dsimp only at hc
    obtain ⟨z, hz⟩ := cAt_page hc
    have okc := cAt_ok h.ok hc
    have et : L.take (j + 1) = L.take j ++ [(m, c)] := by rw [List.take_add_one, hn]; rfl
    have ee : entsL (L.take (j + 1)) = entsL (L.take j) ++ c.ents := by
      rw [et, entsL_app, entsL_cons]
      show entsL (L.take j) ++ (c.ents ++ []) = _
      rw [List.append_nil]
    have eL : entsL L = entsL (L.take (j + 1)) ++ entsL (L.drop (j + 1)) := by rw [← entsL_app, List.take_append_drop]
    have nd1 : ((entsL (L.take j) ++ c.ents).map (·.1)).Nodup := by
      rw [eL, ee, List.map_append] at ndE
      exact (List.nodup_append.mp ndE).1
    have ekv : kvE (entsL (L.take j)) ++ kvE c.ents = kvE (entsL (L.take j) ++ c.ents) := by unfold kvE; rw [List.map_append]
    have l1 := ents_len (L := L.take j) fun x hx => okL x (List.mem_of_mem_take hx)
    have l2 := okc.few
    rw [List.length_take] at l1
    refine ⟨_, rfl, s_exprM <| m_dupd 1 rfl <| .ofN <| n_dictZ rfl (by rfl) md <| d_ix <| d_ix <| d_ix <| d_nm 0 rfl <| d_nm 2 rfl ⟨pgD (z, some c), atI_nat (by rw [List.getElem?_map, hz]; rfl), d_int ⟨_, atI_1, d_int ⟨_, atI_1, kvE c.ents, by unfold kvE; rw [List.map_map]; rfl, kvE_nodup (asc_nodup okc.asc), kvE c.ents, rfl, by rw [ekv]; exact kvE_nodup nd1, by unfold kvE; rw [List.length_map, List.length_map]; omega, ?_⟩⟩⟩⟩
    rw [ekv, ← ee]
    exact s_nil ⟨_, rfl⟩
  · rintro ρ1 ⟨x2, rfl⟩
    rw [List.length_map, List.take_length]
    exact s_retO 1 rfl q
end
end E5
set_option Elab.async false
set_option linter.all false
set_option maxRecDepth 100000
set_option maxHeartbeats 8000000
/-! pages made by writes, by data -/
namespace E5
open PySem PySem.Spec PyProof.Rows L2 Y Z
open Evl (Ex st_of sq_of ex_l ex_t fresh_back sz_of sz_lt)
section
variable {X : Cx} {ρ : List Sl} {Q : Dt → Prop} {p1 p2 p3 p4 p5 p6 p7 p8 : Pos} {k1 k2 k3 k4 k5 k6 k7 : Nat}
/-- the first pages, displayed -/
theorem d_ini (q : Q (pgsD iniPs)) :
    DE X ρ (.Tuple [.Tuple [.Constant (.int 0) k5 p5, .Tuple [.Constant (.str "") k6 p6, .Tuple [] k1 p1, .Constant .none k7 p7] k2 p2] k3 p3] k4 p4) Q :=
  d_tup <| l_cons <| d_tup <| l_cons <| d_int <| l_cons <| d_tup <| l_cons <| d_str <| l_cons <| d_tupZ <| l_nil ⟨Nat.zero_le _, l_cons <| d_non <| l_nil ⟨by show 3 ≤ 100000; decide, l_nil ⟨by show 2 ≤ 100000; decide, l_nil ⟨by show 1 ≤ 100000; decide, q⟩⟩⟩⟩
end
section
variable {P : Program} {w : World} {K : PySem.W.Frag} {mg : Str → Option Value} {base : Heap}
structure MadeO (P : Program) (w : World) (K : PySem.W.Frag) (mg : Str → Option Value) (base : Heap) : Prop where
  draw : OwnD P w K mg base "_law_draw" psDraw 1 (dDraw P w)
  pick : OwnD P w K mg base "_law_pick" psPick 2 (dPick P w)
  key : OwnD P w K mg base "_law_key" ["_law_deck"] 3 (dLKey P w)
  worth : OwnD P w K mg base "_law_worth" ["_law_deck"] 3 (dLWorth P w)
  lwr : OwnD P w K mg base "_law_writes" ["_law_pages", "_law_key_here", "_law_worth_here", "_law_reserved"] 3 dWrL
  lapp : OwnD P w K mg base "_law_applied" ["_law_pages", "_law_number", "_law_row"] 1 dLApp
  range : mg "range" = none
  tuple : mg "tuple" = none
  sorted : mg "sorted" = none
  set : mg "set" = none
def dMade (P : Program) (w : World) : List Dt → (Dt → Prop) → Prop := fun ds Q => ∃ (dk lf : Addr) (many : Nat), ds = [deckD P w dk lf, .int (many : Int)] ∧ many ≤ 30 ∧ ∀ ps L N, PsOk ps N → 0 ≤ N → N ≤ 60 → ChL ps L → Q (pgsD ps)
theorem ownD_made (D : Def K mg "_law_made_pages" sl_made_pages) (O : MadeO P w K mg base) : OwnD P w K mg base "_law_made_pages" ["_law_deck", "_law_many"] 4 (dMade P w) := by
  refine ownD D cl_made_pages (fun ds Q Q' k ⟨a, b, c, h1, h2, q⟩ => ⟨a, b, c, h1, h2, fun ps L N x1 x2 x3 x4 => k _ (q ps L N x1 x2 x3 x4)⟩) (fun ds Q ⟨a, b, c, h, _⟩ => by subst h; rfl) (fun _ _ _ _ _ _ us hl => match us, hl with | [_, _], _ => rfl) ?_
  rintro X ds Q ⟨f, cdv, A0, outer, s0, H, E, rfl⟩ hr ⟨dk, lf, many, rfl, hmany, q⟩
  have nd := cl_made_pages.nd
  refine s_asg (d_tup <| l_cons <| d_ini <| l_cons <| d_int <| l_nil ⟨by show 2 ≤ 100000; decide, _, rfl, ?_⟩) (g_tup2 2 3 rfl nd)
  refine s_set 4 (.ofN <| n_cat <| DN.w1 <| n_lc (own := [("_law_turn", 5)]) rfl nd (blkOk_by (N := nl_made_pages) (sc := defScope sl_made_pages) (by decide +kernel)) (gb_nm 5 (fun _ _ _ _ _ => pg_name (i := 5) nd rfl (Or.inl rfl))) (by simp) (i_rng (by rfl) O.range <| d_int ⟨⟨by decide, by decide⟩, ?_⟩)) nd
  refine ⟨by decide, fun t acc => ∃ ss : List Str, acc = ss.map Dt.str ∧ ss.length = t ∧ ∀ s ∈ ss, KeyS s, ⟨[], rfl, rfl, fun c h => nomatch h⟩, ?_, ?_⟩
  · rintro t d acc hd ⟨ss, rfl, hl, hc⟩
    refine ⟨_, rfl, fun s1 H' C cl fp => d_own O.key hr (by rfl) <| l_cons <| d_nm 0 rfl <| l_nil ⟨dk, lf, rfl, fun s hs => ⟨ss ++ [s], by simp, by simp [hl], fun x hx => ?_⟩⟩⟩
    rcases List.mem_append.mp hx with hx | hx
    · exact hc x hx
    · rw [List.mem_singleton.mp hx]; exact hs
  rintro acc _ ⟨ss, rfl, hl, hc⟩
  have hl : ss.length = 4 := hl
  refine DN.w1 <| n_lst <| l_cons <| d_str <| l_cons <| d_str <| l_cons <| d_str <| l_cons <| d_str <| l_cons <| d_str <| l_cons <| d_str <| l_cons <| d_str <| l_nil ⟨by show 7 ≤ 100000; decide, _, _, rfl, rfl, by rw [List.length_map, hl]; decide, ?_⟩
  obtain ⟨ks, hks⟩ : ∃ ks : List Str, ks = ss ++ (["a", "d", "h", "m", "q", "u", "y"] : List Str) := ⟨_, rfl⟩
  have eks : ss.map Dt.str ++ [Dt.str "a", .str "d", .str "h", .str "m", .str "q", .str "u", .str "y"] = ks.map Dt.str := by rw [hks, List.map_append]; rfl
  rw [eks]
  have kok : ∀ s ∈ ks, KeyS s := fun s hs => by
    rw [hks] at hs
    rcases List.mem_append.mp hs with h | h
    · exact hc s h
    · exact listKey (l := ["a", "d", "h", "m", "q", "u", "y"]) (by decide +kernel) s h
  have kl : (ks.map Dt.str).length = 11 := by rw [List.length_map, hks, List.length_append, hl]; rfl
  refine s_for PassesOwn.never rfl (g_nm 5 nd) <| i_rng (by rfl) O.range <| d_nm 1 rfl ⟨⟨by omega, by omega⟩, ?_⟩
  refine ⟨fun t ρ => ∃ (ps : List Pg) (N : Int) (L : List (Nat × Cn)) (x5 x6 x7 x8 x9 x10 : Sl), ρ = [.fr (deckD P w dk lf), .fr (.int (many : Int)), .fr (pgsD ps), .fr (.int N), .fr (.lst (ks.map Dt.str)), x5, x6, x7, x8, x9, x10] ∧ PsOk ps N ∧ 0 ≤ N ∧ N ≤ 2 * (t : Int) ∧ ChL ps L, ⟨iniPs, 0, [(0, ⟨"", [], none⟩)], _, _, _, _, _, _, rfl, ⟨ini_ok, fun p hp => by rw [List.mem_singleton.mp hp]; exact Int.le_refl _, by decide, by decide⟩, Int.le_refl _, Int.le_refl _, ⟨rfl, rfl, rfl, rfl⟩⟩, ?_, ?_⟩
  rotate_left
  · rintro ρ1 ⟨ps, N, L, x5, x6, x7, x8, x9, x10, rfl, hps, h0, h2, hch⟩
    rw [rngD_len, Int.toNat_natCast] at h2
    exact s_ret <| d_nm 2 rfl <| q ps L N hps h0 (by omega) hch
  rintro t d ρ1 hd ⟨ps, N, L, x5, x6, x7, x8, x9, x10, rfl, hps, hN0, hN2, hch⟩
  obtain ⟨rfl, ht⟩ := rng_at hd
  rw [Int.toNat_natCast] at ht
  rw [Int.zero_add]
  refine ⟨_, rfl, ?_⟩
  have hA0 : ChA ps L := ⟨hps.ok, Nat.le_trans hps.len (by decide), hch⟩
  -- pages that are reserved
  refine s_set 6 (d_tuple (by rfl) O.tuple <| .ofN <| n_sortSet rfl (by rfl) O.sorted (by rfl) O.set <| .ofN <| n_lc (own := [("_law_it", 7)]) rfl nd (blkOk_by (N := nl_made_pages) (sc := defScope sl_made_pages) (by decide +kernel)) (gb_nm 7 (fun _ _ _ _ _ => pg_name (i := 7) nd rfl (Or.inl rfl))) (by simp) (i_rng (by rfl) O.range <| d_own O.pick (hr.mono (by decide)) (by rfl) <| l_cons <| d_nm 0 rfl <| l_cons <| .ofN <| n_lst <| l_cons <| d_int <| l_cons <| d_int <| l_cons <| d_int <| l_cons <| d_int <| l_nil ⟨by show 4 ≤ 100000; decide, l_nil ⟨dk, lf, _, rfl, pick_l (by show 1 ≤ 4; decide) (by show 4 < 1000000; decide) fun d hd => ?_⟩⟩)) nd
  obtain ⟨z, rfl, hz⟩ : ∃ z : Nat, d = .int (z : Int) ∧ z ≤ 3 := by
    simp only [List.mem_cons, List.not_mem_nil, or_false] at hd
    rcases hd with rfl | rfl | rfl | rfl
    · exact ⟨0, rfl, by decide⟩
    · exact ⟨0, rfl, by decide⟩
    · exact ⟨1, rfl, by decide⟩
    · exact ⟨3, rfl, by decide⟩
  refine ⟨⟨by omega, by omega⟩, ?_⟩
  refine ⟨by rw [rngD_len]; omega, fun j acc => ∃ is : List Int, acc = is.map Dt.int ∧ is.length = j ∧ ∀ i ∈ is, 0 ≤ i ∧ i < 6, ⟨[], rfl, rfl, fun c h => nomatch h⟩, ?_, ?_⟩
  · rintro j d acc hd ⟨is, rfl, hl, hi⟩
    refine ⟨_, rfl, fun s1 H' C cl fp => d_own O.draw (hr.mono (by decide)) (by rfl) <| l_cons <| d_nm 0 rfl <| l_cons <| d_int <| l_nil ⟨dk, lf, 6, rfl, by decide, by decide, fun r r0 r1 => ⟨is ++ [r], by rw [List.map_append]; rfl, by rw [List.length_append, hl]; rfl, fun x hx => ?_⟩⟩⟩
    rcases List.mem_append.mp hx with hx | hx
    · exact hi x hx
    · rw [List.mem_singleton.mp hx]; exact ⟨r0, r1⟩
  rintro acc _ ⟨is, rfl, hil, hi⟩
  rw [rngD_len, Int.toNat_natCast] at hil
  refine ⟨is, rfl, by omega, fun out o1 o2 o3 => ?_⟩
  have hout : ∀ i ∈ out, 0 ≤ i ∧ i < 6 := fun i h => hi i ((o2 i).mp h)
  obtain ⟨rv, hrv⟩ : ∃ rv : List Nat, rv = out.map Int.toNat := ⟨_, rfl⟩
  have erv : out.map Dt.int = rv.map natD := by
    rw [hrv, List.map_map]
    refine List.map_congr_left fun i h => ?_
    show Dt.int i = .int (i.toNat : Int)
    rw [Int.toNat_of_nonneg (hout i h).1]
  have rvb : ∀ r ∈ rv, r ≤ 1000 := fun r h => by
    rw [hrv] at h
    obtain ⟨i, hi, rfl⟩ := List.mem_map.mp h
    have := hout i hi; omega
  have rva : rv.Pairwise (· < ·) := by
    rw [hrv, List.pairwise_map]
    refine List.Pairwise.imp_of_mem (fun {a b} ha hb h => ?_) o1
    have := hout a ha
    omega
  have rvl : rv.length ≤ 1000 := by rw [hrv, List.length_map]; omega
  rw [erv]
  -- the writes
  refine s_set 8 (d_own O.lwr hr (by rfl) <| l_cons <| d_nm 2 rfl <| l_cons <| d_own O.pick (hr.mono (by decide)) (by rfl) <| l_cons <| d_nm 0 rfl <| l_cons <| d_nm 4 rfl <| l_nil ⟨dk, lf, _, rfl, pick_l (by rw [kl]; decide) (by rw [kl]; decide) fun d hd => ?_⟩) nd
  obtain ⟨key, hkey, rfl⟩ := List.mem_map.mp hd
  have hk := kok key hkey
  obtain ⟨A, p, c, B, eL, hpl⟩ := hA0.pl key
  refine l_cons <| d_own O.worth hr (by rfl) <| l_cons <| d_nm 0 rfl <| l_nil ⟨dk, lf, rfl, fun wo hwo => l_cons <| d_nm 6 rfl <| l_nil ⟨ps, A, p, c, B, key, wo, rv, rfl, ⟨hpl, hk, hwo, rvl, rvb, rva⟩, fun ws hws => ?_⟩⟩
  obtain ⟨w1, w2, w3, L', w4, w5⟩ := writes_chain ⟨hpl, hk, hwo, rvl, rvb, rva⟩ hws hps hN0
  -- no page beyond the seventh
  refine s_when <| t_eq hr.units <| .ofN <| n_lct (own := [("_law_n", 9), ("_law_content", 10)]) rfl nd (blkOk_by (N := nl_made_pages) (sc := defScope sl_made_pages) (by decide +kernel)) (gb_tup2 9 10 (fun _ _ _ _ _ => pg_tup rfl (pgs_cons (pg_name (i := 9) nd rfl (Or.inl rfl)) (pgs_cons (pg_name (i := 10) nd rfl (Or.inl rfl)) pgs_nil)))) (by simp) (i_tup <| d_nm 8 rfl ?_)
  dsimp only [tuQ]
  refine ⟨by rw [List.length_map]; omega, fun j acc => ∃ z : Nat, z ≤ j ∧ acc = List.replicate z (Dt.int 1) ∧ decide (z = 0) = (ws.take j).all (fun x => decide (x.1 ≤ 7)), ⟨0, Nat.le_refl _, rfl, rfl⟩, ?_, ?_⟩
  · rintro j d acc hd ⟨z, hz, rfl, hb⟩
    rw [List.getElem?_map] at hd
    obtain ⟨⟨m, c'⟩, hp, rfl⟩ := Option.map_eq_some_iff.mp hd
    have et : ws.take (j + 1) = ws.take j ++ [(m, c')] := by rw [List.take_add_one, hp]; rfl
    refine ⟨_, rfl, fun s1 H' C cl2 fp => t_gt <| .of <| d_nm 9 rfl <| .of <| d_int ?_⟩
    refine (show _ ∧ _ from ⟨fun h3 => fun s2 H2 C2 cl3 fp2 => d_int ⟨z + 1, by omega, by rw [List.replicate_succ'], ?_⟩, fun h3 => ⟨z, by omega, rfl, ?_⟩⟩)
    · have h3 : (m : Int) > 7 := of_decide_eq_true h3
      rw [et, List.all_append]
      have : decide (m ≤ 7) = false := decide_eq_false (by omega)
      simp [this]
    · have h3 : ¬ (m : Int) > 7 := of_decide_eq_false h3
      rw [et, List.all_append, hb]
      have : decide (m ≤ 7) = true := decide_eq_true (by omega)
      simp [this]
  rintro acc _ ⟨z, hz, rfl, hb⟩
  rw [List.length_map] at hz hb
  rw [List.take_length] at hb
  refine .ofN <| n_lst <| l_nil ⟨Nat.zero_le _, ⟨by simp [isP, isPL_ones], by simp [isP, isPL], ones_shaped (by omega), by decide +kernel⟩, ?_⟩
  rw [eqv_ones, hb]
  refine (show _ ∧ _ from ⟨fun h7 => ?_, fun _ => s_nil ⟨ps, N, L, _, _, _, _, _, _, rfl, hps, hN0, by omega, hch⟩⟩)
  have h7 : ws.all (fun x => decide (x.1 ≤ 7)) = true := h7
  have h7 : ∀ x ∈ ws, x.1 ≤ 7 := fun x hx => of_decide_eq_true (List.all_eq_true.mp h7 x hx)
  have psj := psAt_ok hps hN0 (by omega) (fun x hx => ⟨w1 x hx, h7 x hx⟩) w2
  refine s_for PassesOwn.never rfl (g_tup2 9 10 rfl nd) <| i_tup <| d_nm 8 rfl ?_
  dsimp only [tuQ]
  refine ⟨fun j ρ => ∃ y9 y10 : Sl, ρ = [.fr (deckD P w dk lf), .fr (.int (many : Int)), .fr (pgsD (psAt ps N ws j)), .fr (.int (N + (j : Int))), .fr (.lst (ks.map Dt.str)), .fr (.int (t : Int)), .fr (rvD rv), x7, .fr (.tup (ws.map wrD)), y9, y10], ⟨_, _, by rw [show N + ((0 : Nat) : Int) = N by omega]; rfl⟩, ?_, ?_⟩
  · rintro j d1 ρ2 hd1 ⟨y9, y10, rfl⟩
    rw [List.getElem?_map] at hd1
    obtain ⟨⟨m, c'⟩, hwj, rfl⟩ := Option.map_eq_some_iff.mp hd1
    have hj := (List.getElem?_eq_some_iff.mp hwj).1
    have hm := List.mem_of_getElem? hwj
    have okj := psj j (by omega)
    have l8 := okj.len
    have m7 : m ≤ 7 := h7 _ hm
    have e : psAt ps N ws (j + 1) = afterRo (psAt ps N ws j) (N + (j : Int) + 1) (.page 0 m none (some c')) := by
      show (match ws[j]? with | some (n, c) => _ | none => _) = _
      rw [hwj]; rfl
    have pos : (1 : Int) ≤ N + (j : Int) + 1 := by omega
    refine ⟨_, rfl, ?_⟩
    refine s_set 3 (d_add <| d_nm 3 rfl <| d_int ?_) nd
    refine s_set 2 (d_own O.lapp (hr.mono (by decide)) (by rfl) <| l_cons <| d_nm 2 rfl <| l_cons <| d_nm 3 rfl <| l_cons <| d_tup <| l_cons <| d_str <| l_cons <| d_int <| l_cons <| d_nm 9 rfl <| l_cons <| d_non <| l_cons <| d_nm 10 rfl <| l_nil ⟨by show 5 ≤ 100000; decide, l_nil ⟨psAt ps N ws j, N + (j : Int) + 1, .page 0 m none (some c'), rfl, by omega, by show m ≤ 100; omega, pos, ?_⟩⟩) nd
    rw [← e]
    exact s_nil ⟨_, _, by rw [show N + ((j + 1 : Nat) : Int) = N + (j : Int) + 1 by omega]; rfl⟩
  rintro ρ2 ⟨y9, y10, rfl⟩
  rw [List.length_map]
  have okE := psj ws.length (Nat.le_refl _)
  exact s_nil (s_nil ⟨psAt ps N ws ws.length, N + (ws.length : Int), L', _, _, _, _, _, _, rfl, okE, by omega, by omega, w4⟩)
end
end E5
set_option Elab.async false
set_option linter.all false
set_option maxRecDepth 100000
set_option maxHeartbeats 8000000
/-! pages with strays, by data -/
namespace E5
open PySem PySem.Spec PyProof.Rows L2 Y Z
open Evl (Ex st_of sq_of ex_l ex_t fresh_back sz_of sz_lt)
/-- entries of a stray -/
def stray (es : List (Str × Int)) : List (Str × Int) := es.map fun q => (q.1, if q.2 > 5 then q.2 else 7)
theorem stray_ok {c : Cn} (ok : CnOk c) {fo : Option Int} (hf : ∀ n, fo = some n → 0 ≤ n ∧ Num n) : CnOk ⟨c.low, stray c.ents, fo⟩ := by
  refine ⟨ok.low, fun p hp => ?_, by unfold stray; rw [List.length_map]; exact ok.few, ?_, hf⟩
  · obtain ⟨q, hq, rfl⟩ := List.mem_map.mp hp
    have := ok.ents q hq
    refine ⟨this.1, ?_, ?_, this.2.2.2⟩
    · show (if q.2 > 5 then q.2 else 7) ≠ 0
      split <;> omega
    · show Num (if q.2 > 5 then q.2 else 7)
      split
      · exact this.2.2.1
      · decide
  · have : (stray c.ents).map (·.1) = c.ents.map (·.1) := by unfold stray; rw [List.map_map]; rfl
    rw [this]; exact ok.asc
theorem cAt_set {qs : List Pg} {n m : Nat} {p : Pg} (h : m ≠ n) : cAt (qs.set n p) m = cAt qs m := by
  unfold cAt
  rw [List.getElem?_set_ne (Ne.symm h)]
theorem cAt_app {qs : List Pg} {p : Pg} {m : Nat} (h : m < qs.length) : cAt (qs ++ [p]) m = cAt qs m := by
  unfold cAt
  rw [List.getElem?_append_left h]
theorem ints_can : ∀ l : List Int, PyData.canLayAll0 (toPL (l.map Dt.int)) = true ∧ PyData.depthAll (toPL (l.map Dt.int)) = 0
  | [] => ⟨rfl, rfl⟩
  | n :: r => by
    rw [List.map_cons]
    have h := ints_can r
    refine ⟨?_, ?_⟩
    · show (PyData.canLay0 (.int n) && _) = true
      rw [h.1]; rfl
    · show max (PyData.depth (.int n)) _ = 0
      rw [h.2]; rfl
theorem ints_shaped (l : List Int) : SeqAt.shaped (toP (.lst (l.map Dt.int))) = true := by
  have h := ints_can l
  show (PyData.canLayAll0 (toPL (l.map Dt.int)) && decide (PyData.depthAll (toPL (l.map Dt.int)) + 1 ≤ 64)) = true
  rw [h.1, h.2]; rfl
theorem nats_shaped (l : List Nat) : SeqAt.shaped (toP (.lst (l.map natD))) = true := by
  have e : l.map natD = (l.map fun n : Nat => (n : Int)).map Dt.int := by rw [List.map_map]; rfl
  rw [e]; exact ints_shaped _
theorem eqv_nats (l : List Nat) : PyData.eqv (toP (.lst (l.map natD))) (toP (.lst [])) = l.isEmpty := by
  cases l with
  | nil => decide +kernel
  | cons n l =>
    rw [List.map_cons, toP_lst, toP_lst, toPL_cons, toPL_nil]
    simp [PyData.eqv, PyData.eqvAll]
section
variable {P : Program} {w : World} {K : PySem.W.Frag} {mg : Str → Option Value} {base : Heap}
def dStray (P : Program) (w : World) : List Dt → (Dt → Prop) → Prop := fun ds Q => ∃ (dk lf : Addr) (ps : List Pg) (L : List (Nat × Cn)), ds = [deckD P w dk lf, pgsD ps] ∧ (∀ p ∈ ps, PgOk p) ∧ ps.length ≤ 8 ∧ ChL ps L ∧ ∀ qs, (∀ p ∈ qs, PgOk p) → qs.length ≤ 8 → ChL qs L → Q (pgsD qs)
theorem ownD_stray (D : Def K mg "_law_with_strays" sl_with_strays) (OD : OwnD P w K mg base "_law_draw" psDraw 1 (dDraw P w)) (OP : OwnD P w K mg base "_law_pick" psPick 2 (dPick P w)) (mr : mg "range" = none) (ml : mg "len" = none) (mt : mg "tuple" = none) (mi : mg "list" = none) : OwnD P w K mg base "_law_with_strays" ["_law_deck", "_law_pages"] 3 (dStray P w) := by
  refine ownD D cl_with_strays (fun ds Q Q' k ⟨a, b, c, d, h1, h2, h3, h4, q⟩ => ⟨a, b, c, d, h1, h2, h3, h4, fun qs x1 x2 x3 => k _ (q qs x1 x2 x3)⟩) (fun ds Q ⟨a, b, c, d, h, _⟩ => by subst h; rfl) (fun _ _ _ _ _ _ us hl => match us, hl with | [_, _], _ => rfl) ?_
  rintro X ds Q ⟨f, cdv, A0, outer, s0, H, E, rfl⟩ hr ⟨dk, lf, ps, L, rfl, okp, few, hch0, q⟩
  have nd := cl_with_strays.nd
  refine s_setO 2 (n_list (by rfl) mi <| d_nm 1 rfl ⟨_, .inr rfl, ?_⟩) nd
  refine s_for PassesOwn.never rfl (g_nm 3 nd) <| i_rng (by rfl) mr <| d_own OD (hr.mono (by decide)) (by rfl) <| l_cons <| d_nm 0 rfl <| l_cons <| d_int <| l_nil ⟨dk, lf, 3, rfl, by decide, by decide, fun z z0 z1 => ⟨⟨by omega, by omega⟩, ?_⟩⟩
  refine ⟨fun t ρ => ∃ (qs : List Pg) (x3 x4 x5 x6 x7 x8 x9 x10 x11 x12 : Sl), ρ = [.fr (deckD P w dk lf), .fr (pgsD ps), .ow (.lst (qs.map pgD)), x3, x4, x5, x6, x7, x8, x9, x10, x11, x12] ∧ (∀ p ∈ qs, PgOk p) ∧ qs.length ≤ 8 ∧ ChL qs L, ⟨ps, _, _, _, _, _, _, _, _, _, _, rfl, okp, few, hch0⟩, ?_, ?_⟩
  rotate_left
  · rintro ρ1 ⟨qs, x3, x4, x5, x6, x7, x8, x9, x10, x11, x12, rfl, ok, l8, hch⟩
    exact s_ret <| d_tupleA (by rfl) mt <| d_nmO 2 rfl ⟨imm_pgs _, q qs ok l8 hch⟩
  rintro t d ρ1 hd ⟨qs, x3, x4, x5, x6, x7, x8, x9, x10, x11, x12, rfl, ok, l8, hch⟩
  refine ⟨_, rfl, ?_⟩
  -- the pages that are free
  refine s_setLct (own := [("_law_n", 5)]) 4 rfl nd (blkOk_by (N := nl_with_strays) (sc := defScope sl_with_strays) (by decide +kernel)) (gb_nm 5 (fun _ _ _ _ _ => pg_name (i := 5) nd rfl (Or.inl rfl))) (by simp) (i_rng (by rfl) mr <| d_len (by rfl) ml <| d_nmO 2 rfl ⟨by rw [List.length_map]; omega, ?_⟩)
  refine ⟨by rw [rngD_len, Int.toNat_natCast, List.length_map]; omega, fun j acc => ∃ fs : List Nat, acc = fs.map natD ∧ ∀ n ∈ fs, n < qs.length ∧ cAt qs n = none, ⟨[], rfl, fun n h => nomatch h⟩, ?_, ?_⟩
  · rintro j d acc hd ⟨fs, rfl, hf⟩
    obtain ⟨rfl, hj⟩ := rng_at hd
    rw [Int.toNat_natCast, List.length_map] at hj
    rw [Int.zero_add]
    have ej : cAt qs j = qs[j].2 := by unfold cAt; rw [List.getElem?_eq_getElem hj]; rfl
    refine ⟨_, rfl, fun s1 H' C cl2 fp => t_isN <| .of <| d_ix <| d_ixA <| d_nmO 2 rfl <| d_nm 5 rfl ⟨pgD qs[j], atI_nat (by rw [List.getElem?_map, List.getElem?_eq_getElem hj]; rfl), by simp [imm, immL, imm_cn], d_int ⟨_, atI_1, ?_⟩⟩⟩
    refine (show _ ∧ _ from ⟨fun h3 => fun s2 H2 C2 cl3 fp2 => d_nm 5 rfl ⟨fs ++ [j], by rw [List.map_append]; rfl, fun n hn => ?_⟩, fun h3 => ⟨fs, rfl, hf⟩⟩)
    rcases List.mem_append.mp hn with hn | hn
    · exact hf n hn
    · rw [List.mem_singleton.mp hn, ej]
      refine ⟨hj, ?_⟩
      have h3 : Z.isNon (cnD qs[j].2) = true := h3
      cases hc : qs[j].2 with
      | none => rfl
      | some c => rw [hc] at h3; cases h3
  rintro acc _ ⟨fs, rfl, hf⟩
  refine s_freeze 4 rfl ?_
  -- a content
  refine s_asg (d_own OP hr (by rfl) <| l_cons <| d_nm 0 rfl <| l_cons <| .ofN <| n_lookL <| n_lct (own := [("_law_last", 9), ("_law_content", 10)]) rfl nd (blkOk_by (N := nl_with_strays) (sc := defScope sl_with_strays) (by decide +kernel)) (gb_tup2 9 10 (fun _ _ _ _ _ => pg_tup rfl (pgs_cons (pg_name (i := 9) nd rfl (Or.inl rfl)) (pgs_cons (pg_name (i := 10) nd rfl (Or.inl rfl)) pgs_nil)))) (by simp) (i_lst <| d_nm 2 rfl ?_)) (g_tup3 6 7 8 rfl nd)
  dsimp only [lstQ]
  refine ⟨by rw [List.length_map]; omega, fun j acc => ∃ cs : List Cn, acc = cs.map (fun c => cnD (some c)) ∧ (∀ c ∈ cs, CnOk c) ∧ cs.length ≤ j ∧ ∀ i, i < j → cAt qs i ≠ none → cs ≠ [], ⟨[], rfl, (fun n h => nomatch h), Nat.le_refl _, fun i h => by omega⟩, ?_, ?_⟩
  · rintro j d acc hd ⟨cs, rfl, hcs, hcl, hne⟩
    rw [List.getElem?_map] at hd
    obtain ⟨⟨m, o⟩, hp, rfl⟩ := Option.map_eq_some_iff.mp hd
    have ej : cAt qs j = o := by unfold cAt; rw [hp]; rfl
    have okq := ok _ (List.mem_of_getElem? hp)
    refine ⟨_, rfl, fun s1 H' C cl2 fp => t_notN <| .of <| d_nm 10 rfl ?_⟩
    cases o with
    | none =>
      refine (show _ ∧ _ from ⟨fun h3 => (by cases h3), fun h3 => ⟨cs, rfl, hcs, by omega, fun i hi hc => hne i ?_ hc⟩⟩)
      by_cases z : i = j
      · rw [z, ej] at hc; exact absurd rfl hc
      · omega
    | some c =>
      refine (show _ ∧ _ from ⟨fun h3 => fun s2 H2 C2 cl3 fp2 => d_nm 10 rfl ⟨cs ++ [c], by rw [List.map_append]; rfl, fun x hx => ?_, by rw [List.length_append]; show cs.length + 1 ≤ j + 1; omega, fun _ _ _ => by simp⟩, fun h3 => by cases h3⟩)
      rcases List.mem_append.mp hx with hx | hx
      · exact hcs x hx
      · rw [List.mem_singleton.mp hx]; exact okq.c c rfl
  rintro acc _ ⟨cs, rfl, hcs, hcl, hne⟩
  rw [List.length_map] at hcl hne
  have h0 : cAt qs 0 ≠ none := by
    match L, hch with
    | (n, c) :: r, ⟨_, h2, _⟩ => rw [h2]; exact fun z => nomatch z
  have hpos := hne 0 (by
    cases hq : cAt qs 0 with
    | none => exact absurd hq h0
    | some c => exact cAt_lt hq) h0
  have immC : ∀ l : List Cn, immL (l.map fun c => cnD (some c)) = true := fun l => by
    induction l with
    | nil => simp [immL]
    | cons c l ih => rw [List.map_cons]; simp only [immL, Bool.and_eq_true]; exact ⟨imm_cn _, ih⟩
  refine ⟨_, rfl, immC cs, l_nil ⟨dk, lf, _, rfl, pick_l (by rw [List.length_map]; exact List.length_pos_iff.mpr hpos) (by rw [List.length_map]; omega) fun d hd => ?_⟩⟩
  obtain ⟨c, hc, rfl⟩ := List.mem_map.mp hd
  have okc := hcs c hc
  refine ⟨_, rfl, ?_⟩
  refine s_set 7 (d_tupleZ (by rfl) mt <| .ofN <| n_lc (own := [("_law_key_here", 11), ("_law_worth_here", 12)]) rfl nd (blkOk_by (N := nl_with_strays) (sc := defScope sl_with_strays) (by decide +kernel)) (gb_tup2 11 12 (fun _ _ _ _ _ => pg_tup rfl (pgs_cons (pg_name (i := 11) nd rfl (Or.inl rfl)) (pgs_cons (pg_name (i := 12) nd rfl (Or.inl rfl)) pgs_nil)))) (by simp) (i_tup <| d_dz <| d_nm 7 rfl ⟨_, rfl, ?_⟩)) nd
  dsimp only [tuQ]
  have fe := okc.few
  refine ⟨by rw [List.length_map]; omega, fun j acc => acc = (stray (c.ents.take j)).map entD, rfl, ?_, ?_⟩
  · rintro j d acc hd rfl
    rw [List.getElem?_map] at hd
    obtain ⟨pr, hpr, rfl⟩ := Option.map_eq_some_iff.mp hd
    have et : c.ents.take (j + 1) = c.ents.take j ++ [pr] := by rw [List.take_add_one, hpr]; rfl
    have goal : ∀ x : Int, x = (if pr.2 > 5 then pr.2 else 7) → (stray (c.ents.take j)).map entD ++ [Dt.tup [.str pr.1, .int x]] = (stray (c.ents.take (j + 1))).map entD := fun x hx => by
      rw [et, hx]; unfold stray; rw [List.map_append, List.map_append]; rfl
    refine ⟨_, rfl, fun s1 H' C cl2 fp => d_tup <| l_cons <| d_nm 11 rfl <| l_cons <| d_if <| t_gt <| .of <| d_nm 12 rfl <| .of <| d_int ⟨fun h3 => d_nm 12 rfl <| l_nil ⟨by show 2 ≤ 100000; decide, goal _ (by rw [if_pos (show pr.2 > 5 from of_decide_eq_true h3)])⟩, fun h3 => d_int <| l_nil ⟨by show 2 ≤ 100000; decide, goal _ (by rw [if_neg (show ¬ pr.2 > 5 from of_decide_eq_false h3)])⟩⟩⟩
  rintro acc _ rfl
  rw [List.length_map, List.take_length]
  refine ⟨_, rfl, ?_⟩
  refine s_set 10 (d_tup <| l_cons <| d_nm 6 rfl <| l_cons <| d_nm 7 rfl <| l_cons <| d_own OP hr (by rfl) <| l_cons <| d_nm 0 rfl <| l_cons <| .ofN <| n_lst <| l_cons <| d_nm 8 rfl <| l_cons <| d_non <| l_cons <| d_int <| l_cons <| d_int <| l_cons <| d_int <| l_nil ⟨by show 5 ≤ 100000; decide, l_nil ⟨dk, lf, _, rfl, pick_l (by show 1 ≤ 5; decide) (by show 5 < 1000000; decide) fun d hd => ?_⟩⟩) nd
  obtain ⟨fo, rfl, hfo⟩ : ∃ fo : Option Int, d = foD fo ∧ ∀ n, fo = some n → 0 ≤ n ∧ Num n := by
    simp only [List.mem_cons, List.not_mem_nil, or_false] at hd
    rcases hd with rfl | rfl | rfl | rfl | rfl
    · exact ⟨c.fol, rfl, okc.fol⟩
    · exact ⟨none, rfl, fun n h => nomatch h⟩
    · exact ⟨some 0, rfl, fun n h => by cases h; decide⟩
    · exact ⟨some 1, rfl, fun n h => by cases h; decide⟩
    · exact ⟨some 99, rfl, fun n h => by cases h; decide⟩
  refine l_nil ⟨by show 3 ≤ 100000; decide, ?_⟩
  have okS : OCn (some ⟨c.low, stray c.ents, fo⟩) := fun d h => by cases h; exact stray_ok okc hfo
  have inL : ∀ x ∈ L, cAt qs x.1 ≠ none := fun x hx => by rw [hch.at x hx]; exact fun z => nomatch z
  -- where it is laid
  have isF : isP (.lst (fs.map natD)) = true := by
    have : ∀ l : List Nat, isPL (l.map natD) = true := fun l => by
      induction l with
      | nil => simp [isPL]
      | cons n l ih => rw [List.map_cons]; simp [isPL, isP, ih]
    simp [isP, this]
  refine s_if <| t_ne hr.units <| .of <| d_nm 4 rfl <| .ofN <| n_lst <| l_nil ⟨Nat.zero_le _, ⟨isF, by simp [isP, isPL], nats_shaped fs, by decide +kernel⟩, ?_⟩
  rw [eqv_nats]
  refine (show _ ∧ _ from ⟨fun h => ?_, fun h => ?_⟩)
  · have h : (!fs.isEmpty) = true := h
    obtain ⟨f0, fr, rfl⟩ : ∃ f0 fr, fs = f0 :: fr := by
      cases fs with
      | nil => cases h
      | cons a r => exact ⟨a, r, rfl⟩
    obtain ⟨hf1, hf2⟩ := hf f0 List.mem_cons_self
    refine s_lput 2 rfl <| d_tup <| l_cons <| d_own OD (hr.mono (by decide)) (by rfl) <| l_cons <| d_nm 0 rfl <| l_cons <| d_int <| l_nil ⟨dk, lf, 9, rfl, by decide, by decide, fun r r0 r1 => l_cons <| d_nm 10 rfl <| l_nil ⟨by show 2 ≤ 100000; decide, d_ix <| d_nm 4 rfl <| d_int ⟨natD f0, atI_0, (f0 : Int), f0, rfl, ?_, ?_⟩⟩⟩
    · rw [List.length_map]
      unfold ixN
      rw [if_pos (by omega)]
      simp; omega
    have e : (qs.map pgD).set f0 (.tup [.int r, .tup [.str c.low, .tz ((stray c.ents).map entD), foD fo]]) = (qs.set f0 ((r, some (⟨c.low, stray c.ents, fo⟩ : Cn)) : Pg)).map pgD := by rw [List.map_set]
    rw [e]
    refine s_nil (s_nil ⟨_, _, _, _, _, _, _, _, _, _, _, rfl, fun p hp => ?_, by rw [List.length_set]; exact l8, write_off hch fun x hx => cAt_set fun z => inL x hx (by rw [z]; exact hf2)⟩)
    rcases List.mem_or_eq_of_mem_set hp with hp | rfl
    · exact ok p hp
    · exact ⟨r0, ⟨by omega, by omega⟩, okS⟩
  · refine s_when <| t_lt <| .of <| d_len (by rfl) ml <| d_nmO 2 rfl <| .of <| d_int ?_
    refine (show _ ∧ _ from ⟨fun h8 => ?_, fun _ => s_nil (s_nil ⟨qs, _, _, _, _, _, _, _, _, _, _, rfl, ok, l8, hch⟩)⟩)
    have h8 : ((qs.map pgD).length : Int) < 8 := of_decide_eq_true h8
    rw [List.length_map] at h8
    refine s_append 2 rfl <| d_tup <| l_cons <| d_own OD (hr.mono (by decide)) (by rfl) <| l_cons <| d_nm 0 rfl <| l_cons <| d_int <| l_nil ⟨dk, lf, 9, rfl, by decide, by decide, fun r r0 r1 => l_cons <| d_nm 10 rfl <| l_nil ⟨by show 2 ≤ 100000; decide, by rw [List.length_map]; omega, ?_⟩⟩
    have e : qs.map pgD ++ [Dt.tup [.int r, .tup [.str c.low, .tz ((stray c.ents).map entD), foD fo]]] = (qs ++ [((r, some (⟨c.low, stray c.ents, fo⟩ : Cn)) : Pg)]).map pgD := by rw [List.map_append]; rfl
    rw [e]
    refine s_nil (s_nil (s_nil ⟨_, _, _, _, _, _, _, _, _, _, _, rfl, fun p hp => ?_, by rw [List.length_append]; show qs.length + 1 ≤ 8; omega, write_off hch fun x hx => cAt_app (cAt_lt (hch.at x hx))⟩))
    rcases List.mem_append.mp hp with hp | hp
    · exact ok p hp
    · rw [List.mem_singleton.mp hp]; exact ⟨r0, ⟨by show -(10 ^ 30) ≤ r; omega, by show r ≤ 10 ^ 30; omega⟩, okS⟩
end
end E5
set_option Elab.async false
set_option linter.all false
set_option maxRecDepth 100000
set_option maxHeartbeats 16000000
/-! the law: places and worths by chains -/
namespace E5
open PySem PySem.Spec PyProof.Rows L2 Y Z
open Evl (Ex st_of sq_of ex_l ex_t fresh_back sz_of sz_lt)
theorem isP_ent2 (es : List (Str × Int)) (b : Bool) : isP (.tup [.tup (es.map entD), .bl b]) = true := by simp [isP, isPL, isPL_ent]
theorem sh_ents {es : List (Str × Int)} (h : ∀ p ∈ es, KeyS p.1 ∧ Num p.2) (hl : es.length ≤ 24) : Sh (toP (.tup (es.map entD))) 2 9915 := (Sh.tups (fun p hp => sh_ent (h p hp).1 (h p hp).2) hl).mono (by decide) (by decide)
theorem sh_bl (b : Bool) : Sh (toP (.bl b)) 0 42 := by cases b <;> exact ⟨by decide +kernel, by decide +kernel, by decide +kernel, by decide +kernel, by decide +kernel⟩
theorem sh_eb {es : List (Str × Int)} {b : Bool} (h : ∀ p ∈ es, KeyS p.1 ∧ Num p.2) (hl : es.length ≤ 24) : Sh (toP (.tup [.tup (es.map entD), .bl b])) 3 19837 := by
  refine (Sh.of (a := 2) (b := 9915) (n := 2) (fun x hx => ?_) (Nat.le_refl _)).mono (by decide) (by decide)
  simp only [List.mem_cons, List.not_mem_nil, or_false] at hx
  rcases hx with rfl | rfl
  · exact sh_ents h hl
  · exact (sh_bl b).mono (by decide) (by decide)
theorem sh_ii {a b : Int} (h : Num a) (g : Num b) : Sh (toP (.tup [.int a, .int b])) 1 91 := by
  refine (Sh.of (a := 0) (b := 42) (n := 2) (fun x hx => ?_) (Nat.le_refl _)).mono (by decide) (by decide)
  simp only [List.mem_cons, List.not_mem_nil, or_false] at hx
  rcases hx with rfl | rfl
  · exact sh_i h (by decide)
  · exact sh_i g (by decide)
theorem ents_ok {ps : List Pg} {L : List (Nat × Cn)} (h : ChL ps L) (ok : ∀ p ∈ ps, PgOk p) : ∀ p ∈ entsL L, KeyS p.1 ∧ Num p.2 := fun p hp => by
  obtain ⟨x, hx, hp⟩ := entsL_mem hp
  have := (h.ok ok x hx).ents p hp
  exact ⟨this.1, this.2.2.1⟩
theorem w_num {es : List (Str × Int)} {key : Str} (h : ∀ p ∈ es, KeyS p.1 ∧ Num p.2) : Num (wOf es key) := by
  rcases w_find (key := key) (es := es) with ⟨n, h1, h2⟩ | ⟨_, h2⟩
  · rw [h2]; exact (h _ h1).2
  · rw [h2]; decide
section
variable {P : Program} {w : World} {K : PySem.W.Frag} {mg : Str → Option Value} {base : Heap}
theorem ownB_plof (D : Def K mg "place_of" sp_place_of) (OC : OwnD P w K mg base "check_chained" ["pages"] 7 dChk) (OK : OwnD P w K mg base "check_key" ["key"] 2 dCkKey) (OP : OwnD P w K mg base "place_in" ["pages", "key"] 3 dPlIn) :
    OwnD P w K mg base "place_of" ["pages", "key"] 8 dPlOf ∧ OwnDK P w K mg base "place_of" ["pages", "key"] ["key", "pages"] [1, 0] 8 dPlOf := by
  refine ownDB D cp_place_of (fun ds Q Q' k ⟨a, b, c, d, e, f, h1, h2, h3, q⟩ => ⟨a, b, c, d, e, f, h1, h2, h3, k _ q⟩) (fun ds Q ⟨a, b, c, d, e, f, h, _⟩ => by subst h; rfl) (fun _ _ _ _ _ _ us hl => match us, hl with | [_, _], _ => rfl) (fun _ _ _ _ _ _ us hl => match us, hl with | [_, _], _ => rfl) ?_
  rintro X ds Q ⟨f, cdv, A0, outer, s0, H, E, rfl⟩ hr ⟨ps, A, p, c, B, key, rfl, h, hk, q⟩
  refine s_expr <| .of <| d_own OC hr (by rfl) <| l_cons <| d_nm 0 rfl <| l_nil ⟨ps, _, rfl, h.ch, ?_⟩
  refine s_expr <| .of <| d_own OK (hr.mono (by decide)) (by rfl) <| l_cons <| d_nm 1 rfl <| l_nil ⟨key, rfl, hk, ?_⟩
  exact s_ret <| d_own OP (hr.mono (by decide)) (by rfl) <| l_cons <| d_nm 0 rfl <| l_cons <| d_nm 1 rfl <| l_nil ⟨ps, A, p, c, B, key, rfl, h, q⟩
theorem ownB_woof (D : Def K mg "worth_of" sp_worth_of) (OC : OwnD P w K mg base "check_chained" ["pages"] 7 dChk) (OK : OwnD P w K mg base "check_key" ["key"] 2 dCkKey) (OW : OwnD P w K mg base "worth_in" ["pages", "key"] 4 dWoIn) :
    OwnD P w K mg base "worth_of" ["pages", "key"] 8 dWoOf ∧ OwnDK P w K mg base "worth_of" ["pages", "key"] ["key", "pages"] [1, 0] 8 dWoOf := by
  refine ownDB D cp_worth_of (fun ds Q Q' k ⟨a, b, c, h1, h2, h3, q⟩ => ⟨a, b, c, h1, h2, h3, k _ q⟩) (fun ds Q ⟨a, b, c, h, _⟩ => by subst h; rfl) (fun _ _ _ _ _ _ us hl => match us, hl with | [_, _], _ => rfl) (fun _ _ _ _ _ _ us hl => match us, hl with | [_, _], _ => rfl) ?_
  rintro X ds Q ⟨f, cdv, A0, outer, s0, H, E, rfl⟩ hr ⟨ps, L, key, rfl, h, hk, q⟩
  refine s_expr <| .of <| d_own OC hr (by rfl) <| l_cons <| d_nm 0 rfl <| l_nil ⟨ps, _, rfl, h, ?_⟩
  refine s_expr <| .of <| d_own OK (hr.mono (by decide)) (by rfl) <| l_cons <| d_nm 1 rfl <| l_nil ⟨key, rfl, hk, ?_⟩
  exact s_ret <| d_own OW (hr.mono (by decide)) (by rfl) <| l_cons <| d_nm 0 rfl <| l_cons <| d_nm 1 rfl <| l_nil ⟨ps, L, key, rfl, h, q⟩
theorem ownB_wson (D : Def K mg "worths_on" sp_worths_on) (OC : OwnD P w K mg base "check_chained" ["pages"] 7 dChk) (OW : OwnD P w K mg base "worths_in" ["pages"] 3 dWsIn) :
    OwnD P w K mg base "worths_on" ["pages"] 8 dWsIn ∧ OwnDK P w K mg base "worths_on" ["pages"] ["pages"] [0] 8 dWsIn := by
  refine ownDB D cp_worths_on (fun ds Q Q' k ⟨a, b, h1, h2, q⟩ => ⟨a, b, h1, h2, k _ q⟩) (fun ds Q ⟨a, b, h, _⟩ => by subst h; rfl) (fun _ _ _ _ _ _ us hl => match us, hl with | [_], _ => rfl) (fun _ _ _ _ _ _ us hl => match us, hl with | [_], _ => rfl) ?_
  rintro X ds Q ⟨f, cdv, A0, outer, s0, H, E, rfl⟩ hr ⟨ps, L, rfl, h, q⟩
  refine s_expr <| .of <| d_own OC hr (by rfl) <| l_cons <| d_nm 0 rfl <| l_nil ⟨ps, _, rfl, h, ?_⟩
  exact s_ret <| d_own OW (hr.mono (by decide)) (by rfl) <| l_cons <| d_nm 0 rfl <| l_nil ⟨ps, L, rfl, h, q⟩
theorem ownD_newp (D : Def K mg "new_pages" sp_new_pages) : OwnD P w K mg base "new_pages" [] 1 fun ds Q => ds = [] ∧ Q (pgsD iniPs) := by
  refine ownD D cp_new_pages (fun ds Q Q' k ⟨e, q⟩ => ⟨e, k _ q⟩) (fun ds Q ⟨e, _⟩ => by subst e; rfl) (fun _ _ _ _ _ _ us hl => match us, hl with | [], _ => rfl) ?_
  rintro X ds Q ⟨f, cdv, A, outer, s0, H, E, rfl⟩ hr ⟨rfl, q⟩
  exact s_ret <| d_ini q
end
end E5
set_option Elab.async false
set_option linter.all false
set_option maxRecDepth 100000
set_option maxHeartbeats 16000000
/-! the law: places and worths by chains -/
namespace E5
open PySem PySem.Spec PyProof.Rows L2 Y Z
open Evl (Ex st_of sq_of ex_l ex_t fresh_back sz_of sz_lt)
structure LawO (P : Program) (w : World) (K : PySem.W.Frag) (mg : Str → Option Value) (base : Heap) : Prop where
  dealt : OwnD P w K mg base "_law_dealt" ["_law_script"] 1 (dDealt P w)
  draw : OwnD P w K mg base "_law_draw" psDraw 1 (dDraw P w)
  pick : OwnD P w K mg base "_law_pick" psPick 2 (dPick P w)
  key : OwnD P w K mg base "_law_key" ["_law_deck"] 3 (dLKey P w)
  made : OwnD P w K mg base "_law_made_pages" ["_law_deck", "_law_many"] 4 (dMade P w)
  stray : OwnD P w K mg base "_law_with_strays" ["_law_deck", "_law_pages"] 3 (dStray P w)
  worths : OwnD1 P w K mg base "_law_worths" ["_law_pages"] 2 dWorths
  lpl : OwnD P w K mg base "_law_place" ["_law_pages", "_law_key_here"] 2 dPlIn
  newp : OwnD P w K mg base "new_pages" [] 1 fun ds Q => ds = [] ∧ Q (pgsD iniPs)
  wson : OwnD P w K mg base "worths_on" ["pages"] 8 dWsIn
  wsonK : OwnDK P w K mg base "worths_on" ["pages"] ["pages"] [0] 8 dWsIn
  arch : OwnD P w K mg base "are_chained" ["pages"] 7 dArCh
  woof : OwnD P w K mg base "worth_of" ["pages", "key"] 8 dWoOf
  woofK : OwnDK P w K mg base "worth_of" ["pages", "key"] ["key", "pages"] [1, 0] 8 dWoOf
  plof : OwnD P w K mg base "place_of" ["pages", "key"] 8 dPlOf
  plofK : OwnDK P w K mg base "place_of" ["pages", "key"] ["key", "pages"] [1, 0] 8 dPlOf
  repr : mg "repr" = none
  range : mg "range" = none
  len : mg "len" = none
  tuple : mg "tuple" = none
  sorted : mg "sorted" = none
theorem iniL : ChL iniPs [(0, ⟨"", [], none⟩)] := ⟨rfl, rfl, rfl, rfl⟩
theorem keyA {s : Str} (h : KeyS s) (hl : s.length < 9) : KeyS (s ++ ("a" : Str)) := by
  have e : (s ++ ("a" : Str)).length = s.length + 1 := by
    show (s ++ ("a" : Str)).cps.size = s.cps.size + 1
    show (s.cps ++ ("a" : Str).cps).size = _
    rw [Array.size_append]; rfl
  refine ⟨by rw [e]; omega, by rw [e]; omega, fun c hc => ?_⟩
  have hc : c ∈ (s.cps ++ ("a" : Str).cps).toList := hc
  rw [Array.toList_append] at hc
  rcases List.mem_append.mp hc with hc | hc
  · exact h.c c hc
  · have : c = 97 := by simpa using (show c ∈ [97] from hc)
    omega
section
variable {P : Program} {w : World} {K : PySem.W.Frag} {mg : Str → Option Value} {base : Heap}
theorem ok_law {lf : Addr} {fd : FuncData} (D : Fun K "law" "law" sp_law lf fd) (O : LawO P w K mg base) : FnG P w K mg base 9 lf fd ["_law_script"] (Z.spLaw K) := by
  refine law_D D cp_law ?_
  rintro X ns ⟨f, cdv, A0, outer, s0, H, E, rfl⟩ hgu hr hlen
  have nd := cp_law.nd
  have h65 := hu65_of hr
  have hu1 := Nat.lt_of_le_of_lt (Nat.add_le_add_left (show 1 ≤ 65 by decide) _) h65
  refine s_set 1 (d_own O.dealt (hr.mono (by decide)) (by rfl) <| l_cons <| d_nm 0 rfl <| l_nil ⟨ns, rfl, hlen, fun dk lf => ?_⟩) nd
  refine s_for PassesOwn.never rfl (g_nm 2 nd) <| i_rng (by rfl) O.range <| d_int ⟨⟨by decide, by decide⟩, ?_⟩
  refine ⟨fun n ρ => ∃ x2 x3 x4 x5 x6 x7 x8, ρ = [.fr (.lst (ns.map Dt.int)), .fr (deckD P w dk lf), x2, x3, x4, x5, x6, x7, x8], ⟨_, _, _, _, _, _, _, rfl⟩, ?_, ?_⟩
  rotate_left
  · rintro ρ1 ⟨x2, x3, x4, x5, x6, x7, x8, rfl⟩
    have hA : ChA iniPs [(0, ⟨"", [], none⟩)] := ⟨ini_ok, by decide, iniL⟩
    have e : toP (.tup [pgsD iniPs, .tz []]) = toP (.tup [pgsD iniPs, .tup []]) := by rw [toP_list, toP_list]; simp only [List.map_cons, List.map_nil]; rw [toP_dz]
    have sh : Sh (toP (.tup [pgsD iniPs, .tup []])) 6 1604007 := by
      refine (Sh.of (a := 5) (b := 802000) (n := 2) (fun x hx => ?_) (Nat.le_refl _)).mono (by decide) (by decide)
      simp only [List.mem_cons, List.not_mem_nil, or_false] at hx
      rcases hx with rfl | rfl
      · exact sh_pgs ini_ok (by decide)
      · exact (Sh.of (a := 0) (b := 42) (n := 0) (fun x hx => absurd hx (by simp)) (Nat.le_refl _)).mono (by decide) (by decide)
    have ip : isP (.tup [pgsD iniPs, .tup []]) = true := by decide +kernel
    refine s_set 3 (d_own0 O.newp (hr.mono (by decide)) (by rfl) ⟨rfl, ?_⟩) nd
    refine s_ret <| d_eq hr.units <| .of <| d_rp hgu hr.units (by rfl) O.repr <| d_tup <| l_cons <| d_nm 3 rfl <| l_cons <| d_dz <| d_ownK O.wsonK hr (by rfl) <| k_cons <| d_nm 3 rfl <| k_nil ⟨rfl, iniPs, _, rfl, hA, _, rfl, l_nil ⟨by show 2 ≤ 100000; decide, _, _, _, rfl, ip, sh, by decide, by decide, .of <| d_rp hgu hr.units (by rfl) O.repr <| d_tup <| l_cons <| d_ini <| l_cons <| d_tup <| l_nil ⟨Nat.zero_le _, l_nil ⟨by show 2 ≤ 100000; decide, _, _, _, rfl, ip, sh, by decide, by decide, ?_⟩⟩⟩⟩
    exact congrArg Dt.bl (decide_eq_true rfl)
  rintro go d ρ1 hd ⟨x2, x3, x4, x5, x6, x7, x8, rfl⟩
  refine ⟨_, rfl, ?_⟩
  -- the pages
  refine s_set 3 (d_own O.stray (hr.mono (by decide)) (by rfl) <| l_cons <| d_nm 1 rfl <| l_cons <| d_own O.made (hr.mono (by decide)) (by rfl) <| l_cons <| d_nm 1 rfl <| l_cons <| d_own O.pick (hr.mono (by decide)) (by rfl) <| l_cons <| d_nm 1 rfl <| l_cons <| .ofN <| n_lst <| l_cons <| d_int <| l_cons <| d_int <| l_cons <| d_int <| l_cons <| d_int <| l_cons <| d_int <| l_nil ⟨by show 5 ≤ 100000; decide, l_nil ⟨dk, lf, _, rfl, pick_l (by show 1 ≤ 5; decide) (by show 5 < 1000000; decide) fun d hd => ?_⟩⟩) nd
  obtain ⟨many, rfl, hmany⟩ : ∃ n : Nat, d = .int (n : Int) ∧ n ≤ 30 := by
    simp only [List.mem_cons, List.not_mem_nil, or_false] at hd
    rcases hd with rfl | rfl | rfl | rfl | rfl
    · exact ⟨20, rfl, by decide⟩
    · exact ⟨8, rfl, by decide⟩
    · exact ⟨30, rfl, by decide⟩
    · exact ⟨0, rfl, by decide⟩
    · exact ⟨14, rfl, by decide⟩
  refine l_nil ⟨dk, lf, many, rfl, hmany, fun ps0 L N hps0 _ _ hch0 => l_nil ⟨dk, lf, ps0, L, rfl, hps0.ok, hps0.len, hch0, fun ps ok l8 hch => ?_⟩⟩
  have hA : ChA ps L := ⟨ok, by omega, hch⟩
  have hE := ents_ok hch ok
  have ll := hch.len
  have el := ents_len (hch.ok ok)
  have asc := hch.asc ok
  have ndE := asc_nodup asc
  have e24 : (entsL L).length ≤ 24 := by omega
  refine s_setO 4 (n_own O.worths (hr.mono (by decide)) (by rfl) <| l_cons <| d_nm 3 rfl <| l_nil ⟨ps, L, rfl, hA, ?_⟩) nd
  refine s_when <| t_ne hr.units <| .of <| d_rp hgu hr.units (by rfl) O.repr <| d_tup <| l_cons <| d_dz <| d_own O.wson hr (by rfl) <| l_cons <| d_nm 3 rfl <| l_nil ⟨ps, L, rfl, hA, _, rfl, l_cons <| d_own O.arch (hr.mono (by decide)) (by rfl) <| l_cons <| d_nm 3 rfl <| l_nil ⟨ps, L, rfl, hA, l_nil ⟨by show 2 ≤ 100000; decide, _, _, _, rfl, isP_ent2 _ _, sh_eb hE e24, by decide, by decide, .of <| d_rp hgu hr.units (by rfl) O.repr <| d_tup <| l_cons <| d_tuple (by rfl) O.tuple <| .ofN <| n_sortItems 4 rfl (by rfl) O.sorted rfl fun es pm so => ?_⟩⟩⟩
  have ee : es = entsL L := ents_uniq pm (sorted_asc so (((pm.map (·.1)).nodup_iff).mpr ndE)) asc
  subst ee
  refine l_cons <| d_bl <| l_nil ⟨by show 2 ≤ 100000; decide, _, _, _, rfl, isP_ent2 _ _, sh_eb hE e24, by decide, by decide, eqQ_same ?_⟩
  -- the keys
  refine s_setO 5 (n_cat <| DN.w1 <| n_lst <| l_cons <| d_str <| l_cons <| d_str <| l_cons <| d_str <| l_cons <| d_str <| l_cons <| d_str <| l_cons <| d_str <| l_cons <| d_str <| l_cons <| d_str <| l_cons <| d_str <| l_nil ⟨by show 9 ≤ 100000; decide, DN.w1 <| n_sortD rfl (by rfl) O.sorted <| d_nmO 4 rfl ⟨entsL L, rfl, by omega, fun out pm so => ⟨_, _, rfl, rfl, ?_, ?_⟩⟩⟩) nd
  · have := pm.length_eq
    rw [List.length_map] at this
    rw [List.length_map]
    show 9 + out.length ≤ 100000; omega
  have outok : ∀ (o : List Str), o.Perm ((entsL L).map (·.1)) → (∀ s ∈ o, KeyS s) ∧ o.length ≤ 24 := fun o pm => by
    refine ⟨fun s hs => ?_, by have := pm.length_eq; rw [List.length_map] at this; omega⟩
    obtain ⟨q, hq, rfl⟩ := List.mem_map.mp (pm.mem_iff.mp hs)
    exact (hE q hq).1
  obtain ⟨ok1, ol1⟩ := outok out pm
  obtain ⟨k1, hk1⟩ : ∃ k1 : List Str, k1 = (["a", "d", "h", "m", "q", "u", "y", "zz", "zzz"] : List Str) ++ out := ⟨_, rfl⟩
  have ek1 : [Dt.str "a", .str "d", .str "h", .str "m", .str "q", .str "u", .str "y", .str "zz", .str "zzz"] ++ out.map Dt.str = k1.map Dt.str := by rw [hk1, List.map_append]; rfl
  rw [ek1]
  have k1ok : ∀ s ∈ k1, KeyS s := fun s hs => by
    rw [hk1] at hs
    rcases List.mem_append.mp hs with h | h
    · exact listKey (l := ["a", "d", "h", "m", "q", "u", "y", "zz", "zzz"]) (by decide +kernel) s h
    · exact ok1 s h
  have k1l : k1.length ≤ 33 := by
    rw [hk1, List.length_append]
    have : (["a", "d", "h", "m", "q", "u", "y", "zz", "zzz"] : List Str).length = 9 := rfl
    omega
  refine s_setO 5 (n_cat <| DN.w1 <| n_cat <| w1_nm 5 rfl <| DN.w1 <| n_lct (own := [("_law_key_here", 6)]) rfl nd (blkOk_by (N := np_law) (sc := defScope sp_law) (by decide +kernel)) (gb_nm 6 (fun _ _ _ _ _ => pg_name (i := 6) nd rfl (Or.inl rfl))) (by simp) (i_lst <| .ofN <| n_sortD rfl (by rfl) O.sorted <| d_nmO 4 rfl ⟨entsL L, rfl, by omega, fun out2 pm2 so2 => ?_⟩)) nd
  obtain ⟨ok2, ol2⟩ := outok out2 pm2
  dsimp only [lstQ]
  refine ⟨by rw [List.length_map]; omega, fun j acc => ∃ ss : List Str, acc = ss.map Dt.str ∧ ss.length ≤ j ∧ ∀ s ∈ ss, KeyS s, ⟨[], rfl, Nat.le_refl _, fun c h => nomatch h⟩, ?_, ?_⟩
  · rintro j d acc hd ⟨ss, rfl, hl, hc⟩
    rw [List.getElem?_map] at hd
    obtain ⟨s, hs, rfl⟩ := Option.map_eq_some_iff.mp hd
    have hks := ok2 s (List.mem_of_getElem? hs)
    have hhi := hks.hi
    have hsl : s.length ≤ sizeLine := Nat.le_trans hhi (by decide)
    refine ⟨_, rfl, fun s1 H' C cl2 fp => t_lt <| .of <| d_len (by rfl) O.len <| .of <| d_nm 6 rfl ⟨hsl, .of <| d_int ?_⟩⟩
    refine (show _ ∧ _ from ⟨fun h3 => fun s2 H2 C2 cl3 fp2 => d_add <| d_nm 6 rfl <| d_str ⟨Nat.le_trans (Nat.add_le_add hhi (show (("a" : Str)).length ≤ 1 by decide)) (by decide), ss ++ [s ++ ("a" : Str)], by rw [List.map_append]; rfl, by rw [List.length_append]; show ss.length + 1 ≤ j + 1; omega, fun x hx => ?_⟩, fun h3 => ⟨ss, rfl, by omega, hc⟩⟩)
    have h3 : ((s.length : Nat) : Int) < 9 := of_decide_eq_true h3
    rcases List.mem_append.mp hx with hx | hx
    · exact hc x hx
    · rw [List.mem_singleton.mp hx]; exact keyA hks (by omega)
  rintro acc _ ⟨ss, rfl, hsl, hsk⟩
  rw [List.length_map] at hsl
  refine ⟨_, _, rfl, rfl, by rw [List.length_map, List.length_map]; omega, ?_⟩
  rw [← List.map_append]
  refine DN.w1 <| n_lc (own := [("_law_go", 7)]) rfl nd (blkOk_by (N := np_law) (sc := defScope sp_law) (by decide +kernel)) (gb_nm 7 (fun _ _ _ _ _ => pg_name (i := 7) nd rfl (Or.inl rfl))) (by simp) (i_rng (by rfl) O.range <| d_int ⟨⟨by decide, by decide⟩, ?_⟩)
  refine ⟨by decide, fun t acc => ∃ ts : List Str, acc = ts.map Dt.str ∧ ts.length = t ∧ ∀ s ∈ ts, KeyS s, ⟨[], rfl, rfl, fun c h => nomatch h⟩, ?_, ?_⟩
  · rintro t d acc hd ⟨ts, rfl, hl, hc⟩
    refine ⟨_, rfl, fun s1 H' C cl fp => d_own O.key (hr.mono (by decide)) (by rfl) <| l_cons <| d_nm 1 rfl <| l_nil ⟨dk, lf, rfl, fun s hs => ⟨ts ++ [s], by simp, by simp [hl], fun x hx => ?_⟩⟩⟩
    rcases List.mem_append.mp hx with hx | hx
    · exact hc x hx
    · rw [List.mem_singleton.mp hx]; exact hs
  rintro acc _ ⟨ts, rfl, htl, htk⟩
  have htl : ts.length = 5 := htl
  refine ⟨_, _, rfl, rfl, by rw [List.length_map, List.length_map, List.length_append, htl]; omega, ?_⟩
  rw [← List.map_append]
  obtain ⟨ks, hks⟩ : ∃ ks : List Str, ks = k1 ++ ss ++ ts := ⟨_, rfl⟩
  rw [← hks]
  have kok : ∀ s ∈ ks, KeyS s := fun s hs => by
    rw [hks] at hs
    rcases List.mem_append.mp hs with h | h
    · rcases List.mem_append.mp h with h | h
      · exact k1ok s h
      · exact hsk s h
    · exact htk s h
  refine s_freeze 5 rfl ?_
  have isI : ∀ a b : Int, isP (.tup [.int a, .int b]) = true := fun a b => by simp [isP, isPL]
  -- each key's place and worth
  refine s_for PassesOwn.never rfl (g_nm 6 nd) <| i_lst <| d_nm 5 rfl ?_
  dsimp only [lstQ]
  refine ⟨fun j ρ => ∃ y6 y8 : Sl, ρ = [.fr (.lst (ns.map Dt.int)), .fr (deckD P w dk lf), .fr d, .fr (pgsD ps), .ow (.dic (kvE (entsL L))), .fr (.lst (ks.map Dt.str)), y6, x7, y8], ⟨_, _, rfl⟩, ?_, ?_⟩
  · rintro j d1 ρ2 hd1 ⟨y6, y8, rfl⟩
    rw [List.getElem?_map] at hd1
    obtain ⟨key, hkey, rfl⟩ := Option.map_eq_some_iff.mp hd1
    have hk := kok key (List.mem_of_getElem? hkey)
    obtain ⟨A, p, c, B, eL, hpl⟩ := hA.pl key
    have hp1 := cAt_lt (hpl.ch.ch.at (p, c) (by simp))
    have shI : Sh (toP (.tup [natD p, .int (wOf (entsL L) key)])) 1 91 := sh_ii ⟨by omega, by omega⟩ (w_num hE)
    refine ⟨_, rfl, ?_⟩
    refine s_set 8 (d_tup <| l_cons <| d_own O.lpl (hr.mono (by decide)) (by rfl) <| l_cons <| d_nm 3 rfl <| l_cons <| d_nm 6 rfl <| l_nil ⟨ps, A, p, c, B, key, rfl, hpl, l_cons <| d_get2 hu1 (d_nmO 4 rfl ⟨kvE (entsL L), rfl, d_nm 6 rfl ⟨.inr key, rfl, d_int ?_⟩⟩)⟩) nd
    rw [val_w]
    refine ⟨rfl, l_nil ⟨by show 2 ≤ 100000; decide, ?_⟩⟩
    refine s_when <| t_ne hr.units <| .of <| d_rp hgu hr.units (by rfl) O.repr <| d_tup <| l_cons <| d_own O.plof hr (by rfl) <| l_cons <| d_nm 3 rfl <| l_cons <| d_nm 6 rfl <| l_nil ⟨ps, A, p, c, B, key, rfl, hpl, hk, l_cons <| d_own O.woof hr (by rfl) <| l_cons <| d_nm 3 rfl <| l_cons <| d_nm 6 rfl <| l_nil ⟨ps, L, key, rfl, hA, hk, l_nil ⟨by show 2 ≤ 100000; decide, _, _, _, rfl, isI _ _, shI, by decide, by decide, .of <| d_rp hgu hr.units (by rfl) O.repr <| d_nm 8 rfl ⟨_, _, _, rfl, isI _ _, shI, by decide, by decide, eqQ_same ?_⟩⟩⟩⟩
    exact s_nil ⟨_, _, rfl⟩
  rintro ρ2 ⟨y6, y8, rfl⟩
  have hkc : KeyS ("c" : Str) := listKey (l := ["c"]) (by decide +kernel) "c" (by simp)
  obtain ⟨A, p, c, B, eL, hpl⟩ := hA.pl "c"
  have hp1 := cAt_lt (hpl.ch.ch.at (p, c) (by simp))
  have shI : Sh (toP (.tup [natD p, .int (wOf (entsL L) "c")])) 1 91 := sh_ii ⟨by omega, by omega⟩ (w_num hE)
  refine s_when <| t_ne hr.units <| .of <| d_rp hgu hr.units (by rfl) O.repr <| d_tup <| l_cons <| d_ownK O.plofK hr (by rfl) <| k_cons <| d_str <| k_cons <| d_nm 3 rfl <| k_nil ⟨rfl, ps, A, p, c, B, "c", rfl, hpl, hkc, l_cons <| d_ownK O.woofK hr (by rfl) <| k_cons <| d_str <| k_cons <| d_nm 3 rfl <| k_nil ⟨rfl, ps, L, "c", rfl, hA, hkc, l_nil ⟨by show 2 ≤ 100000; decide, _, _, _, rfl, isI _ _, shI, by decide, by decide, .of <| d_rp hgu hr.units (by rfl) O.repr <| d_tup <| l_cons <| d_own O.lpl (hr.mono (by decide)) (by rfl) <| l_cons <| d_nm 3 rfl <| l_cons <| d_str <| l_nil ⟨ps, A, p, c, B, "c", rfl, hpl, l_cons <| d_get2 hu1 (d_nmO 4 rfl ⟨kvE (entsL L), rfl, d_str ⟨.inr "c", rfl, d_int ?_⟩⟩)⟩⟩⟩⟩
  rw [val_w]
  exact ⟨rfl, l_nil ⟨by show 2 ≤ 100000; decide, _, _, _, rfl, isI _ _, shI, by decide, by decide, eqQ_same <| s_nil ⟨_, _, _, _, _, _, _, rfl⟩⟩⟩
end
end E5
set_option Elab.async false
set_option linter.all false
set_option maxRecDepth 100000
set_option maxHeartbeats 4000000
namespace E5
open PySem PySem.Spec PyProof.Rows L2 Y Z
section
variable {P : Program} {w : World} {K : PySem.W.Frag} {mg : Str → Option Value} {h : Heap}
theorem defOf {nm : Str} {st : Stmt} {f : Addr} {od an : Option Addr} {sl : Array (Option Value)} {oc kV dc pm cd ct : Value} (X : K.In h) (G : h.Ns mainGlobals mg) (a : PySem.W.nsIn K mainGlobals nm = some (some (.ref f)))
    (l : K.lookup f = some ⟨oc, od, .func (PySem.W.fnOf nm nm (defArgs st) (defBody st) (defScope st) .none kV dc pm an cd ct), sl⟩) (c : PySem.W.codeIn K cd nm = true) (k : PySem.W.keepIn K (.ref f) = true) : Def K mg nm st :=
  ⟨f, _, fun_mk l c k, PySem.W.mg_of X G a⟩
theorem tupOf {a : Addr} {cls : Value} {dd : Option Addr} {sl : Array (Option Value)} {its : Array Value} {n : Nat} {xs : List V} {ds : List Dt} (l : K.lookup a = some ⟨cls, dd, .seq its n, sl⟩) (c : cls = .type "tuple") (z : its.size ≤ sizeLine) (v : Vals xs its.toList) (r : ∀ B, RpL K B xs ds) : ∀ B, Rp K B (.ref a) (.tup ds) := fun B => .tup (.inr ⟨_, its, n, l, c, rfl, z, v⟩) (r B)
theorem v_nil : Vals [] [] := .nil
theorem v_ref {a : Addr} {vs : List V} {us : List Value} (t : Vals vs us) : Vals (.ref a :: vs) (.ref a :: us) := .cons rfl t
theorem v_non {vs : List V} {us : List Value} (t : Vals vs us) : Vals (.non :: vs) (.none :: us) := .cons rfl t
theorem v_int {n : Int} {k : Tok} {vs : List V} {us : List Value} (t : Vals vs us) : Vals (.int n :: vs) (.int n k :: us) := .cons ⟨_, rfl⟩ t
theorem v_str {n : Str} {k : Tok} {vs : List V} {us : List Value} (t : Vals vs us) : Vals (.str n :: vs) (.str n k :: us) := .cons ⟨_, rfl⟩ t
theorem globOf {n : Str} {a : Addr} {d : Dt} (X : K.In h) (G : h.Ns mainGlobals mg) (z : PySem.W.nsIn K mainGlobals n = some (some (.ref a))) (t : ∀ B, Rp K B (.ref a) d) : ∃ a : Addr, mg n = some (.ref a) ∧ ∀ B, Rp K B (.ref a) d := ⟨a, PySem.W.mg_of X G z, t⟩
theorem rl_nil : ∀ B, RpL K B [] [] := fun B => .nil
theorem rl_cons {v : V} {d : Dt} {vs : List V} {ds : List Dt} (h : ∀ B, Rp K B v d) (t : ∀ B, RpL K B vs ds) : ∀ B, RpL K B (v :: vs) (d :: ds) := fun B => .cons (h B) (t B)
structure Left (K : PySem.W.Frag) (mg : Str → Option Value) : Prop where
  d2 : Def K mg "is_integer" (topS 2)
  d3 : Def K mg "is_natural" (topS 3)
  d4 : Def K mg "is_ascending" (topS 4)
  d12 : Def K mg "is_key" (topS 12)
  d13 : Def K mg "is_entry" (topS 13)
  d14 : Def K mg "are_entries" (topS 14)
  d15 : Def K mg "is_content" (topS 15)
  d17 : Def K mg "is_page" (topS 17)
  d18 : Def K mg "are_pages" (topS 18)
  d19 : Def K mg "may_follow" (topS 19)
  d20 : Def K mg "chain_of" (topS 20)
  d21 : Def K mg "are_chained" (topS 21)
  d22 : Def K mg "check_chained" (topS 22)
  d23 : Def K mg "check_key" (topS 23)
  d24 : Def K mg "place_in" (topS 24)
  d25 : Def K mg "place_of" (topS 25)
  d26 : Def K mg "worths_in" (topS 26)
  d27 : Def K mg "worths_on" (topS 27)
  d28 : Def K mg "worth_in" (topS 28)
  d29 : Def K mg "worth_of" (topS 29)
  d30 : Def K mg "new_pages" (topS 30)
  d32 : Def K mg "_law_dealt" (topS 32)
  d33 : Def K mg "_law_draw" (topS 33)
  d34 : Def K mg "_law_pick" (topS 34)
  d35 : Def K mg "_law_key" (topS 35)
  d36 : Def K mg "_law_worth" (topS 36)
  d37 : Def K mg "_law_chain" (topS 37)
  d38 : Def K mg "_law_worths" (topS 38)
  d39 : Def K mg "_law_place" (topS 39)
  d40 : Def K mg "_law_writes" (topS 40)
  d41 : Def K mg "_law_applied" (topS 41)
  d42 : Def K mg "_law_made_pages" (topS 42)
  d43 : Def K mg "_law_with_strays" (topS 43)
  d44 : Def K mg "law" (topS 44)
  z_isinstance : mg "isinstance" = none
  z_int : mg "int" = none
  z_bool : mg "bool" = none
  z_str : mg "str" = none
  z_tuple : mg "tuple" = none
  z_len : mg "len" = none
  z_all : mg "all" = none
  z_zip : mg "zip" = none
  z_max : mg "max" = none
  z_range : mg "range" = none
  z_sorted : mg "sorted" = none
  z_list : mg "list" = none
  z_repr : mg "repr" = none
  z_dict : mg "dict" = none
  z_set : mg "set" = none
  g_LETTERS : ∃ u, mg "LETTERS" = some u ∧ RelV (.str "abcdefghijklmnopqrstuvwxyz") u
  g_MOST_KEY_LETTERS : ∃ u, mg "MOST_KEY_LETTERS" = some u ∧ RelV (.int 9) u
  g_MOST_ENTRIES : ∃ u, mg "MOST_ENTRIES" = some u ∧ RelV (.int 3) u
theorem Left.law (L : Left K mg) {fa : Addr} (hfa : mg "law" = some (.ref fa)) :
    ∃ fd : FuncData, (∀ (s : Shared) (v : Value), BindsTo s fd ⟨[v], []⟩ [("_law_script", v)]) ∧ ∀ base : Heap, FnG P w K mg base 9 fa fd ["_law_script"] (Z.spLaw K) := by
  obtain ⟨f, fd, F, m⟩ := L.d44.ex
  have e := hfa.symm.trans m
  cases e
  refine ⟨fd, fun s v => ?_, fun base => ?_⟩
  · obtain ⟨oc, od, kV, doc, pm, an, cdv, ct, osl, rfl, lk, hcd⟩ := F.ex
    exact .of_eq rfl
  have B : Blt mg := ⟨L.z_isinstance, L.z_int, L.z_bool, L.z_str, L.z_tuple, L.z_len, L.z_all, L.z_zip⟩
  obtain ⟨u_LETTERS, m_LETTERS, r_LETTERS⟩ := L.g_LETTERS
  obtain ⟨u_MOST_KEY_LETTERS, m_MOST_KEY_LETTERS, r_MOST_KEY_LETTERS⟩ := L.g_MOST_KEY_LETTERS
  obtain ⟨u_MOST_ENTRIES, m_MOST_ENTRIES, r_MOST_ENTRIES⟩ := L.g_MOST_ENTRIES
  have dI : OwnD P w K mg base "is_integer" ["thing"] 1 dIsInt := ownD_isint L.d2 B
  have dN := ownD_isnat L.d3 dI
  have dK : OwnD P w K mg base "is_key" ["thing"] 1 dKey := ownD_iskey L.d12 B m_MOST_KEY_LETTERS r_MOST_KEY_LETTERS m_LETTERS r_LETTERS
  have dAs : OwnD P w K mg base "is_ascending" ["things"] 1 dAscS := ownD_isasc L.d4 B
  have dEn := ownD_isentry L.d13 B dK dI
  have dEs := ownD_areents L.d14 B dEn dAs m_MOST_ENTRIES r_MOST_ENTRIES
  have dCo := ownD_iscont L.d15 B dEs dK dN
  have dPa := ownD_ispage L.d17 B dN dCo
  have dPs := ownD_arepages L.d18 B dPa
  have dDe : OwnD P w K mg base "_law_dealt" ["_law_script"] 1 (dDealt P w) := ownD_dealt (own_deck L.d32 L.z_int L.z_list)
  have dDr : OwnD P w K mg base "_law_draw" psDraw 1 (dDraw P w) := ownD_draw (own_draw L.d33 L.z_int L.z_max)
  have dPk := ownD_pick L.d34 dDr L.z_len
  have dLk := ownD_lkey L.d35 dDr dPk L.z_range
  have dLw := ownD_lworth L.d36 dDr dPk
  have dLa : OwnD P w K mg base "_law_applied" ["_law_pages", "_law_number", "_law_row"] 1 dLApp := ownD_lapp L.d41 L.z_range L.z_len L.z_tuple L.z_list
  have dMy := ownD_may (P := P) (w := w) (base := base) L.d19 B
  have dCf := ownD_chainof L.d20 dMy
  have dAr := ownD_arch L.d21 dPs dCf
  have dCk := ownD_chk L.d22 dPs dCf
  have dKk := ownD_ckkey L.d23 dK
  have dPi := ownD_plin L.d24 dCf
  have dPo := ownB_plof L.d25 dCk dKk dPi
  have dWi := ownD_wsin L.d26 L.z_tuple dCf
  have dWn := ownB_wson L.d27 dCk dWi
  have dWo := ownD_woin L.d28 L.z_dict dWi
  have dWf := ownB_woof L.d29 dCk dKk dWo
  have dCh := ownD_lchain (P := P) (w := w) (base := base) L.d37 L.z_range L.z_len
  have dPl := ownD_lplE L.d39 dCh
  have dLr := ownD_lwrE L.d40 dPl L.z_dict L.z_sorted L.z_int L.z_len L.z_tuple L.z_range L.z_list
  have dNw := ownD_newp (P := P) (w := w) (base := base) L.d30
  have dWs := ownD_lworths L.d38 dCh L.z_dict
  have dMd := ownD_made L.d42 ⟨dDr, dPk, dLk, dLw, dLr, dLa, L.z_range, L.z_tuple, L.z_sorted, L.z_set⟩
  have dSt := ownD_stray L.d43 dDr dPk L.z_range L.z_len L.z_tuple L.z_list
  exact ok_law F ⟨dDe, dDr, dPk, dLk, dMd, dSt, dWs, dPl, dNw, dWn.1, dWn.2, dAr, dWf.1, dWf.2, dPo.1, dPo.2, L.z_repr, L.z_range, L.z_len, L.z_tuple, L.z_sorted⟩
theorem all_mk {l : PySem.W.OpenLaw} {fa : Addr} (X : K.In h) (G : h.Ns mainGlobals mg) (hfa : mg "law" = some (.ref fa))
    (d2 : Def K mg "is_integer" (topS 2))
    (d3 : Def K mg "is_natural" (topS 3))
    (d4 : Def K mg "is_ascending" (topS 4))
    (d12 : Def K mg "is_key" (topS 12))
    (d13 : Def K mg "is_entry" (topS 13))
    (d14 : Def K mg "are_entries" (topS 14))
    (d15 : Def K mg "is_content" (topS 15))
    (d17 : Def K mg "is_page" (topS 17))
    (d18 : Def K mg "are_pages" (topS 18))
    (d19 : Def K mg "may_follow" (topS 19))
    (d20 : Def K mg "chain_of" (topS 20))
    (d21 : Def K mg "are_chained" (topS 21))
    (d22 : Def K mg "check_chained" (topS 22))
    (d23 : Def K mg "check_key" (topS 23))
    (d24 : Def K mg "place_in" (topS 24))
    (d25 : Def K mg "place_of" (topS 25))
    (d26 : Def K mg "worths_in" (topS 26))
    (d27 : Def K mg "worths_on" (topS 27))
    (d28 : Def K mg "worth_in" (topS 28))
    (d29 : Def K mg "worth_of" (topS 29))
    (d30 : Def K mg "new_pages" (topS 30))
    (d32 : Def K mg "_law_dealt" (topS 32))
    (d33 : Def K mg "_law_draw" (topS 33))
    (d34 : Def K mg "_law_pick" (topS 34))
    (d35 : Def K mg "_law_key" (topS 35))
    (d36 : Def K mg "_law_worth" (topS 36))
    (d37 : Def K mg "_law_chain" (topS 37))
    (d38 : Def K mg "_law_worths" (topS 38))
    (d39 : Def K mg "_law_place" (topS 39))
    (d40 : Def K mg "_law_writes" (topS 40))
    (d41 : Def K mg "_law_applied" (topS 41))
    (d42 : Def K mg "_law_made_pages" (topS 42))
    (d43 : Def K mg "_law_with_strays" (topS 43))
    (d44 : Def K mg "law" (topS 44))
    (z_isinstance : PySem.W.nsIn K mainGlobals "isinstance" = some none)
    (z_int : PySem.W.nsIn K mainGlobals "int" = some none)
    (z_bool : PySem.W.nsIn K mainGlobals "bool" = some none)
    (z_str : PySem.W.nsIn K mainGlobals "str" = some none)
    (z_tuple : PySem.W.nsIn K mainGlobals "tuple" = some none)
    (z_len : PySem.W.nsIn K mainGlobals "len" = some none)
    (z_all : PySem.W.nsIn K mainGlobals "all" = some none)
    (z_zip : PySem.W.nsIn K mainGlobals "zip" = some none)
    (z_max : PySem.W.nsIn K mainGlobals "max" = some none)
    (z_range : PySem.W.nsIn K mainGlobals "range" = some none)
    (z_sorted : PySem.W.nsIn K mainGlobals "sorted" = some none)
    (z_list : PySem.W.nsIn K mainGlobals "list" = some none)
    (z_repr : PySem.W.nsIn K mainGlobals "repr" = some none)
    (z_dict : PySem.W.nsIn K mainGlobals "dict" = some none)
    (z_set : PySem.W.nsIn K mainGlobals "set" = some none)
    (g_LETTERS : ∃ u, mg "LETTERS" = some u ∧ RelV (.str "abcdefghijklmnopqrstuvwxyz") u)
    (g_MOST_KEY_LETTERS : ∃ u, mg "MOST_KEY_LETTERS" = some u ∧ RelV (.int 9) u)
    (g_MOST_ENTRIES : ∃ u, mg "MOST_ENTRIES" = some u ∧ RelV (.int 3) u) :
    ∃ fd : FuncData, (∀ (s : Shared) (v : Value), BindsTo s fd ⟨[v], []⟩ [("_law_script", v)]) ∧ ∀ base : Heap, K.In base → base.Ns mainGlobals mg → FnG l.prog w K mg base 9 fa fd ["_law_script"] (Z.spLaw K) := by
  have L : Left K mg := ⟨d2, d3, d4, d12, d13, d14, d15, d17, d18, d19, d20, d21, d22, d23, d24, d25, d26, d27, d28, d29, d30, d32, d33, d34, d35, d36, d37, d38, d39, d40, d41, d42, d43, d44, PySem.W.mg_none_of X G z_isinstance, PySem.W.mg_none_of X G z_int, PySem.W.mg_none_of X G z_bool, PySem.W.mg_none_of X G z_str, PySem.W.mg_none_of X G z_tuple, PySem.W.mg_none_of X G z_len, PySem.W.mg_none_of X G z_all, PySem.W.mg_none_of X G z_zip, PySem.W.mg_none_of X G z_max, PySem.W.mg_none_of X G z_range, PySem.W.mg_none_of X G z_sorted, PySem.W.mg_none_of X G z_list, PySem.W.mg_none_of X G z_repr, PySem.W.mg_none_of X G z_dict, PySem.W.mg_none_of X G z_set, g_LETTERS, g_MOST_KEY_LETTERS, g_MOST_ENTRIES⟩
  obtain ⟨fd, h1, h2⟩ := L.law (P := l.prog) (w := w) hfa
  exact ⟨fd, h1, fun base _ _ => h2 base⟩
end
end E5
open PySem PySem.W PyProof.Rows
set_option maxHeartbeats 0 in
theorem PySem.Challenge.cw_eachcut_k67_whole_places_and_worths_by_c_holds : PySem.Challenge.rw_eachcut_k67_whole_places_and_worths_by_c.Holds := by
  w_on; o_law; k_head; (case hw => w_witness2)
  k_fill
  refine Y.walk_G (l := PySem.Challenge.rw_eachcut_k67_whole_places_and_worths_by_c) (n := 63) (k := 9) (x := "_law_script") (sp := fun w => Z.spLaw _) rfl (by decide) rfl ⟨rfl, by decide, by decide⟩ (fun w h Y => PySem.W.kIn_of Y) ?F (fun _ _ a ns hl _ hS => ⟨a, ns, rfl, hS, hl, fun _ _ => rfl⟩)
  case F =>
    intro w mg fa h KX G hmg
    refine' E5.all_mk KX G hmg ?d2 ?d3 ?d4 ?d12 ?d13 ?d14 ?d15 ?d17 ?d18 ?d19 ?d20 ?d21 ?d22 ?d23 ?d24 ?d25 ?d26 ?d27 ?d28 ?d29 ?d30 ?d32 ?d33 ?d34 ?d35 ?d36 ?d37 ?d38 ?d39 ?d40 ?d41 ?d42 ?d43 ?d44 ?z_isinstance ?z_int ?z_bool ?z_str ?z_tuple ?z_len ?z_all ?z_zip ?z_max ?z_range ?z_sorted ?z_list ?z_repr ?z_dict ?z_set ?g_LETTERS ?g_MOST_KEY_LETTERS ?g_MOST_ENTRIES
    (case d2 => (refine' E5.defOf KX G ?a ?l ?c ?k; (case a => k_is); (case l => k_is); (case c => k_is); (case k => k_is)))
    (case d3 => (refine' E5.defOf KX G ?a ?l ?c ?k; (case a => k_is); (case l => k_is); (case c => k_is); (case k => k_is)))
    (case d4 => (refine' E5.defOf KX G ?a ?l ?c ?k; (case a => k_is); (case l => k_is); (case c => k_is); (case k => k_is)))
    (case d12 => (refine' E5.defOf KX G ?a ?l ?c ?k; (case a => k_is); (case l => k_is); (case c => k_is); (case k => k_is)))
    (case d13 => (refine' E5.defOf KX G ?a ?l ?c ?k; (case a => k_is); (case l => k_is); (case c => k_is); (case k => k_is)))
    (case d14 => (refine' E5.defOf KX G ?a ?l ?c ?k; (case a => k_is); (case l => k_is); (case c => k_is); (case k => k_is)))
    (case d15 => (refine' E5.defOf KX G ?a ?l ?c ?k; (case a => k_is); (case l => k_is); (case c => k_is); (case k => k_is)))
    (case d17 => (refine' E5.defOf KX G ?a ?l ?c ?k; (case a => k_is); (case l => k_is); (case c => k_is); (case k => k_is)))
    (case d18 => (refine' E5.defOf KX G ?a ?l ?c ?k; (case a => k_is); (case l => k_is); (case c => k_is); (case k => k_is)))
    (case d19 => (refine' E5.defOf KX G ?a ?l ?c ?k; (case a => k_is); (case l => k_is); (case c => k_is); (case k => k_is)))
    (case d20 => (refine' E5.defOf KX G ?a ?l ?c ?k; (case a => k_is); (case l => k_is); (case c => k_is); (case k => k_is)))
    (case d21 => (refine' E5.defOf KX G ?a ?l ?c ?k; (case a => k_is); (case l => k_is); (case c => k_is); (case k => k_is)))
    (case d22 => (refine' E5.defOf KX G ?a ?l ?c ?k; (case a => k_is); (case l => k_is); (case c => k_is); (case k => k_is)))
    (case d23 => (refine' E5.defOf KX G ?a ?l ?c ?k; (case a => k_is); (case l => k_is); (case c => k_is); (case k => k_is)))
    (case d24 => (refine' E5.defOf KX G ?a ?l ?c ?k; (case a => k_is); (case l => k_is); (case c => k_is); (case k => k_is)))
    (case d25 => (refine' E5.defOf KX G ?a ?l ?c ?k; (case a => k_is); (case l => k_is); (case c => k_is); (case k => k_is)))
    (case d26 => (refine' E5.defOf KX G ?a ?l ?c ?k; (case a => k_is); (case l => k_is); (case c => k_is); (case k => k_is)))
    (case d27 => (refine' E5.defOf KX G ?a ?l ?c ?k; (case a => k_is); (case l => k_is); (case c => k_is); (case k => k_is)))
    (case d28 => (refine' E5.defOf KX G ?a ?l ?c ?k; (case a => k_is); (case l => k_is); (case c => k_is); (case k => k_is)))
    (case d29 => (refine' E5.defOf KX G ?a ?l ?c ?k; (case a => k_is); (case l => k_is); (case c => k_is); (case k => k_is)))
    (case d30 => (refine' E5.defOf KX G ?a ?l ?c ?k; (case a => k_is); (case l => k_is); (case c => k_is); (case k => k_is)))
    (case d32 => (refine' E5.defOf KX G ?a ?l ?c ?k; (case a => k_is); (case l => k_is); (case c => k_is); (case k => k_is)))
    (case d33 => (refine' E5.defOf KX G ?a ?l ?c ?k; (case a => k_is); (case l => k_is); (case c => k_is); (case k => k_is)))
    (case d34 => (refine' E5.defOf KX G ?a ?l ?c ?k; (case a => k_is); (case l => k_is); (case c => k_is); (case k => k_is)))
    (case d35 => (refine' E5.defOf KX G ?a ?l ?c ?k; (case a => k_is); (case l => k_is); (case c => k_is); (case k => k_is)))
    (case d36 => (refine' E5.defOf KX G ?a ?l ?c ?k; (case a => k_is); (case l => k_is); (case c => k_is); (case k => k_is)))
    (case d37 => (refine' E5.defOf KX G ?a ?l ?c ?k; (case a => k_is); (case l => k_is); (case c => k_is); (case k => k_is)))
    (case d38 => (refine' E5.defOf KX G ?a ?l ?c ?k; (case a => k_is); (case l => k_is); (case c => k_is); (case k => k_is)))
    (case d39 => (refine' E5.defOf KX G ?a ?l ?c ?k; (case a => k_is); (case l => k_is); (case c => k_is); (case k => k_is)))
    (case d40 => (refine' E5.defOf KX G ?a ?l ?c ?k; (case a => k_is); (case l => k_is); (case c => k_is); (case k => k_is)))
    (case d41 => (refine' E5.defOf KX G ?a ?l ?c ?k; (case a => k_is); (case l => k_is); (case c => k_is); (case k => k_is)))
    (case d42 => (refine' E5.defOf KX G ?a ?l ?c ?k; (case a => k_is); (case l => k_is); (case c => k_is); (case k => k_is)))
    (case d43 => (refine' E5.defOf KX G ?a ?l ?c ?k; (case a => k_is); (case l => k_is); (case c => k_is); (case k => k_is)))
    (case d44 => (refine' E5.defOf KX G ?a ?l ?c ?k; (case a => k_is); (case l => k_is); (case c => k_is); (case k => k_is)))
    (case z_isinstance => k_is)
    (case z_int => k_is)
    (case z_bool => k_is)
    (case z_str => k_is)
    (case z_tuple => k_is)
    (case z_len => k_is)
    (case z_all => k_is)
    (case z_zip => k_is)
    (case z_max => k_is)
    (case z_range => k_is)
    (case z_sorted => k_is)
    (case z_list => k_is)
    (case z_repr => k_is)
    (case z_dict => k_is)
    (case z_set => k_is)
    case g_LETTERS =>
      refine' ⟨_, PySem.W.mg_of KX G ?z, ?r⟩
      (case z => k_is)
      (case r => exact ⟨_, rfl⟩)
    case g_MOST_KEY_LETTERS =>
      refine' ⟨_, PySem.W.mg_of KX G ?z, ?r⟩
      (case z => k_is)
      (case r => exact ⟨_, rfl⟩)
    case g_MOST_ENTRIES =>
      refine' ⟨_, PySem.W.mg_of KX G ?z, ?r⟩
      (case z => k_is)
      (case r => exact ⟨_, rfl⟩)
