import PyProof.Rows.All
import Wide.All
import OpenK.AllK
import Wide.FinOn
import PySem.Challenge.RW_eachcut_k06_whole_words_at_every_cut
import HandS.ForMost
import HandS.Evl
import HandS.Style
import HandS.Zip
import HandS.IsInst
import HandS.Conv
import HandS.SortRule
import HandS.TupAny
import HandS.TupLe
import HandS.SetKeys
import HandS.Flow
import HandS.Small
import HandS.RaiseMore
import HandS.Wide
import HandS.Walk
import KE.KUnpackStar
import KE.GoesEnum
import PySem.Str
import HandS.SortKw
import HandS.SortInts
import HandS.Ends
import KE.DataEq
set_option Elab.async false
set_option linter.all false
set_option maxRecDepth 100000
set_option maxHeartbeats 4000000
/-! A layer over HandS: what an expression, a test, an argument list, a block comes to, from a heap that is known in part. -/
namespace Y
open PySem PySem.Spec PyProof.Rows L2 Evl
section
variable {X : Cx} {σ : L2.St} {H H' : Hp} {v w x y z : V} {e a b c f : Expr} {i j k : Nat} {K : PySem.W.Frag}

/-! ### readings that every expression has -/
def semE (X : Cx) (e : Expr) : TE := fun σ H Q => ∀ (pins : List (Addr × Obj)) (s : Shared), Inv X pins σ H s → wpAny (model X.prog X.w) X.A (eval e X.env) (EP X pins σ Q) X.xe s
theorem pe_sem : PE X e (semE X e) := ⟨fun pins s _ _ _ I h => h pins s I⟩
theorem sem_of {te : TE} (h : PE X e te) {Q : VK} (q : te σ H Q) : semE X e σ H Q := fun pins s I => h.run pins s σ H Q I q
theorem sem_mono {Q Q' : VK} (h : semE X e σ H Q) (k : ∀ v H', Q v H' → Q' v H') : semE X e σ H Q' := fun pins s I => thn (h pins s I) fun _ _ ⟨v, H', I', r, q⟩ => ⟨v, H', I', r, k v H' q⟩
def semT (X : Cx) (e : Expr) : TT := fun σ H Q => ∀ (pins : List (Addr × Obj)) (s : Shared), Inv X pins σ H s → wpAny (model X.prog X.w) X.A (isTrue e X.env (eval e X.env)) (TP X pins σ Q) X.xe s
theorem pt_sem : PT X e (semT X e) := ⟨fun pins s _ _ _ I h => h pins s I⟩
theorem semT_of {te : TT} (h : PT X e te) {Q : Bool → Hp → Prop} (q : te σ H Q) : semT X e σ H Q := fun pins s I => h.run pins s σ H Q I q
theorem semT_mono {Q Q' : Bool → Hp → Prop} (h : semT X e σ H Q) (k : ∀ v H', Q v H' → Q' v H') : semT X e σ H Q' := fun pins s I => thn (h pins s I) fun b _ ⟨H', I', q⟩ => ⟨H', I', k b H' q⟩
def semA (X : Cx) (es : List Expr) : TA := fun σ H Q => ∀ (pos : Pos) (pins : List (Addr × Obj)) (s : Shared), Inv X pins σ H s → wpAny (model X.prog X.w) X.A (spliced (backTo pos (starEach es X.env))) (AP X pins σ Q) X.xe s
theorem pa_sem {es : List Expr} : PA X es (semA X es) := ⟨fun pos pins s _ _ _ I h => h pos pins s I⟩
theorem semA_of {es : List Expr} {t : TA} (h : PA X es t) {Q : List V → Hp → Prop} (q : t σ H Q) : semA X es σ H Q := fun pos pins s I => h.run pos pins s σ H Q I q
theorem semA_mono {es : List Expr} {Q Q' : List V → Hp → Prop} (h : semA X es σ H Q) (k : ∀ v H', Q v H' → Q' v H') : semA X es σ H Q' := fun pos pins s I => thn (h pos pins s I) fun _ _ ⟨v, H', I', r, q⟩ => ⟨v, H', I', r, k v H' q⟩
def semS (X : Cx) (ss : List Stmt) : TS := fun D σ H => ∀ (pins : List (Addr × Obj)) (s : Shared), Inv X pins σ H s → wpAny (model X.prog X.w) X.A (execs ss X.env) (SP X pins D) X.xe s
theorem pss_sem {ss : List Stmt} : PSs X ss (semS X ss) := ⟨fun pins s _ _ _ I h => h pins s I⟩
theorem semS_of {ss : List Stmt} {t : TS} (h : PSs X ss t) {D : Ends} (q : t D σ H) : semS X ss D σ H := fun pins s I => h.run pins s σ H D I q

/-! ### expressions -/
/-- e comes to a value of which φ is true, on whatever extends H; what is known stays -/
structure EN (X : Cx) (e : Expr) (σ : L2.St) (H : Hp) (φ : V → Hp → Prop)  : Prop where
  run : ∀ H1, Ex H H1 → semE X e σ H1 fun v H2 => Ex H1 H2 ∧ φ v H2
instance {X : Cx} {e : Expr} {σ : L2.St} {H : Hp} {φ : V → Hp → Prop} : CoeFun (EN X e σ H φ) fun _ => ∀ H1, Ex H H1 → semE X e σ H1 fun v H2 => Ex H1 H2 ∧ φ v H2 := ⟨EN.run⟩
abbrev EV (X : Cx) (e : Expr) (σ : L2.St) (H : Hp) (v : V) : Prop := EN X e σ H fun u _ => u = v
/-- e comes to a value, the known heap to another one -/
structure EM (X : Cx) (e : Expr) (σ : L2.St) (H : Hp) (R : V → Hp → Prop)  : Prop where
  run : ∀ H1, Ex H H1 → semE X e σ H1 fun v H2 => ∃ Hb, Ex Hb H2 ∧ R v Hb
instance {X : Cx} {e : Expr} {σ : L2.St} {H : Hp} {R : V → Hp → Prop} : CoeFun (EM X e σ H R) fun _ => ∀ H1, Ex H H1 → semE X e σ H1 fun v H2 => ∃ Hb, Ex Hb H2 ∧ R v Hb := ⟨EM.run⟩
structure TN (X : Cx) (e : Expr) (σ : L2.St) (H : Hp) (b : Bool)  : Prop where
  run : ∀ H1, Ex H H1 → semT X e σ H1 fun b' H2 => Ex H1 H2 ∧ b' = b
instance {X : Cx} {e : Expr} {σ : L2.St} {H : Hp} {b : Bool} : CoeFun (TN X e σ H b) fun _ => ∀ H1, Ex H H1 → semT X e σ H1 fun b' H2 => Ex H1 H2 ∧ b' = b := ⟨TN.run⟩
/-- a test whose answer is not said -/
structure TD (X : Cx) (e : Expr) (σ : L2.St) (H : Hp) (ψ : Bool → Hp → Prop)  : Prop where
  run : ∀ H1, Ex H H1 → semT X e σ H1 fun b' H2 => Ex H1 H2 ∧ ψ b' H2
instance {X : Cx} {e : Expr} {σ : L2.St} {H : Hp} {ψ : Bool → Hp → Prop} : CoeFun (TD X e σ H ψ) fun _ => ∀ H1, Ex H H1 → semT X e σ H1 fun b' H2 => Ex H1 H2 ∧ ψ b' H2 := ⟨TD.run⟩
structure AM (X : Cx) (es : List Expr) (σ : L2.St) (H : Hp) (R : List V → Hp → Prop)  : Prop where
  run : ∀ H1, Ex H H1 → semA X es σ H1 fun vs H2 => ∃ Hb, Ex Hb H2 ∧ R vs Hb
instance {X : Cx} {es : List Expr} {σ : L2.St} {H : Hp} {R : List V → Hp → Prop} : CoeFun (AM X es σ H R) fun _ => ∀ H1, Ex H H1 → semA X es σ H1 fun vs H2 => ∃ Hb, Ex Hb H2 ∧ R vs Hb := ⟨AM.run⟩
structure AV (X : Cx) (es : List Expr) (σ : L2.St) (H : Hp) (vs : List V)  : Prop where
  run : ∀ H1, Ex H H1 → semA X es σ H1 fun us H2 => Ex H1 H2 ∧ us = vs
instance {X : Cx} {es : List Expr} {σ : L2.St} {H : Hp} {vs : List V} : CoeFun (AV X es σ H vs) fun _ => ∀ H1, Ex H H1 → semA X es σ H1 fun us H2 => Ex H1 H2 ∧ us = vs := ⟨AV.run⟩

theorem EV.of {te : TE} (h : PE X e te) (q : Evl.Ev te σ H v) : EV X e σ H v := ⟨fun H1 e1 => sem_of h (q H1 e1 _ fun H2 e2 => ⟨e2, rfl⟩)⟩
theorem EV.ev (h : EV X e σ H v) : Evl.Ev (semE X e) σ H v := fun H1 e1 Q q => sem_mono (h H1 e1) fun u H2 ⟨e2, hu⟩ => by subst hu; exact q H2 e2
theorem TN.of {te : TT} {b : Bool} (h : PT X e te) (q : Evl.EvT te σ H b) : TN X e σ H b := ⟨fun H1 e1 => semT_of h (q H1 e1 _ fun H2 e2 => ⟨e2, rfl⟩)⟩
theorem TN.ev {b : Bool} (h : TN X e σ H b) : Evl.EvT (semT X e) σ H b := fun H1 e1 Q q => semT_mono (h H1 e1) fun u H2 ⟨e2, hu⟩ => by subst hu; exact q H2 e2
theorem AV.of {es : List Expr} {t : TA} {vs : List V} (h : PA X es t) (q : Evl.EvA t σ H vs) : AV X es σ H vs := ⟨fun H1 e1 => semA_of h (q H1 e1 _ fun H2 e2 => ⟨e2, rfl⟩)⟩
theorem AV.ev {es : List Expr} {vs : List V} (h : AV X es σ H vs) : Evl.EvA (semA X es) σ H vs := fun H1 e1 Q q => semA_mono (h H1 e1) fun u H2 ⟨e2, hu⟩ => by subst hu; exact q H2 e2
theorem EN.mono {φ : V → Hp → Prop} (h : EN X e σ H φ) (x : Ex H H') : EN X e σ H' φ := ⟨fun H1 e1 => h H1 (x.trans e1)⟩
theorem EN.weak {φ ψ : V → Hp → Prop} (h : EN X e σ H φ) (k : ∀ v H2, Ex H H2 → φ v H2 → ψ v H2) : EN X e σ H ψ := ⟨fun H1 e1 => sem_mono (h H1 e1) fun v H2 ⟨e2, q⟩ => ⟨e2, k v H2 (e1.trans e2) q⟩⟩
theorem EV.is (h : EV X e σ H v) (q : v = w) : EV X e σ H w := q ▸ h
theorem TN.is {b b' : Bool} (h : TN X e σ H b) (q : b = b') : TN X e σ H b' := q ▸ h
theorem EM.en {φ R : V → Hp → Prop} (h : EN X e σ H φ) (k : ∀ v H2, Ex H H2 → φ v H2 → R v H2) : EM X e σ H R := ⟨fun H1 e1 => sem_mono (h H1 e1) fun v H2 ⟨e2, q⟩ => ⟨H2, Ex.refl H2, k v H2 (e1.trans e2) q⟩⟩
theorem EM.ev {R : V → Hp → Prop} (h : EV X e σ H v) (k : R v H) : EM X e σ H R := ⟨fun H1 e1 => sem_mono (h H1 e1) fun u H2 ⟨e2, q⟩ => ⟨H, e1.trans e2, by subst q; exact k⟩⟩
theorem EM.of {te : TE} {R : V → Hp → Prop} (h : PE X e te) (q : ∀ H1, Ex H H1 → te σ H1 fun v H2 => ∃ Hb, Ex Hb H2 ∧ R v Hb) : EM X e σ H R := ⟨fun H1 e1 => sem_of h (q H1 e1)⟩
theorem EN.of {te : TE} {φ : V → Hp → Prop} (h : PE X e te) (q : ∀ H1, Ex H H1 → te σ H1 fun v H2 => Ex H1 H2 ∧ φ v H2) : EN X e σ H φ := ⟨fun H1 e1 => sem_of h (q H1 e1)⟩
theorem EM.weak {R R' : V → Hp → Prop} (h : EM X e σ H R) (k : ∀ v Hb, R v Hb → R' v Hb) : EM X e σ H R' := ⟨fun H1 e1 => sem_mono (h H1 e1) fun v _ ⟨Hb, e2, q⟩ => ⟨Hb, e2, k v Hb q⟩⟩
/-- a new object on what is known -/
theorem ex_upd {H H1 : Hp} {p : Addr} {o : HO} (e : Ex H H1) : Ex (upd H p o) (upd H1 p o) := fun b u q => by
  by_cases hb : b = p
  · subst hb; rw [upd_same] at q ⊢; exact q
  · rw [upd_ne hb] at q ⊢; exact e b u q

/-! ### argument lists -/
theorem AM.nil {R : List V → Hp → Prop} (h : R [] H) : AM X [] σ H R := ⟨fun H1 e1 => semA_of pa_nil ⟨H, e1, h⟩⟩
theorem AM.cons {es : List Expr} {R : List V → Hp → Prop} (h : EM X e σ H fun x Hb => AM X es σ Hb fun xs Hc => R (x :: xs) Hc) (hs : starEach (e :: es) X.env = (false, eval e X.env) :: starEach es X.env := by rfl) : AM X (e :: es) σ H R := ⟨fun H1 e1 =>
  semA_of (pa_cons pe_sem pa_sem hs) (sem_mono (h H1 e1) fun x H2 ⟨Hb, e2, q⟩ => semA_mono (q H2 e2) fun xs H3 r => r)⟩
theorem AV.nil : AV X [] σ H [] := AV.of pa_nil ea_nil
theorem AV.cons {es : List Expr} {vs : List V} (h : EV X e σ H v) (r : AV X es σ H vs) (hs : starEach (e :: es) X.env = (false, eval e X.env) :: starEach es X.env := by rfl) : AV X (e :: es) σ H (v :: vs) := AV.of (pa_cons pe_sem pa_sem hs) (ea_cons h.ev r.ev)
theorem AM.av {es : List Expr} {vs : List V} {R : List V → Hp → Prop} (h : AV X es σ H vs) (k : R vs H) : AM X es σ H R := ⟨fun H1 e1 => semA_mono (h H1 e1) fun u H2 ⟨e2, q⟩ => ⟨H, e1.trans e2, by subst q; exact k⟩⟩

/-! ### names, constants, numbers -/
theorem ev_nm (i : Nat) {x : Str} {pos : Pos} (h : σ[i]? = some (some v) := by rfl) (hN : X.N[i]? = some x := by rfl) (hv : Vis X.env.scope x := by first | exact Or.inl rfl | exact Or.inr (Or.inl rfl) | exact Or.inr (Or.inr rfl))
    (hd : (x == ("__debug__" : Str)) = false := by decide) (hcd : (x == ("__classdict__" : Str)) = false := by decide) : EV X (.Name x pos) σ H v := EV.of (pe_var hN hv hd hcd) (Evl.ev_var h)
theorem ev_i {n : Int} {j pos} : EV X (.Constant (.int n) j pos) σ H (.int n) := EV.of pe_int ev_c
theorem ev_b {n : Bool} {j pos} : EV X (.Constant (.bool n) j pos) σ H (.bl n) := EV.of pe_bl ev_c
theorem ev_n {j pos} : EV X (.Constant .none j pos) σ H .non := EV.of pe_non ev_c
theorem ev_s {n : Str} {j pos} : EV X (.Constant (.str n) j pos) σ H (.str n) := EV.of pe_str ev_c
variable {n m : Int} {pos : Pos}
theorem ev_add (ha : EV X a σ H (.int n)) (hb : EV X b σ H (.int m)) : EV X (.BinOp a .Add b pos) σ H (.int (n + m)) := EV.of (pe_op op_add pe_sem pe_sem) (ev_op ha.ev hb.ev rv_I0)
theorem ev_sub (ha : EV X a σ H (.int n)) (hb : EV X b σ H (.int m)) : EV X (.BinOp a .Sub b pos) σ H (.int (n - m)) := EV.of (pe_op op_sub pe_sem pe_sem) (ev_op ha.ev hb.ev rv_I0)
theorem ev_mul (ha : EV X a σ H (.int n)) (hb : EV X b σ H (.int m)) (hc : CMul n m) : EV X (.BinOp a .Mult b pos) σ H (.int (n * m)) := EV.of (pe_op op_mul pe_sem pe_sem) (ev_op ha.ev hb.ev (rv_I hc))
theorem ev_mod (ha : EV X a σ H (.int n)) (hb : EV X b σ H (.int m)) (hc : 0 < m) : EV X (.BinOp a .Mod b pos) σ H (.int (n % m)) := EV.of (pe_op op_mod pe_sem pe_sem) (ev_op ha.ev hb.ev (rv_I hc))
theorem ev_div (ha : EV X a σ H (.int n)) (hb : EV X b σ H (.int m)) (hc : CDivN n m) : EV X (.BinOp a .FloorDiv b pos) σ H (.int (n.fdiv m)) := EV.of (pe_op op_fdivN pe_sem pe_sem) (ev_op ha.ev hb.ev (rv_I hc))
theorem ev_pow (ha : EV X a σ H (.int n)) (hb : EV X b σ H (.int m)) (hc : CPow n m) : EV X (.BinOp a .Pow b pos) σ H (.int (n ^ m.toNat)) := EV.of (pe_op op_pow pe_sem pe_sem) (ev_op ha.ev hb.ev (rv_I hc))
theorem ev_neg (ha : EV X a σ H (.int n)) : EV X (.UnaryOp .USub a pos) σ H (.int (-n)) := EV.of (pe_un un_neg pe_sem) (ev_un ha.ev ru_neg)
/-- int(x) of an int -/
theorem ev_int {p q : Pos} {x : Str} (hx : x = ("int" : Str)) (hg : Gl X "int") (hm : X.mg "int" = none) (ha : EV X a σ H (.int n)) (hs : starEach [a] X.env = (false, eval a X.env) :: starEach [] X.env := by rfl) : EV X (.Call (.Name x p) [a] [] q) σ H (.int n) := by
  subst hx
  exact EV.of (pe_callTy call_int1 hg hm (by decide +kernel) (pa_cons pe_sem pa_nil hs) (he := hs)) (ev_cb (ea_cons ha.ev ea_nil) fun H1 _ Q q => .inl ⟨_, rfl, q H1 (Ex.refl H1)⟩)
/-! ### comparisons, truth -/
variable {bb cc : Bool}
theorem ev_lt (ha : EV X a σ H (.int n)) (hb : EV X b σ H (.int m)) : EV X (.Compare a [.Lt] [b] pos) σ H (.bl (decide (n < m))) := EV.of (pe_cmpR op_lt pe_sem pe_sem (nomark _)) (ev_op ha.ev hb.ev rv_I0)
theorem ev_gt (ha : EV X a σ H (.int n)) (hb : EV X b σ H (.int m)) : EV X (.Compare a [.Gt] [b] pos) σ H (.bl (decide (m < n))) := EV.of (pe_cmpR op_gt pe_sem pe_sem (nomark _)) (ev_op ha.ev hb.ev rv_I0)
theorem ev_ge (ha : EV X a σ H (.int n)) (hb : EV X b σ H (.int m)) : EV X (.Compare a [.GtE] [b] pos) σ H (.bl (decide (m ≤ n))) := EV.of (pe_cmpR op_ge pe_sem pe_sem (nomark _)) (ev_op ha.ev hb.ev rv_I0)
theorem ev_le (ha : EV X a σ H (.int n)) (hb : EV X b σ H (.int m)) : EV X (.Compare a [.LtE] [b] pos) σ H (.bl (decide (n ≤ m))) := EV.of (pe_cmpR op_le pe_sem pe_sem (nomark _)) (ev_op ha.ev hb.ev rv_I0)
theorem ev_eq (ha : EV X a σ H v) (hb : EV X b σ H w) (hs : scal v w = true) : EV X (.Compare a [.Eq] [b] pos) σ H (.bl (decide (v = w))) := EV.of (pe_cmpR op_eq pe_sem pe_sem (nomark _)) (ev_op ha.ev hb.ev (rv_eq hs))
theorem ev_ne (ha : EV X a σ H v) (hb : EV X b σ H w) (hs : scal v w = true) : EV X (.Compare a [.NotEq] [b] pos) σ H (.bl (!decide (v = w))) := EV.of (pe_cmpR op_ne pe_sem pe_sem (nomark _)) (ev_op ha.ev hb.ev (rv_ne hs))
theorem ev_not (ha : EV X a σ H (.bl bb)) : EV X (.UnaryOp .Not a pos) σ H (.bl (!bb)) := EV.of (pe_not pe_sem) (ev_notV ha.ev)
theorem tn_v (h : EV X e σ H (.bl bb)) (he : ∀ whole, isTrue e X.env whole = (do let v ← whole; standAt e.pos; holding [v] (truthy v)) := by intro _; rfl) : TN X e σ H bb := TN.of (pt_val pe_sem he) (et_B h.ev)
theorem tn_not (h : TN X a σ H bb) : TN X (.UnaryOp .Not a pos) σ H (!bb) := TN.of (pt_not pt_sem) (et_not h.ev)
theorem ev_if (ht : TN X c σ H bb) (h1 : bb = true → EV X a σ H v) (h2 : bb = false → EV X b σ H v) : EV X (.IfExp c a b pos) σ H v := EV.of (pe_ifExp pt_sem pe_sem pe_sem) (Evl.ev_if ht.ev (fun q => (h1 q).ev) fun q => (h2 q).ev)
theorem em_if {R : V → Hp → Prop} (ht : TN X c σ H bb) (h1 : bb = true → EM X a σ H R) (h2 : bb = false → EM X b σ H R) : EM X (.IfExp c a b pos) σ H R := EM.of (pe_ifExp pt_sem pe_sem pe_sem) fun H1 e1 => semT_mono (ht H1 e1) fun b' H2 ⟨e2, q⟩ => by
  subst q
  cases b' with
  | true => exact h1 rfl H2 (e1.trans e2)
  | false => exact h2 rfl H2 (e1.trans e2)
theorem en_if {φ : V → Hp → Prop} (ht : TN X c σ H bb) (h1 : bb = true → EN X a σ H φ) (h2 : bb = false → EN X b σ H φ) : EN X (.IfExp c a b pos) σ H φ := EN.of (pe_ifExp pt_sem pe_sem pe_sem) fun H1 e1 => semT_mono (ht H1 e1) fun b' H2 ⟨e2, q⟩ => by
  subst q
  cases b' with
  | true => exact sem_mono (h1 rfl H2 (e1.trans e2)) fun v H3 ⟨e3, q⟩ => ⟨e2.trans e3, q⟩
  | false => exact sem_mono (h2 rfl H2 (e1.trans e2)) fun v H3 ⟨e3, q⟩ => ⟨e2.trans e3, q⟩

/-! ### items, slices, lengths -/
theorem ev_ixL {p : Addr} {xs : List V} (ha : EV X a σ H (.ref p)) (hb : EV X b σ H (.int n)) (h : SqL X.K H p xs) (g : atI xs n = some v) (hs : PlainIx b := by exact fun _ _ => rfl) : EV X (.Subscript a b pos) σ H v := EV.of (pe_ix ix_list pe_sem pe_sem hs) (ev_op ha.ev hb.ev (rv_ixL h g))
theorem ev_ixT {p : Addr} {xs : List V} (ha : EV X a σ H (.ref p)) (hb : EV X b σ H (.int n)) (h : SqT X.K H p xs) (g : atI xs n = some v) (hs : PlainIx b := by exact fun _ _ => rfl) : EV X (.Subscript a b pos) σ H v := EV.of (pe_ix ix_tup pe_sem pe_sem hs) (ev_op ha.ev hb.ev (rv_ixT h g))
theorem ev_ixS {z : Str} {c : Nat} (ha : EV X a σ H (.str z)) (hb : EV X b σ H (.int n)) (h : z.length ≤ 100000) (g : atI z.cps.toList n = some c) (hs : PlainIx b := by exact fun _ _ => rfl) : EV X (.Subscript a b pos) σ H (.str ⟨#[c]⟩) := EV.of (pe_ix ix_str pe_sem pe_sem hs) (ev_op ha.ev hb.ev (rv_ixS h g))
theorem ev_dget {p : Addr} {kvs : List (Key × V)} {k : Key} (hu : X.A.units + 1 < cLine) (ha : EV X a σ H (.ref p)) (hb : EV X b σ H (kV k)) (h : H p = some (.dK kvs)) (g : valV kvs k = some v) (hs : NoSl b := by exact fun _ _ => rfl) : EV X (.Subscript a b pos) σ H v :=
  EV.of (pe_dget hu pe_sem pe_sem hs) fun H1 e1 Q q => ha.ev H1 e1 _ fun H2 e2 => hb.ev H2 (e1.trans e2) _ fun H3 e3 => ⟨p, v, rfl, g ▸ DGet.k (((e1.trans e2).trans e3) _ _ h), q H3 (e2.trans e3)⟩
theorem ev_fld {p C dx : Addr} {fs : List (Str × V)} {nm : Str} (ha : EV X a σ H (.ref p)) (h : H p = some (.ins C dx fs)) (hc : Cls X.K C) (hn : NoAttr X.K C nm) (g : fs.lookup nm = some v) (hb : attributeBase a nm X.env (eval a X.env) = eval a X.env := by rfl) : EV X (.Attribute a nm pos) σ H v :=
  EV.of (pe_fld pe_sem hb) fun H1 e1 Q q => ha.ev H1 e1 _ fun H2 e2 => ⟨p, C, dx, fs, v, rfl, (e1.trans e2) _ _ h, hc, hn, g, q H2 e2⟩
/-- len(list), len(tuple), len(text) -/
theorem ev_len {p q : Pos} {r : Addr} {xs : List V} (hg : Gl X "len") (hm : X.mg "len" = none) (ha : EV X a σ H (.ref r)) (h : SqL X.K H r xs ∨ SqT X.K H r xs) (hs : starEach [a] X.env = (false, eval a X.env) :: starEach [] X.env := by rfl) : EV X (.Call (.Name "len" p) [a] [] q) σ H (.int (xs.length : Int)) :=
  EV.of (pe_callB call_len_seq hg hm PySem.boot_len (pa_cons pe_sem pa_nil hs) (he := hs)) (ev_cb (ea_cons ha.ev ea_nil) fun H1 e1 Q q => ⟨r, xs, rfl, h.imp (ex_l e1) (ex_t e1), q H1 (Ex.refl H1)⟩)
theorem ev_lenS {p q : Pos} {z : Str} (hg : Gl X "len") (hm : X.mg "len" = none) (ha : EV X a σ H (.str z)) (h : z.length ≤ sizeLine) (hs : starEach [a] X.env = (false, eval a X.env) :: starEach [] X.env := by rfl) : EV X (.Call (.Name "len" p) [a] [] q) σ H (.int (z.length : Int)) :=
  EV.of (pe_callB call_len_str hg hm PySem.boot_len (pa_cons pe_sem pa_nil hs) (he := hs)) (ev_cb (ea_cons ha.ev ea_nil) fun H1 e1 Q q => ⟨z, rfl, h, q H1 (Ex.refl H1)⟩)
theorem ev_max2 {p q : Pos} (hc : X.calm = true) (hg : Gl X "max") (hm : X.mg "max" = none) (ha : EV X a σ H (.int n)) (hb : EV X b σ H (.int m)) (hs : starEach [a, b] X.env = (false, eval a X.env) :: starEach [b] X.env := by rfl) (hs' : starEach [b] X.env = (false, eval b X.env) :: starEach [] X.env := by rfl)
    (hpl : (backTo q (starEach [b] X.env)).any (·.1) = false := by rfl) : EV X (.Call (.Name "max" p) [a, b] [] q) σ H (.int (if m > n then m else n)) :=
  EV.of (pe_callB (call_max2 hc) hg hm (by decide +kernel) (pa_cons pe_sem (pa_cons pe_sem pa_nil hs') hs) (he := hs) (hpl := hpl)) (ev_cb (ea_cons ha.ev (ea_cons hb.ev ea_nil)) fun H1 e1 Q q => ⟨n, m, rfl, q H1 (Ex.refl H1)⟩)

/-! ### displays: a new list, a new tuple -/
theorem em_lst {es : List Expr} {R : V → Hp → Prop} (h : AM X es σ H fun vs Hb => vs.length ≤ 100000 ∧ ∀ p, Hb p = none → R (.ref p) (upd Hb p (.lst vs))) : EM X (.List es pos) σ H R := EM.of (pe_lst pa_sem) fun H1 e1 => semA_mono (h H1 e1) fun vs H2 ⟨Hb, e2, hl, k⟩ => ⟨sz_of hl, fun p hp => ⟨_, ex_upd e2, k p (fresh_back e2 hp)⟩⟩
theorem em_tup {es : List Expr} {R : V → Hp → Prop} {x1} (h : AM X es σ H fun vs Hb => vs.length ≤ 100000 ∧ ∀ p, Hb p = none → R (.ref p) (upd Hb p (.tup vs))) : EM X (.Tuple es x1 pos) σ H R := EM.of (pe_tup pa_sem) fun H1 e1 => semA_mono (h H1 e1) fun vs H2 ⟨Hb, e2, hl, k⟩ => ⟨sz_of hl, fun p hp => ⟨_, ex_upd e2, k p (fresh_back e2 hp)⟩⟩
/-- .. of values that make nothing -/
theorem em_lstV {es : List Expr} {vs : List V} {R : V → Hp → Prop} (h : AV X es σ H vs) (hl : vs.length ≤ 100000) (k : ∀ p, H p = none → R (.ref p) (upd H p (.lst vs))) : EM X (.List es pos) σ H R := em_lst (AM.av h ⟨hl, k⟩)
theorem em_tupV {es : List Expr} {vs : List V} {R : V → Hp → Prop} {x1} (h : AV X es σ H vs) (hl : vs.length ≤ 100000) (k : ∀ p, H p = none → R (.ref p) (upd H p (.tup vs))) : EM X (.Tuple es x1 pos) σ H R := em_tup (AM.av h ⟨hl, k⟩)
theorem en_lstV {es : List Expr} {vs : List V} (h : AV X es σ H vs) (hl : vs.length ≤ 100000) : EN X (.List es pos) σ H fun v H2 => ∃ p, v = .ref p ∧ H p = none ∧ H2 p = some (.lst vs) := EN.of (pe_lst pa_sem) fun H1 e1 => semA_mono (h H1 e1) fun us H2 ⟨e2, q⟩ => by
  subst q
  exact ⟨sz_of hl, fun p hp => ⟨e2.trans (Ex.new hp), p, rfl, fresh_back (e1.trans e2) hp, upd_same⟩⟩
theorem en_tupV {es : List Expr} {vs : List V} {x1} (h : AV X es σ H vs) (hl : vs.length ≤ 100000) : EN X (.Tuple es x1 pos) σ H fun v H2 => ∃ p, v = .ref p ∧ H p = none ∧ H2 p = some (.tup vs) := EN.of (pe_tup pa_sem) fun H1 e1 => semA_mono (h H1 e1) fun us H2 ⟨e2, q⟩ => by
  subst q
  exact ⟨sz_of hl, fun p hp => ⟨e2.trans (Ex.new hp), p, rfl, fresh_back (e1.trans e2) hp, upd_same⟩⟩

/-! ### calls of own defs -/
theorem em_call {CX : CXT} {lv : Nat} {g : Addr} {fd : FuncData} {ps : List Str} {sp : Sp} {dvs : List V} {ds : List Value} {E : XK} {nm : Str} {p q : Pos} {es : List Expr} {R : V → Hp → Prop}
    (F : FnOk X.prog X.w X.K X.mg X.base CX lv g fd ps sp) (hr : Room lv X.A) (hg : Gl X nm) (hm : X.mg nm = some (.ref g)) (hk : PySem.W.keepIn X.K (.ref g) = true) (hb : Binds X.K fd ps ds) (hd : Vals dvs ds) (hx : Passes CX X E)
    (h : AM X (e :: es) σ H fun vs Hb => ∀ H2, Ex Hb H2 → sp (vs ++ dvs) H2 (fun v H3 => ∃ Hc, Ex Hc H3 ∧ R v Hc) E)
    (hdb : (nm == ("__debug__" : Str)) = false := by decide) (he : starEach (e :: es) X.env = (false, eval e X.env) :: starEach es X.env := by rfl) (hpl : (backTo q (starEach es X.env)).any (·.1) = false := by rfl) :
    EM X (.Call (.Name nm p) (e :: es) [] q) σ H R := EM.of (pe_call F hr hg hm hk hb hd hx pa_sem hdb he hpl) fun H1 e1 => semA_mono (h H1 e1) fun vs H2 ⟨Hb, e2, k⟩ => k H2 e2
theorem en_call {CX : CXT} {lv : Nat} {g : Addr} {fd : FuncData} {ps : List Str} {sp : Sp} {dvs : List V} {ds : List Value} {E : XK} {nm : Str} {p q : Pos} {es : List Expr} {us : List V} {φ : V → Hp → Prop}
    (F : FnOk X.prog X.w X.K X.mg X.base CX lv g fd ps sp) (hr : Room lv X.A) (hg : Gl X nm) (hm : X.mg nm = some (.ref g)) (hk : PySem.W.keepIn X.K (.ref g) = true) (hb : Binds X.K fd ps ds) (hd : Vals dvs ds) (hx : Passes CX X E)
    (ha : AV X (e :: es) σ H us) (h : ∀ H1, Ex H H1 → sp (us ++ dvs) H1 (fun v H2 => Ex H1 H2 ∧ φ v H2) E)
    (hsp : ∀ vs H1 (Q Q' : VK), (∀ v H', Q v H' → Q' v H') → sp vs H1 Q E → sp vs H1 Q' E)
    (hdb : (nm == ("__debug__" : Str)) = false := by decide) (he : starEach (e :: es) X.env = (false, eval e X.env) :: starEach es X.env := by rfl) (hpl : (backTo q (starEach es X.env)).any (·.1) = false := by rfl) :
    EN X (.Call (.Name nm p) (e :: es) [] q) σ H φ := EN.of (pe_call F hr hg hm hk hb hd hx pa_sem hdb he hpl) fun H1 e1 => semA_mono (ha H1 e1) fun vs H2 ⟨e2, k⟩ => by
  subst k
  exact hsp _ _ _ _ (fun v H' z => ⟨e2.trans z.1, z.2⟩) (h H2 (e1.trans e2))

/-! ### statements -/
variable {D : Ends} {rest ss tt : List Stmt} {st : Stmt}
structure RX (X : Cx) (ss : List Stmt) (D : Ends) (σ : L2.St) (H : Hp)  : Prop where
  run : ∀ H1, Ex H H1 → semS X ss D σ H1
instance {X : Cx} {ss : List Stmt} {D : Ends} {σ : L2.St} {H : Hp} : CoeFun (RX X ss D σ H) fun _ => ∀ H1, Ex H H1 → semS X ss D σ H1 := ⟨RX.run⟩
def UpS (P : L2.St → Hp → Prop) : L2.St → Hp → Prop := fun σ H => ∃ Hb, Ex Hb H ∧ P σ Hb
theorem RX.mono (h : RX X ss D σ H) (q : Ex H H') : RX X ss D σ H' := ⟨fun H1 e1 => h H1 (q.trans e1)⟩
theorem rx_end (k : ∀ H1, Ex H H1 → D.nx σ H1) : RX X [] D σ H := ⟨fun H1 e1 => semS_of pss_nil (k H1 e1)⟩
theorem rx_of {t : TS} (h : PS X st t) (q : ∀ H1, Ex H H1 → t { D with nx := semS X rest D } σ H1) : RX X (st :: rest) D σ H := ⟨fun H1 e1 => semS_of (pss_cons h pss_sem) (q H1 e1)⟩
/-- what stands behind an inner block -/
theorem rx_out {D' : Ends} (hD : D'.nx = semS X rest D) (h : RX X rest D σ H) : RX X [] D' σ H := rx_end fun H1 e1 => by rw [hD]; exact h H1 e1
theorem rx_up {P : L2.St → Hp → Prop} (hD : D.nx = UpS P) (h : P σ H) : RX X [] D σ H := rx_end fun H1 e1 => by rw [hD]; exact ⟨H, e1, h⟩
variable {pos' : Pos} {nm : Str}
theorem rx_setM (i : Nat) (h : EM X e σ H fun v Hb => RX X rest D (σ.set i (some v)) Hb) (hN : X.N.Nodup) (hi : X.N[i]? = some nm := by rfl) (hx : Loc X.env.scope nm := by first | exact Or.inl rfl | exact Or.inr rfl)
    (hs : swapsWith e (some (.Name nm pos')) pos.line X.env = pure false := by rfl) (hf : X.fn nm = true ∨ X.env.scope.names.lookup nm = some .local := by first | exact .inl rfl | exact .inr rfl) : RX X (.Assign [.Name nm pos'] e pos :: rest) D σ H :=
  rx_of (ps_set hN hi hx pe_sem hs hf) fun H1 e1 => sem_mono (h H1 e1) fun v H2 ⟨Hb, e2, k⟩ => k H2 e2
theorem rx_set (i : Nat) (h : EV X e σ H v) (k : RX X rest D (σ.set i (some v)) H) (hN : X.N.Nodup) (hi : X.N[i]? = some nm := by rfl) (hx : Loc X.env.scope nm := by first | exact Or.inl rfl | exact Or.inr rfl)
    (hs : swapsWith e (some (.Name nm pos')) pos.line X.env = pure false := by rfl) (hf : X.fn nm = true ∨ X.env.scope.names.lookup nm = some .local := by first | exact .inl rfl | exact .inr rfl) : RX X (.Assign [.Name nm pos'] e pos :: rest) D σ H := rx_setM i (EM.ev h k) hN hi hx hs hf
theorem rx_exprM (h : EM X e σ H fun _ Hb => RX X rest D σ Hb) (hs : swapsWith e none pos.line X.env = pure false := by rfl) : RX X (.Expr e pos :: rest) D σ H :=
  rx_of (ps_expr pe_sem hs) fun H1 e1 => sem_mono (h H1 e1) fun v H2 ⟨Hb, e2, k⟩ => k H2 e2
theorem rx_retM (h : EM X e σ H fun v Hb => ∀ H1, Ex Hb H1 → D.rt v H1) : RX X (.Return (some e) pos :: rest) D σ H :=
  rx_of (ps_ret pe_sem) fun H1 e1 => sem_mono (h H1 e1) fun v H2 ⟨Hb, e2, k⟩ => k H2 e2
theorem rx_ret (h : EV X e σ H v) (k : ∀ H1, Ex H H1 → D.rt v H1) : RX X (.Return (some e) pos :: rest) D σ H := rx_retM (EM.ev h k)
theorem rx_if (ht : TN X c σ H bb) (h1 : bb = true → RX X ss { D with nx := semS X rest D } σ H) (h2 : bb = false → RX X tt { D with nx := semS X rest D } σ H) : RX X (.If c ss tt pos :: rest) D σ H :=
  rx_of (ps_if pt_sem pss_sem pss_sem) fun H1 e1 => semT_mono (ht H1 e1) fun b' H2 ⟨e2, q⟩ => by
    subst q
    cases b' with
    | true => exact h1 rfl H2 (e1.trans e2)
    | false => exact h2 rfl H2 (e1.trans e2)
/-- an if without else -/
theorem rx_when (ht : TN X c σ H bb) (h1 : bb = true → RX X ss { D with nx := semS X rest D } σ H) (h2 : bb = false → RX X rest D σ H) : RX X (.If c ss [] pos :: rest) D σ H := rx_if ht h1 fun q => rx_out rfl (h2 q)
/-- d[k] = e -/
theorem rx_dput {o b : Expr} {p : Addr} {kvs : List (Key × V)} {k : Key} (hu : X.A.units + 1 < cLine) (hv : EV X e σ H v) (ho : EV X o σ H (.ref p)) (hb : EV X b σ H (kV k)) (h : H p = some (.dK kvs)) (hl : kvs.length < 100000) (q : RX X rest D σ (upd H p (.dK (putK kvs k v))))
    (hs : swapsWith e (some (.Subscript o b pos')) pos.line X.env = pure false := by rfl) : RX X (.Assign [.Subscript o b pos'] e pos :: rest) D σ H :=
  rx_of (ps_dput hu pe_sem pe_sem pe_sem hs) fun H1 e1 => hv.ev H1 e1 _ fun H2 e2 => ho.ev H2 (e1.trans e2) _ fun H3 e3 => hb.ev H3 ((e1.trans e2).trans e3) _ fun H4 e4 =>
    ⟨p, _, rfl, DPut.k ((((e1.trans e2).trans e3).trans e4) _ _ h) (sz_lt hl), q _ (ex_upd (((e1.trans e2).trans e3).trans e4))⟩
/-- d[k] = e, e makes something -/
theorem rx_dputM {o b : Expr} (hu : X.A.units + 1 < cLine) (hv : EM X e σ H fun v Hb => ∃ (p : Addr) (kvs : List (Key × V)) (k : Key), EV X o σ Hb (.ref p) ∧ EV X b σ Hb (kV k) ∧ Hb p = some (.dK kvs) ∧ kvs.length < 100000 ∧ RX X rest D σ (upd Hb p (.dK (putK kvs k v))))
    (hs : swapsWith e (some (.Subscript o b pos')) pos.line X.env = pure false := by rfl) : RX X (.Assign [.Subscript o b pos'] e pos :: rest) D σ H :=
  rx_of (ps_dput hu pe_sem pe_sem pe_sem hs) fun H1 e1 => sem_mono (hv H1 e1) fun v H2 ⟨Hb, e2, p, kvs, k, ho, hb, h, hl, q⟩ => ho.ev H2 e2 _ fun H3 e3 => hb.ev H3 (e2.trans e3) _ fun H4 e4 =>
    ⟨p, _, rfl, DPut.k (((e2.trans e3).trans e4) _ _ h) (sz_lt hl), q _ (ex_upd ((e2.trans e3).trans e4))⟩
/-- loops -/
theorem rx_forL (i : Nat) {l : Expr} {body : List Stmt} {r : Addr} {xs : List V} (hp : PassesOwn (model X.prog X.w) X.A X.env X.xe) (hc : X.calm = true) (hl : EV X l σ H (.ref r)) (hx : SqL X.K H r xs) (P : Nat → L2.St → Hp → Prop) (h0 : P 0 σ H)
    (hk : ∀ n σ' Hb, n ≤ xs.length → P n σ' Hb → SqL X.K Hb r xs) (hs : ∀ n x σ' Hb, xs[n]? = some x → P n σ' Hb → RX X body { D with nx := UpS (P (n + 1)), ct := UpS (P (n + 1)), bk := semS X rest D } (σ'.set i (some x)) Hb)
    (hd : ∀ σ' Hb, P xs.length σ' Hb → RX X rest D σ' Hb) (hN : X.N.Nodup) (hi : X.N[i]? = some nm := by rfl) (hlo : Loc X.env.scope nm := by first | exact Or.inl rfl | exact Or.inr rfl)
    (hf : X.fn nm = true ∨ X.env.scope.names.lookup nm = some .local := by first | exact .inl rfl | exact .inr rfl) (hfo : ∀ x, foldedSetIterable l X.env x = pure x := by intro _; rfl) : RX X (.For (.Name nm pos') l body [] pos :: rest) D σ H :=
  rx_of (ps_for hp hc (pi_list pe_sem) (pg_name hN hi hlo hf) pss_sem hfo) fun H1 e1 => s_forL (D := { D with nx := semS X rest D }) (EV.ev (EN.mono hl e1)) (ex_l e1 hx) (fun n => UpS (P n)) (fun H2 e2 => ⟨H, e1.trans e2, h0⟩)
    (fun n σ' H' hn ⟨Hb, e, p⟩ => ex_l e (hk n σ' Hb hn p)) (fun n x σ' H' hx ⟨Hb, e, p⟩ => hs n x σ' Hb hx p H' e) fun σ' H' ⟨Hb, e, p⟩ => hd σ' Hb p H' e
theorem rx_forT (i : Nat) {l : Expr} {body : List Stmt} {r : Addr} {xs : List V} (hp : PassesOwn (model X.prog X.w) X.A X.env X.xe) (hc : X.calm = true) (hl : EV X l σ H (.ref r)) (hx : SqT X.K H r xs) (P : Nat → L2.St → Hp → Prop) (h0 : P 0 σ H)
    (hk : ∀ n σ' Hb, n ≤ xs.length → P n σ' Hb → SqT X.K Hb r xs) (hs : ∀ n x σ' Hb, xs[n]? = some x → P n σ' Hb → RX X body { D with nx := UpS (P (n + 1)), ct := UpS (P (n + 1)), bk := semS X rest D } (σ'.set i (some x)) Hb)
    (hd : ∀ σ' Hb, P xs.length σ' Hb → RX X rest D σ' Hb) (hN : X.N.Nodup) (hi : X.N[i]? = some nm := by rfl) (hlo : Loc X.env.scope nm := by first | exact Or.inl rfl | exact Or.inr rfl)
    (hf : X.fn nm = true ∨ X.env.scope.names.lookup nm = some .local := by first | exact .inl rfl | exact .inr rfl) (hfo : ∀ x, foldedSetIterable l X.env x = pure x := by intro _; rfl) : RX X (.For (.Name nm pos') l body [] pos :: rest) D σ H :=
  rx_of (ps_for hp hc (pi_tup pe_sem) (pg_name hN hi hlo hf) pss_sem hfo) fun H1 e1 => s_forT (D := { D with nx := semS X rest D }) (EV.ev (EN.mono hl e1)) (ex_t e1 hx) (fun n => UpS (P n)) (fun H2 e2 => ⟨H, e1.trans e2, h0⟩)
    (fun n σ' H' hn ⟨Hb, e, p⟩ => ex_t e (hk n σ' Hb hn p)) (fun n x σ' H' hx ⟨Hb, e, p⟩ => hs n x σ' Hb hx p H' e) fun σ' H' ⟨Hb, e, p⟩ => hd σ' Hb p H' e
theorem rx_forR (i : Nat) {g : Expr} {body : List Stmt} {p q : Pos} (hp : PassesOwn (model X.prog X.w) X.A X.env X.xe) (hc : X.calm = true) (hg : Gl X "range") (hm : X.mg "range" = none) (hl : EV X g σ H (.int n)) (hn : 0 ≤ n ∧ n ≤ 100000) (P : Nat → L2.St → Hp → Prop) (h0 : P 0 σ H)
    (hs : ∀ (t : Nat) σ' Hb, (t : Int) < n → P t σ' Hb → RX X body { D with nx := UpS (P (t + 1)), ct := UpS (P (t + 1)), bk := semS X rest D } (σ'.set i (some (.int (t : Int)))) Hb)
    (hd : ∀ σ' Hb, P n.toNat σ' Hb → RX X rest D σ' Hb) (hN : X.N.Nodup) (hi : X.N[i]? = some nm := by rfl) (hlo : Loc X.env.scope nm := by first | exact Or.inl rfl | exact Or.inr rfl)
    (hf : X.fn nm = true ∨ X.env.scope.names.lookup nm = some .local := by first | exact .inl rfl | exact .inr rfl) (hst : starEach [g] X.env = (false, eval g X.env) :: starEach [] X.env := by rfl) : RX X (.For (.Name nm pos') (.Call (.Name "range" p) [g] [] q) body [] pos :: rest) D σ H :=
  rx_of (ps_for hp hc (pi_range1 hg hm (pa_cons pe_sem pa_nil hst) hst) (pg_name hN hi hlo hf) pss_sem) fun H1 e1 => s_forR1 (D := { D with nx := semS X rest D }) (ea_cons (EV.ev (EN.mono hl e1)) ea_nil) hn (fun n => UpS (P n)) (fun H2 e2 => ⟨H, e1.trans e2, h0⟩)
    (fun n σ' H' hx ⟨Hb, e, p⟩ => hs n σ' Hb hx p H' e) fun σ' H' ⟨Hb, e, p⟩ => hd σ' Hb p H' e

/-! ### comprehensions -/
/-- the tuples that stand, stand -/
def Tx (H H' : Hp) : Prop := ∀ a xs, H a = some (.tup xs) → H' a = some (.tup xs)
theorem Tx.refl (H : Hp) : Tx H H := fun _ _ h => h
theorem Tx.trans {H H1 H2 : Hp} (a : Tx H H1) (b : Tx H1 H2) : Tx H H2 := fun x o h => b x o (a x o h)
theorem _root_.Evl.Ex.tx {H H1 : Hp} (e : Ex H H1) : Tx H H1 := fun a xs h => e a _ h
theorem Tx.lst {H : Hp} {D : Addr} {xs ys : List V} (h : H D = some (.lst xs)) : Tx H (upd H D (.lst ys)) := fun a zs q => by
  rw [upd_ne (ne_of q h (fun z => nomatch z))]; exact q
theorem Tx.dK {H : Hp} {D : Addr} {xs ys : List (Key × V)} (h : H D = some (.dK xs)) : Tx H (upd H D (.dK ys)) := fun a zs q => by
  rw [upd_ne (ne_of q h (fun z => nomatch z))]; exact q
def blkE (X : Cx) (scope : Scope) (e : Expr) : TE := fun σ H Q => ∀ (s : Shared) (H' : Hp) (C : Addr) (cl : List (Str × Addr)) (fp : List Addr), semE (X.blk s H' scope (compEnvC scope cl C X.env) fp) e σ H Q
def blkT (X : Cx) (scope : Scope) (e : Expr) : TT := fun σ H Q => ∀ (s : Shared) (H' : Hp) (C : Addr) (cl : List (Str × Addr)) (fp : List Addr), semT (X.blk s H' scope (compEnvC scope cl C X.env) fp) e σ H Q
theorem pe_blk {scope : Scope} (s : Shared) (H' : Hp) (C : Addr) (cl : List (Str × Addr)) (fp : List Addr) : PE (X.blk s H' scope (compEnvC scope cl C X.env) fp) e (blkE X scope e) := ⟨fun pins s1 σ H Q I h => h s H' C cl fp pins s1 I⟩
theorem pt_blk {scope : Scope} (s : Shared) (H' : Hp) (C : Addr) (cl : List (Str × Addr)) (fp : List Addr) : PT (X.blk s H' scope (compEnvC scope cl C X.env) fp) e (blkT X scope e) := ⟨fun pins s1 σ H Q I h => h s H' C cl fp pins s1 I⟩
/-- the word of a comprehension's turns -/
def LcW (H : Hp) (D : Addr) (P : Nat → List V → Hp → Prop) (i : Nat) (H' : Hp) : Prop := ∃ acc : List V, acc.length ≤ i ∧ H D = none ∧ Ex H H' ∧ H' D = some (.lst acc) ∧ P i acc H'
theorem LcW.push {H : Hp} {D : Addr} {P : Nat → List V → Hp → Prop} {i : Nat} {acc : List V} {H4 : Hp} {v : V} (hP : ∀ n acc H1 H2, Tx H1 H2 → P n acc H1 → P n acc H2) (h1 : acc.length ≤ i) (h2 : H D = none) (h3 : Ex H H4) (h4 : H4 D = some (.lst acc)) (hi : i < 100000) (h5 : P (i + 1) (acc ++ [v]) H4) :
    ∃ ac, H4 D = some (.lst ac) ∧ ac.length < sizeLine ∧ LcW H D P (i + 1) (upd H4 D (.lst (ac ++ [v]))) :=
  ⟨acc, h4, sz_lt (by omega), acc ++ [v], by rw [List.length_append]; exact Nat.add_le_add_right h1 1, h2, Ex.mut h3 h2, upd_same, hP _ _ _ _ (Tx.lst h4) h5⟩
section
variable {elt l : Expr} {xn : Str} {px : Pos} {scope : Scope} {own : List (Str × Nat)} {r : Addr} {xs : List V}
theorem srcL (hl : EV X l σ H (.ref r)) (hx : SqL X.K H r xs) : EN X l σ H fun v H2 => ∃ r, v = .ref r ∧ SqL X.K H2 r xs := hl.weak fun v H2 e q => ⟨r, q, ex_l e hx⟩
theorem en_lcL (j : Nat) (hc : X.calm = true) (hN : X.N.Nodup) (ok : BlkOk X.N X.env.scope scope own) (hl : EN X l σ H fun v H2 => ∃ r, v = .ref r ∧ SqL X.K H2 r xs) (hz : xs.length ≤ 100000)
    (hg : ∀ (s : Shared) (H : Hp) (C : Addr) (cl : List (Str × Addr)) (fp : List Addr), PG (X.blk s H scope (compEnvC scope cl C X.env) fp) (.Name xn px) (gName j))
    (hw : ∀ v, wipe ((wipe σ (own.map (·.2))).set j (some v)) (own.map (·.2)) = wipe σ (own.map (·.2)))
    (P : Nat → List V → Hp → Prop) (hP : ∀ n acc H1 H2, Tx H1 H2 → P n acc H1 → P n acc H2) (h0 : P 0 [] H)
    (hs : ∀ n x acc Hb (s : Shared) (H' : Hp) (C : Addr) (cl : List (Str × Addr)) (fp : List Addr), xs[n]? = some x → Ex H Hb → P n acc Hb → EN (X.blk s H' scope (compEnvC scope cl C X.env) fp) elt ((wipe σ (own.map (·.2))).set j (some x)) Hb fun v H2 => P (n + 1) (acc ++ [v]) H2)
    (hfo : ∀ x, foldedSetIterable l X.env x = pure x := by intro _; rfl) :
    EN X (.ListComp elt [⟨.Name xn px, l, [], 0⟩] scope pos) σ H fun v H2 => ∃ D acc, v = .ref D ∧ H D = none ∧ H2 D = some (.lst acc) ∧ acc.length ≤ xs.length ∧ P xs.length acc H2 :=
  EN.of (pe_lc hc hN (pi_list pe_sem) ok hg (fun _ _ _ _ _ => pts_nil) (fun s H' C cl fp => pe_blk s H' C cl fp) hfo) fun H1 e1 => sem_mono (hl H1 e1) fun v H2 ⟨e2, r, er, hx⟩ => ⟨r, er, ⟨xs, hx⟩, fun D hD =>
    lc_list (xs := xs) (LcW H2 D P) ⟨[], Nat.le_refl _, hD, Ex.new hD, upd_same, hP _ _ _ _ (Tx.trans (e1.trans e2).tx (Ex.new hD).tx) h0⟩ (fun i H' _ p => let ⟨_, _, _, e, _, _⟩ := p; ex_l e hx)
      (fun i x H' hi ⟨acc, q1, q2, q3, q4, q5⟩ => ⟨hw x, by
        refine iteT (B := LcW H2 D P (i + 1) H') ?_
        exact fun s H'' C cl fp => sem_mono (hs i x acc H' s H'' C cl fp hi ((e1.trans e2).trans q3) q5 H' (Ex.refl H')) fun v H4 ⟨e4, q6⟩ =>
          LcW.push hP q1 q2 (q3.trans e4) (e4 D _ q4) (by have := (List.getElem?_eq_some_iff.mp hi).1; omega) q6⟩)
      (fun H' ⟨acc, q1, q2, q3, q4, q5⟩ => ⟨e2.trans q3, D, acc, rfl, fresh_back (e1.trans e2) q2, q4, q1, q5⟩)⟩
/-- .. with a test -/
theorem en_lcLt (j : Nat) {tst : Expr} (hc : X.calm = true) (hN : X.N.Nodup) (ok : BlkOk X.N X.env.scope scope own) (hl : EN X l σ H fun v H2 => ∃ r, v = .ref r ∧ SqL X.K H2 r xs) (hz : xs.length ≤ 100000)
    (hg : ∀ (s : Shared) (H : Hp) (C : Addr) (cl : List (Str × Addr)) (fp : List Addr), PG (X.blk s H scope (compEnvC scope cl C X.env) fp) (.Name xn px) (gName j))
    (hw : ∀ v, wipe ((wipe σ (own.map (·.2))).set j (some v)) (own.map (·.2)) = wipe σ (own.map (·.2)))
    (P : Nat → List V → Hp → Prop) (hP : ∀ n acc H1 H2, Tx H1 H2 → P n acc H1 → P n acc H2) (h0 : P 0 [] H)
    (hs : ∀ n x acc Hb (s : Shared) (H' : Hp) (C : Addr) (cl : List (Str × Addr)) (fp : List Addr), xs[n]? = some x → Ex H Hb → P n acc Hb →
      TD (X.blk s H' scope (compEnvC scope cl C X.env) fp) tst ((wipe σ (own.map (·.2))).set j (some x)) Hb fun b H3 => if b = true then
        ∀ (s : Shared) (H' : Hp) (C : Addr) (cl : List (Str × Addr)) (fp : List Addr), EN (X.blk s H' scope (compEnvC scope cl C X.env) fp) elt ((wipe σ (own.map (·.2))).set j (some x)) H3 fun v H2 => P (n + 1) (acc ++ [v]) H2 else P (n + 1) acc H3)
    (hfo : ∀ x, foldedSetIterable l X.env x = pure x := by intro _; rfl) :
    EN X (.ListComp elt [⟨.Name xn px, l, [tst], 0⟩] scope pos) σ H fun v H2 => ∃ D acc, v = .ref D ∧ H D = none ∧ H2 D = some (.lst acc) ∧ acc.length ≤ xs.length ∧ P xs.length acc H2 :=
  EN.of (pe_lc hc hN (pi_list pe_sem) ok hg (fun s H' C cl fp => pts_one (pt_blk s H' C cl fp)) (fun s H' C cl fp => pe_blk s H' C cl fp) hfo) fun H1 e1 => sem_mono (hl H1 e1) fun v H2 ⟨e2, r, er, hx⟩ => ⟨r, er, ⟨xs, hx⟩, fun D hD =>
    lc_list (xs := xs) (LcW H2 D P) ⟨[], Nat.le_refl _, hD, Ex.new hD, upd_same, hP _ _ _ _ (Tx.trans (e1.trans e2).tx (Ex.new hD).tx) h0⟩ (fun i H' _ p => let ⟨_, _, _, e, _, _⟩ := p; ex_l e hx)
      (fun i x H' hi ⟨acc, q1, q2, q3, q4, q5⟩ => ⟨hw x, fun s H'' C cl fp => semT_mono (hs i x acc H' s H'' C cl fp hi ((e1.trans e2).trans q3) q5 H' (Ex.refl H')) fun b H3 ⟨e3, q6⟩ => by
        cases b with
        | true =>
          rw [if_pos rfl] at q6 ⊢
          exact fun s H'' C cl fp => sem_mono (q6 s H'' C cl fp H3 (Ex.refl H3)) fun v H4 ⟨e4, q7⟩ =>
            LcW.push hP q1 q2 ((q3.trans e3).trans e4) ((e3.trans e4) D _ q4) (by have := (List.getElem?_eq_some_iff.mp hi).1; omega) q7
        | false =>
          rw [if_neg Bool.false_ne_true] at q6 ⊢
          exact ⟨acc, Nat.le_succ_of_le q1, q2, q3.trans e3, e3 D _ q4, q6⟩⟩)
      (fun H' ⟨acc, q1, q2, q3, q4, q5⟩ => ⟨e2.trans q3, D, acc, rfl, fresh_back (e1.trans e2) q2, q4, q1, q5⟩)⟩
end
end
end Y
set_option Elab.async false
set_option linter.all false
set_option maxRecDepth 100000
set_option maxHeartbeats 4000000
namespace Y
open PySem PySem.Spec PyProof.Rows L2 Evl
section
variable {X : Cx} {σ : L2.St} {H H' : Hp} {v w x y z : V} {e a b c f o : Expr} {i j k : Nat} {K : PySem.W.Frag} {n m : Int} {pos pos' apos cpos : Pos} {D : Ends} {rest : List Stmt} {R : V → Hp → Prop} {l p : Addr} {xs ys : List V}
theorem ev_dgetS {kvs : List (Key × V)} {t : Str} (hu : X.A.units + 1 < cLine) (ha : EV X a σ H (.ref p)) (hb : EV X b σ H (.str t)) (h : H p = some (.dK kvs)) (g : valV kvs (Sum.inr t) = some v) (hs : NoSl b := by exact fun _ _ => rfl) : EV X (.Subscript a b pos) σ H v := ev_dget (k := Sum.inr t) hu ha hb h g hs
theorem ev_dgetI {kvs : List (Key × V)} {t : Int} (hu : X.A.units + 1 < cLine) (ha : EV X a σ H (.ref p)) (hb : EV X b σ H (.int t)) (h : H p = some (.dK kvs)) (g : valV kvs (Sum.inl t) = some v) (hs : NoSl b := by exact fun _ _ => rfl) : EV X (.Subscript a b pos) σ H v := ev_dget (k := Sum.inl t) hu ha hb h g hs
theorem rx_dputS {kvs : List (Key × V)} {t : Str} (hu : X.A.units + 1 < cLine) (hv : EV X e σ H v) (ho : EV X o σ H (.ref p)) (hb : EV X b σ H (.str t)) (h : H p = some (.dK kvs)) (hl : kvs.length < 100000) (q : RX X rest D σ (upd H p (.dK (putK kvs (Sum.inr t) v))))
    (hs : swapsWith e (some (.Subscript o b pos')) pos.line X.env = pure false := by rfl) : RX X (.Assign [.Subscript o b pos'] e pos :: rest) D σ H := rx_dput (k := Sum.inr t) hu hv ho hb h hl q hs
theorem rx_dputI {kvs : List (Key × V)} {t : Int} (hu : X.A.units + 1 < cLine) (hv : EV X e σ H v) (ho : EV X o σ H (.ref p)) (hb : EV X b σ H (.int t)) (h : H p = some (.dK kvs)) (hl : kvs.length < 100000) (q : RX X rest D σ (upd H p (.dK (putK kvs (Sum.inl t) v))))
    (hs : swapsWith e (some (.Subscript o b pos')) pos.line X.env = pure false := by rfl) : RX X (.Assign [.Subscript o b pos'] e pos :: rest) D σ H := rx_dput (k := Sum.inl t) hu hv ho hb h hl q hs
/-! ### methods of lists -/
theorem em_pop (ho : EV X o σ H (.ref l)) (h : H l = some (.lst (ys ++ [y]))) (k : R y (upd H l (.lst ys)))
    (hbase : attributeBase o "pop" X.env (eval o X.env) = eval o X.env := by rfl) (hline : (apos.endLine == cpos.line) = true := by rfl) : EM X (.Call (.Attribute o "pop" apos) [] [] cpos) σ H R :=
  EM.of (pe_bm0 PySem.F.plainAttrs_list PySem.F.slot_list_pop PySem.F.type_list_pop mt_pop pe_sem hbase hline) fun H1 e1 => (EV.ev ho) H1 e1 _ fun H2 e2 => by
    have h2 : H2 l = some (.lst (ys ++ [y])) := (e1.trans e2) _ _ h
    refine ⟨Or.inl ⟨rfl, _, sq_of h2⟩, l, ys ++ [y], y, rfl, rfl, h2, by simp, upd H l (.lst ys), ?_, k⟩
    rw [List.dropLast_concat]
    exact ex_upd (e1.trans e2)
theorem em_append (ho : EV X o σ H (.ref l)) (he : EM X e σ H fun v Hb => ∃ xs, Hb l = some (.lst xs) ∧ xs.length < 100000 ∧ R .non (upd Hb l (.lst (xs ++ [v])))) (h : H l = some (.lst xs))
    (hbase : attributeBase o "append" X.env (eval o X.env) = eval o X.env := by rfl)
    (hfew : ((backTo cpos (starEach [e] X.env)).all (fun x => !x.1) && (backToKw cpos (keywordEach [] X.env)).all (fun x => x.1.isSome) && decide (([e] : List Expr).length + ([] : List Keyword).length + (if ([] : List Keyword).isEmpty then 0 else 1) < 30)) = true := by rfl)
    (hline : (apos.endLine == cpos.line) = true := by rfl) (hs : starEach [e] X.env = (false, eval e X.env) :: starEach [] X.env := by rfl) (hplain : (backTo cpos (starEach [] X.env)).any (·.1) = false := by rfl) :
    EM X (.Call (.Attribute o "append" apos) [e] [] cpos) σ H R :=
  EM.of (pe_bm PySem.F.plainAttrs_list PySem.F.slot_list_append PySem.F.type_list_append mt_append pe_sem (pa_cons pe_sem pa_nil hs) hbase hfew hline hs hplain) fun H1 e1 => (EV.ev ho) H1 e1 _ fun H2 e2 =>
    ⟨Or.inl ⟨rfl, xs, sq_of ((e1.trans e2) _ _ h)⟩, sem_mono (he H2 (e1.trans e2)) fun v H3 ⟨Hb, e3, ys, q1, q2, q3⟩ => ⟨l, ys, v, rfl, rfl, e3 _ _ q1, sz_lt q2, _, ex_upd e3, q3⟩⟩
theorem em_appendV (ho : EV X o σ H (.ref l)) (he : EV X e σ H v) (h : H l = some (.lst xs)) (hz : xs.length < 100000) (k : R .non (upd H l (.lst (xs ++ [v]))))
    (hbase : attributeBase o "append" X.env (eval o X.env) = eval o X.env := by rfl)
    (hfew : ((backTo cpos (starEach [e] X.env)).all (fun x => !x.1) && (backToKw cpos (keywordEach [] X.env)).all (fun x => x.1.isSome) && decide (([e] : List Expr).length + ([] : List Keyword).length + (if ([] : List Keyword).isEmpty then 0 else 1) < 30)) = true := by rfl)
    (hline : (apos.endLine == cpos.line) = true := by rfl) (hs : starEach [e] X.env = (false, eval e X.env) :: starEach [] X.env := by rfl) (hplain : (backTo cpos (starEach [] X.env)).any (·.1) = false := by rfl) :
    EM X (.Call (.Attribute o "append" apos) [e] [] cpos) σ H R := em_append ho (EM.ev he ⟨xs, h, hz, k⟩) h hbase hfew hline hs hplain
/-- extend by what makes a list that nobody else has -/
theorem em_extend {φ : V → Hp → Prop} (ho : EV X o σ H (.ref l)) (he : EN X e σ H φ) (h : H l = some (.lst xs)) (k : ∀ v H2, Ex H H2 → φ v H2 → ∃ p ys, v = .ref p ∧ H2 p = some (.lst ys) ∧ xs.length + ys.length ≤ 100000 ∧ R .non (upd H2 l (.lst (xs ++ ys))))
    (hbase : attributeBase o "extend" X.env (eval o X.env) = eval o X.env := by rfl)
    (hfew : ((backTo cpos (starEach [e] X.env)).all (fun x => !x.1) && (backToKw cpos (keywordEach [] X.env)).all (fun x => x.1.isSome) && decide (([e] : List Expr).length + ([] : List Keyword).length + (if ([] : List Keyword).isEmpty then 0 else 1) < 30)) = true := by rfl)
    (hline : (apos.endLine == cpos.line) = true := by rfl) (hs : starEach [e] X.env = (false, eval e X.env) :: starEach [] X.env := by rfl) (hplain : (backTo cpos (starEach [] X.env)).any (·.1) = false := by rfl) :
    EM X (.Call (.Attribute o "extend" apos) [e] [] cpos) σ H R :=
  EM.of (pe_bm PySem.F.plainAttrs_list PySem.F.slot_list_extend PySem.F.type_list_extend mt_extend pe_sem (pa_cons pe_sem pa_nil hs) hbase hfew hline hs hplain) fun H1 e1 => (EV.ev ho) H1 e1 _ fun H2 e2 =>
    ⟨Or.inl ⟨rfl, xs, sq_of ((e1.trans e2) _ _ h)⟩, sem_mono (he H2 (e1.trans e2)) fun v H3 ⟨e3, q⟩ => by
      have e13 := (e1.trans e2).trans e3
      obtain ⟨p, ys, rfl, q1, q2, q3⟩ := k v H3 e13 q
      exact ⟨l, p, xs, ys, rfl, rfl, e13 _ _ h, q1, sz_of q2, _, Ex.refl _, q3⟩⟩
/-! ### a list of ints against [] -/
theorem dp_ints {K : PySem.W.Frag} {H : Hp} : ∀ ns : List Int, DpAll K H (ns.map V.int) (ns.map PyData.int)
  | [] => .nil
  | n :: ns => .cons (.int n) (dp_ints ns)
theorem lay_ints : ∀ ns : List Int, PyData.canLayAll0 (ns.map PyData.int) = true
  | [] => rfl
  | n :: ns => by
    simp only [List.map_cons, PyData.canLayAll0, PyData.canLay0, Bool.true_and]
    exact lay_ints ns
theorem depth_ints : ∀ ns : List Int, PyData.depthAll (ns.map PyData.int) ≤ 1
  | [] => by simp [PyData.depthAll]
  | n :: ns => by
    have := depth_ints ns
    simp only [List.map_cons, PyData.depthAll, PyData.depth]
    omega
theorem shaped_ints (ns : List Int) : SeqAt.shaped (.list (ns.map PyData.int)) = true := by
  have := depth_ints ns
  unfold SeqAt.shaped
  rw [Bool.and_eq_true]
  refine ⟨by rw [PyData.canLay0]; exact lay_ints ns, decide_eq_true ?_⟩
  rw [PyData.depth]
  omega
theorem eqv_nil (ns : List Int) : PyData.eqv (.list (ns.map PyData.int)) (.list []) = ns.isEmpty := by
  cases ns <;> simp [PyData.eqv, PyData.eqvAll]
variable {ns : List Int}
theorem ev_neNil (hu : X.A.units + 64 < cLine) (ha : EV X a σ H (.ref p)) (h : SqL X.K H p (ns.map V.int)) : EV X (.Compare a [.NotEq] [.List [] pos'] pos) σ H (.bl (!ns.isEmpty)) :=
  EN.of (pe_cmpR (op_neD hu) pe_sem (pe_lst pa_nil) (nomark _)) fun H1 e1 => (EV.ev ha) H1 e1 _ fun H2 e2 => ⟨Nat.zero_le _, fun r hr => ⟨_, _, .lst (ex_l ((e1.trans e2).trans (Ex.new hr)) h) (dp_ints ns), .lst (.inl (.inl upd_same)) .nil, shaped_ints ns, shaped_ints [], e2.trans (Ex.new hr), by rw [eqv_nil]⟩⟩
theorem ev_eqNil (hu : X.A.units + 64 < cLine) (ha : EV X a σ H (.ref p)) (h : SqL X.K H p (ns.map V.int)) : EV X (.Compare a [.Eq] [.List [] pos'] pos) σ H (.bl ns.isEmpty) :=
  EN.of (pe_cmpR (op_eqD hu) pe_sem (pe_lst pa_nil) (nomark _)) fun H1 e1 => (EV.ev ha) H1 e1 _ fun H2 e2 => ⟨Nat.zero_le _, fun r hr => ⟨_, _, .lst (ex_l ((e1.trans e2).trans (Ex.new hr)) h) (dp_ints ns), .lst (.inl (.inl upd_same)) .nil, shaped_ints ns, shaped_ints [], e2.trans (Ex.new hr), by rw [eqv_nil]⟩⟩
/-! ### tests -/
theorem et_tst {te : TE} {bb : Bool} (h : Evl.Ev te σ H (.bl bb)) : Evl.EvT (tTest te) σ H bb := Evl.et_test h
theorem tn_lt (ha : EV X a σ H (.int n)) (hb : EV X b σ H (.int m)) : TN X (.Compare a [.Lt] [b] pos) σ H (decide (n < m)) := TN.of (pt_cmpR op_lt pe_sem pe_sem (nomark _)) (et_tst (ev_op (EV.ev ha) (EV.ev hb) rv_I0))
theorem tn_gt (ha : EV X a σ H (.int n)) (hb : EV X b σ H (.int m)) : TN X (.Compare a [.Gt] [b] pos) σ H (decide (m < n)) := TN.of (pt_cmpR op_gt pe_sem pe_sem (nomark _)) (et_tst (ev_op (EV.ev ha) (EV.ev hb) rv_I0))
theorem tn_ge (ha : EV X a σ H (.int n)) (hb : EV X b σ H (.int m)) : TN X (.Compare a [.GtE] [b] pos) σ H (decide (m ≤ n)) := TN.of (pt_cmpR op_ge pe_sem pe_sem (nomark _)) (et_tst (ev_op (EV.ev ha) (EV.ev hb) rv_I0))
theorem tn_le (ha : EV X a σ H (.int n)) (hb : EV X b σ H (.int m)) : TN X (.Compare a [.LtE] [b] pos) σ H (decide (n ≤ m)) := TN.of (pt_cmpR op_le pe_sem pe_sem (nomark _)) (et_tst (ev_op (EV.ev ha) (EV.ev hb) rv_I0))
theorem tn_eq (ha : EV X a σ H v) (hb : EV X b σ H w) (hs : scal v w = true) : TN X (.Compare a [.Eq] [b] pos) σ H (decide (v = w)) := TN.of (pt_cmpR op_eq pe_sem pe_sem (nomark _)) (et_tst (ev_op (EV.ev ha) (EV.ev hb) (rv_eq hs)))
theorem tn_ne (ha : EV X a σ H v) (hb : EV X b σ H w) (hs : scal v w = true) : TN X (.Compare a [.NotEq] [b] pos) σ H (!decide (v = w)) := TN.of (pt_cmpR op_ne pe_sem pe_sem (nomark _)) (et_tst (ev_op (EV.ev ha) (EV.ev hb) (rv_ne hs)))
theorem tn_neNil (hu : X.A.units + 64 < cLine) (ha : EV X a σ H (.ref p)) (h : SqL X.K H p (ns.map V.int)) : TN X (.Compare a [.NotEq] [.List [] pos'] pos) σ H (!ns.isEmpty) := ⟨fun H1 e1 =>
  semT_of (pt_cmpR (op_neD hu) pe_sem (pe_lst pa_nil) (nomark _)) ((EV.ev ha) H1 e1 _ fun H2 e2 => ⟨Nat.zero_le _, fun r hr => ⟨_, _, .lst (ex_l ((e1.trans e2).trans (Ex.new hr)) h) (dp_ints ns), .lst (.inl (.inl upd_same)) .nil, shaped_ints ns, shaped_ints [], _, rfl, e2.trans (Ex.new hr), by rw [eqv_nil]⟩⟩)⟩
theorem tn_eqNil (hu : X.A.units + 64 < cLine) (ha : EV X a σ H (.ref p)) (h : SqL X.K H p (ns.map V.int)) : TN X (.Compare a [.Eq] [.List [] pos'] pos) σ H ns.isEmpty := ⟨fun H1 e1 =>
  semT_of (pt_cmpR (op_eqD hu) pe_sem (pe_lst pa_nil) (nomark _)) ((EV.ev ha) H1 e1 _ fun H2 e2 => ⟨Nat.zero_le _, fun r hr => ⟨_, _, .lst (ex_l ((e1.trans e2).trans (Ex.new hr)) h) (dp_ints ns), .lst (.inl (.inl upd_same)) .nil, shaped_ints ns, shaped_ints [], _, rfl, e2.trans (Ex.new hr), by rw [eqv_nil]⟩⟩)⟩
/-- and, or -/
def semW (X : Cx) (e : Expr) : TT := fun σ H Q => ∀ (whole : Sem Value) (pins : List (Addr × Obj)) (s : Shared), Inv X pins σ H s → wpAny (model X.prog X.w) X.A (isTrue e X.env whole) (TP X pins σ Q) X.xe s
theorem pw_sem : PW X e (semW X e) := ⟨fun whole pins s _ _ _ I h => h whole pins s I⟩
theorem semW_of {te : TT} (h : PW X e te) {Q : Bool → Hp → Prop} (q : te σ H Q) : semW X e σ H Q := fun whole pins s I => h.run whole pins s σ H Q I q
theorem semW_mono {Q Q' : Bool → Hp → Prop} (h : semW X e σ H Q) (k : ∀ v H', Q v H' → Q' v H') : semW X e σ H Q' := fun whole pins s I => thn (h whole pins s I) fun b _ ⟨H', I', q⟩ => ⟨H', I', k b H' q⟩
structure TW (X : Cx) (e : Expr) (σ : L2.St) (H : Hp) (b : Bool)  : Prop where
  run : ∀ H1, Ex H H1 → semW X e σ H1 fun b' H2 => Ex H1 H2 ∧ b' = b
instance {X : Cx} {e : Expr} {σ : L2.St} {H : Hp} {b : Bool} : CoeFun (TW X e σ H b) fun _ => ∀ H1, Ex H H1 → semW X e σ H1 fun b' H2 => Ex H1 H2 ∧ b' = b := ⟨TW.run⟩
variable {bb cc : Bool} {es : List Expr}
theorem TW.of {te : TT} {b : Bool} (h : PW X e te) (q : Evl.EvT te σ H b) : TW X e σ H b := ⟨fun H1 e1 => semW_of h (q H1 e1 _ fun H2 e2 => ⟨e2, rfl⟩)⟩
theorem TW.ev {b : Bool} (h : TW X e σ H b) : Evl.EvT (semW X e) σ H b := fun H1 e1 Q q => semW_mono (h H1 e1) fun u H2 ⟨e2, hu⟩ => by subst hu; exact q H2 e2
theorem TW.tn (h : TW X e σ H bb) : TN X e σ H bb := TN.of (PW.pt pw_sem) (TW.ev h)
theorem tw_and1 (h : TN X a σ H bb) : TW X (.BoolOp .And [a] pos) σ H bb := TW.of (pw_and1 pt_sem) (TN.ev h)
theorem tw_or1 (h : TN X a σ H bb) : TW X (.BoolOp .Or [a] pos) σ H bb := TW.of (pw_or1 pt_sem) (TN.ev h)
theorem tw_and (h : TN X a σ H bb) (h2 : bb = true → TW X (.BoolOp .And (b :: es) pos) σ H cc) : TW X (.BoolOp .And (a :: b :: es) pos) σ H (bb && cc) := TW.of (pw_and pt_sem pw_sem) (et_and (TN.ev h) fun q => TW.ev (h2 q))
theorem tw_or (h : TN X a σ H bb) (h2 : bb = false → TW X (.BoolOp .Or (b :: es) pos) σ H cc) : TW X (.BoolOp .Or (a :: b :: es) pos) σ H (bb || cc) := TW.of (pw_or pt_sem pw_sem) (et_or (TN.ev h) fun q => TW.ev (h2 q))
theorem tn_and (h : TN X a σ H bb) (h2 : bb = true → TN X b σ H cc) : TN X (.BoolOp .And [a, b] pos) σ H (bb && cc) := (tw_and h fun q => tw_and1 (h2 q)).tn
theorem tn_or (h : TN X a σ H bb) (h2 : bb = false → TN X b σ H cc) : TN X (.BoolOp .Or [a, b] pos) σ H (bb || cc) := (tw_or h fun q => tw_or1 (h2 q)).tn
/-- as values -/
theorem ev_and1 (h : EV X a σ H v) : EV X (.BoolOp .And [a] pos) σ H v := EV.of (pe_one pe_sem) (EV.ev h)
theorem ev_or1 (h : EV X a σ H v) : EV X (.BoolOp .Or [a] pos) σ H v := EV.of (pe_one pe_sem) (EV.ev h)
theorem ev_and (h : EV X a σ H (.bl bb)) (h2 : bb = true → EV X (.BoolOp .And (b :: es) pos) σ H (.bl cc)) : EV X (.BoolOp .And (a :: b :: es) pos) σ H (.bl (bb && cc)) := EV.of (pe_and pe_sem pe_sem) (ev_andV (EV.ev h) fun q => EV.ev (h2 q))
theorem ev_or (h : EV X a σ H (.bl bb)) (h2 : bb = false → EV X (.BoolOp .Or (b :: es) pos) σ H (.bl cc)) : EV X (.BoolOp .Or (a :: b :: es) pos) σ H (.bl (bb || cc)) := EV.of (pe_or pe_sem pe_sem) (ev_orV (EV.ev h) fun q => EV.ev (h2 q))
end
end Y
set_option Elab.async false
set_option linter.all false
set_option maxRecDepth 100000
set_option maxHeartbeats 4000000
namespace Y
open PySem PySem.Spec PyProof.Rows L2 Evl
section
variable {X : Cx} {σ : L2.St} {H H' : Hp} {v w x y z : V} {e a b c f o : Expr} {i j k : Nat} {K : PySem.W.Frag} {n m : Int} {pos pos' apos cpos p2 : Pos} {D : Ends} {rest : List Stmt} {R : V → Hp → Prop} {l p : Addr} {xs ys : List V} {φ : V → Hp → Prop} {nm : Str}
/-- a list, a tuple that nobody else has -/
def NL (H : Hp) (xs : List V) : V → Hp → Prop := fun v H2 => ∃ p, v = .ref p ∧ H p = none ∧ H2 p = some (.lst xs)
def NT (H : Hp) (xs : List V) : V → Hp → Prop := fun v H2 => ∃ p, v = .ref p ∧ H p = none ∧ H2 p = some (.tup xs)
theorem EN.ofL {te : TE} (h : PE X e te) (q : EvL te σ H xs) : EN X e σ H (NL H xs) := EN.of h fun H1 e1 => q H1 e1 _ fun p H2 hp e2 h2 => ⟨e2, p, rfl, fresh_back e1 hp, h2⟩
theorem srcN (h : EN X e σ H (NL H xs)) : EN X e σ H fun v H2 => ∃ r, v = .ref r ∧ SqL X.K H2 r xs := h.weak fun v H2 _ ⟨r, q, _, h2⟩ => ⟨r, q, sq_of h2⟩
/-- a part of a slice -/
def OV (X : Cx) (e : Option Expr) (σ : L2.St) (H : Hp) (o : Option Int) : Prop := ∃ t, PO X e t ∧ EvO t σ H o
theorem ov_n : OV X none σ H none := ⟨_, po_none, eo_none⟩
theorem ov_s (h : EV X e σ H (.int n)) : OV X (some e) σ H (some n) := ⟨_, po_some pe_sem, eo_some (EV.ev h)⟩
variable {lo hi : Option Expr} {lv hv : Option Int}
theorem en_slL (h : EV X e σ H (.ref p)) (hx : SqL X.K H p xs) (h1 : OV X lo σ H lv) (h2 : OV X hi σ H hv) : EN X (.Subscript e (.Slice lo hi none p2) pos) σ H (NL H (cutV xs lv hv)) := let ⟨_, q1, r1⟩ := h1; let ⟨_, q2, r2⟩ := h2; EN.ofL (pe_slice sl_list pe_sem q1 q2) (el_sl (EV.ev h) r1 r2 hx)
/-- a slice of a list that nobody else has -/
theorem en_slN (h : EN X e σ H (NL H xs)) (h1 : OV X lo σ H lv) (h2 : OV X hi σ H hv) : EN X (.Subscript e (.Slice lo hi none p2) pos) σ H (NL H (cutV xs lv hv)) := let ⟨_, q1, r1⟩ := h1; let ⟨_, q2, r2⟩ := h2; EN.of (pe_slice sl_list pe_sem q1 q2) fun H1 e1 => sem_mono (h H1 e1) fun v H2 ⟨e2, r, er, _, hr⟩ =>
  r1 H2 (e1.trans e2) _ fun H3 e3 => r2 H3 ((e1.trans e2).trans e3) _ fun H4 e4 => ⟨r, xs, er, sq_of ((e3.trans e4) _ _ hr), fun q hq => ⟨((e2.trans e3).trans e4).trans (Ex.new hq), q, rfl, fresh_back (((e1.trans e2).trans e3).trans e4) hq, upd_same⟩⟩
theorem en_rev {k : Nat} {p1 p2 p3 : Pos} (h : EN X e σ H (NL H xs)) : EN X (.Subscript e (.Slice none none (some (.UnaryOp .USub (.Constant (.int 1) k p1) p2)) p3) pos) σ H (NL H xs.reverse) := EN.of (pe_revL pe_sem) fun H1 e1 => sem_mono (h H1 e1) fun v H2 ⟨e2, r, er, _, hr⟩ =>
  ⟨r, xs, er, sq_of hr, fun q hq => ⟨e2.trans (Ex.new hq), q, rfl, fresh_back (e1.trans e2) hq, upd_same⟩⟩
/-- a slice of a tuple: itself, or a new one -/
theorem cutV_all {xs : List V} {lo hi : Option Int} (h1 : HT.sIx xs.length 0 lo = 0) (h2 : HT.sIx xs.length xs.length hi = xs.length) : cutV xs lo hi = xs := by
  unfold cutV
  rw [h1, h2, List.drop_zero, Nat.sub_zero, List.take_length]
theorem en_slT (h : EV X e σ H (.ref p)) (hx : SqT X.K H p xs) (h1 : OV X lo σ H lv) (h2 : OV X hi σ H hv) : EN X (.Subscript e (.Slice lo hi none p2) pos) σ H fun v H2 => ∃ r, v = .ref r ∧ SqT X.K H2 r (cutV xs lv hv) := let ⟨_, q1, r1⟩ := h1; let ⟨_, q2, r2⟩ := h2
  EN.of (pe_slice sl_tupA pe_sem q1 q2) fun H1 e1 => (EV.ev h) H1 e1 _ fun H2 e2 => r1 H2 (e1.trans e2) _ fun H3 e3 => r2 H3 ((e1.trans e2).trans e3) _ fun H4 e4 =>
    ⟨p, xs, rfl, ex_t (((e1.trans e2).trans e3).trans e4) hx, fun z => ⟨(e2.trans e3).trans e4, p, rfl, by rw [cutV_all z.1 z.2]; exact ex_t (((e1.trans e2).trans e3).trans e4) hx⟩, fun _ q hq => ⟨((e2.trans e3).trans e4).trans (Ex.new hq), q, rfl, .inl (.inl upd_same)⟩⟩
theorem ev_slS {t : Str} (h : EV X e σ H (.str t)) (hz : t.length ≤ sizeLine) (h1 : OV X lo σ H lv) (h2 : OV X hi σ H hv) : EV X (.Subscript e (.Slice lo hi none p2) pos) σ H (.str (cutS t lv hv)) := let ⟨_, q1, r1⟩ := h1; let ⟨_, q2, r2⟩ := h2
  EN.of (pe_slice sl_str pe_sem q1 q2) fun H1 e1 => (EV.ev h) H1 e1 _ fun H2 e2 => r1 H2 (e1.trans e2) _ fun H3 e3 => r2 H3 ((e1.trans e2).trans e3) _ fun H4 e4 => ⟨t, rfl, hz, (e2.trans e3).trans e4, rfl⟩
theorem ev_addS {s t : Str} (ha : EV X a σ H (.str s)) (hb : EV X b σ H (.str t)) (hz : s.length + t.length ≤ sizeLine) : EV X (.BinOp a .Add b pos) σ H (.str (s ++ t)) :=
  EN.of (pe_op op_add_str pe_sem pe_sem) fun H1 e1 => (EV.ev ha) H1 e1 _ fun H2 e2 => (EV.ev hb) H2 (e1.trans e2) _ fun H3 e3 => ⟨s, t, rfl, rfl, hz, e2.trans e3, rfl⟩
/-! ### in -/
theorem tn_in (ha : EV X a σ H x) (hb : EV X b σ H (.ref p)) (h : SqL X.K H p xs ∨ SqT X.K H p xs) (fx : flatV x = true) (fs : xs.all flatV = true) (hm : behindInMarks .In b = false := by rfl) : TN X (.Compare a [.In] [b] pos) σ H (inV x xs) := ⟨fun H1 e1 =>
  semT_of (pt_cmpR op_in_seq pe_sem pe_sem hm) ((EV.ev ha) H1 e1 _ fun H2 e2 => (EV.ev hb) H2 (e1.trans e2) _ fun H3 e3 => ⟨p, xs, rfl, h.imp (ex_l ((e1.trans e2).trans e3)) (ex_t ((e1.trans e2).trans e3)), fx, fs, _, rfl, e2.trans e3, rfl⟩)⟩
theorem tn_notIn (ha : EV X a σ H x) (hb : EV X b σ H (.ref p)) (h : SqL X.K H p xs ∨ SqT X.K H p xs) (fx : flatV x = true) (fs : xs.all flatV = true) (hm : behindInMarks .NotIn b = false := by rfl) : TN X (.Compare a [.NotIn] [b] pos) σ H (!inV x xs) := ⟨fun H1 e1 =>
  semT_of (pt_cmpR op_notIn_seq pe_sem pe_sem hm) ((EV.ev ha) H1 e1 _ fun H2 e2 => (EV.ev hb) H2 (e1.trans e2) _ fun H3 e3 => ⟨p, xs, rfl, h.imp (ex_l ((e1.trans e2).trans e3)) (ex_t ((e1.trans e2).trans e3)), fx, fs, _, rfl, e2.trans e3, rfl⟩)⟩
theorem ev_in (ha : EV X a σ H x) (hb : EV X b σ H (.ref p)) (h : SqL X.K H p xs ∨ SqT X.K H p xs) (fx : flatV x = true) (fs : xs.all flatV = true) (hm : behindInMarks .In b = false := by rfl) : EV X (.Compare a [.In] [b] pos) σ H (.bl (inV x xs)) :=
  EN.of (pe_cmpR op_in_seq pe_sem pe_sem hm) fun H1 e1 => (EV.ev ha) H1 e1 _ fun H2 e2 => (EV.ev hb) H2 (e1.trans e2) _ fun H3 e3 => ⟨p, xs, rfl, h.imp (ex_l ((e1.trans e2).trans e3)) (ex_t ((e1.trans e2).trans e3)), fx, fs, e2.trans e3, rfl⟩
/-! ### loops over what makes a list -/
theorem rx_forN (i : Nat) {l : Expr} {body : List Stmt} (hp : PassesOwn (model X.prog X.w) X.A X.env X.xe) (hc : X.calm = true) (hl : EN X l σ H φ)
    (k : ∀ v H2, Ex H H2 → φ v H2 → ∃ (r : Addr) (xs : List V) (P : Nat → L2.St → Hp → Prop), v = .ref r ∧ SqL X.K H2 r xs ∧ P 0 σ H2 ∧ (∀ n σ' Hb, n ≤ xs.length → P n σ' Hb → SqL X.K Hb r xs) ∧
      (∀ n x σ' Hb, xs[n]? = some x → P n σ' Hb → RX X body { D with nx := UpS (P (n + 1)), ct := UpS (P (n + 1)), bk := semS X rest D } (σ'.set i (some x)) Hb) ∧ ∀ σ' Hb, P xs.length σ' Hb → RX X rest D σ' Hb)
    (hN : X.N.Nodup) (hi : X.N[i]? = some nm := by rfl) (hlo : Loc X.env.scope nm := by first | exact Or.inl rfl | exact Or.inr rfl)
    (hf : X.fn nm = true ∨ X.env.scope.names.lookup nm = some .local := by first | exact .inl rfl | exact .inr rfl) (hfo : ∀ x, foldedSetIterable l X.env x = pure x := by intro _; rfl) : RX X (.For (.Name nm pos') l body [] pos :: rest) D σ H :=
  rx_of (ps_for hp hc (pi_list pe_sem) (pg_name hN hi hlo hf) pss_sem hfo) fun H1 e1 => sem_mono (hl H1 e1) fun v H2 ⟨e2, q⟩ => by
    obtain ⟨r, xs, P, rfl, hx, h0, hk, hs, hd⟩ := k v H2 (e1.trans e2) q
    exact ⟨r, rfl, ⟨xs, hx⟩, for_list (D := { D with nx := semS X rest D }) (fun n => UpS (P n)) ⟨H2, Ex.refl _, h0⟩ (fun n σ' H' hn ⟨Hb, e, p⟩ => ex_l e (hk n σ' Hb hn p)) (fun n x σ' H' hx ⟨Hb, e, p⟩ => hs n x σ' Hb hx p H' e) fun σ' H' ⟨Hb, e, p⟩ => hd σ' Hb p H' e⟩
/-- a comprehension over range(n), its turns make nothing known -/
theorem en_lcR (j : Nat) {elt g : Expr} {xn : Str} {px q1 q2 : Pos} {scope : Scope} {own : List (Str × Nat)} (hc : X.calm = true) (hN : X.N.Nodup) (ok : BlkOk X.N X.env.scope scope own) (hgl : Gl X "range") (hm : X.mg "range" = none)
    (ψ : Int → Prop) (hl : EN X g σ H fun v _ => ∃ n : Int, v = .int n ∧ 0 ≤ n ∧ n ≤ 100000 ∧ ψ n)
    (hg : ∀ (s : Shared) (H : Hp) (C : Addr) (cl : List (Str × Addr)) (fp : List Addr), PG (X.blk s H scope (compEnvC scope cl C X.env) fp) (.Name xn px) (gName j))
    (hw : ∀ v, wipe ((wipe σ (own.map (·.2))).set j (some v)) (own.map (·.2)) = wipe σ (own.map (·.2)))
    (P : Nat → List V → Hp → Prop) (hP : ∀ n acc H1 H2, Tx H1 H2 → P n acc H1 → P n acc H2) (h0 : P 0 [] H)
    (hs : ∀ (n : Nat) acc Hb (s : Shared) (H' : Hp) (C : Addr) (cl : List (Str × Addr)) (fp : List Addr), n < 100000 → Ex H Hb → P n acc Hb → EN (X.blk s H' scope (compEnvC scope cl C X.env) fp) elt ((wipe σ (own.map (·.2))).set j (some (.int (n : Int)))) Hb fun v H2 => P (n + 1) (acc ++ [v]) H2)
    (hst : starEach [g] X.env = (false, eval g X.env) :: starEach [] X.env := by rfl) :
    EN X (.ListComp elt [⟨.Name xn px, .Call (.Name "range" q1) [g] [] q2, [], 0⟩] scope pos) σ H fun v H2 => ∃ (D : Addr) (acc : List V) (n : Nat), v = .ref D ∧ H D = none ∧ H2 D = some (.lst acc) ∧ acc.length ≤ n ∧ n ≤ 100000 ∧ ψ (n : Int) ∧ P n acc H2 :=
  EN.of (pe_lc hc hN (pi_range1 hgl hm (pa_cons pe_sem pa_nil hst) hst) ok hg (fun _ _ _ _ _ => pts_nil) (fun s H' C cl fp => pe_blk s H' C cl fp)) fun H1 e1 => sem_mono (hl H1 e1) fun v H2 ⟨e2, n, en, n0, n1, n2⟩ => ⟨n, by rw [en], by omega, by omega, fun D hD =>
    lc_range (lo := 0) (n := n.toNat) (LcW H2 D P) ⟨[], Nat.le_refl _, hD, Ex.new hD, upd_same, hP _ _ _ _ (Tx.trans (e1.trans e2).tx (Ex.new hD).tx) h0⟩
      (fun i H' hi ⟨acc, q1, q2, q3, q4, q5⟩ => ⟨hw _, by
        refine iteT (B := LcW H2 D P (i + 1) H') ?_
        rw [Int.zero_add]
        exact fun s H'' C cl fp => sem_mono (hs i acc H' s H'' C cl fp (by omega) ((e1.trans e2).trans q3) q5 H' (Ex.refl H')) fun v H4 ⟨e4, q6⟩ => LcW.push hP q1 q2 (q3.trans e4) (e4 D _ q4) (by omega) q6⟩)
      (fun H' ⟨acc, q1, q2, q3, q4, q5⟩ => ⟨e2.trans q3, D, acc, n.toNat, rfl, fresh_back (e1.trans e2) q2, q4, q1, by omega, by rw [Int.toNat_of_nonneg n0]; exact n2, q5⟩)⟩
end
end Y
set_option Elab.async false
set_option linter.all false
set_option maxRecDepth 100000
set_option maxHeartbeats 4000000
namespace Y
open PySem PySem.Spec PyProof.Rows L2 Evl
section
variable {X : Cx} {σ : L2.St} {H H' : Hp} {v w x y z : V} {e a b c f o : Expr} {i j k : Nat} {K : PySem.W.Frag} {n m : Int} {pos pos' apos cpos p2 : Pos} {D : Ends} {rest : List Stmt} {R : V → Hp → Prop} {l p : Addr} {xs ys : List V} {φ φ1 φ2 φ3 : V → Hp → Prop} {nm : Str}
theorem em_disp3 {s1 s2 s3 : Str} {j1 j2 j3} {q1 q2 q3 : Pos} {v1 v2 v3 : Expr} (h1 : EN X v1 σ H φ1) (h2 : EN X v2 σ H φ2) (h3 : EN X v3 σ H φ3)
    (hk : ∀ x1 x2 x3 : V, mergeK [] [(Sum.inr s1, x1), (Sum.inr s2, x2), (Sum.inr s3, x3)] = [(Sum.inr s1, x1), (Sum.inr s2, x2), (Sum.inr s3, x3)])
    (k : ∀ p x1 x2 x3 Ha Hb Hc, H p = none → Ex (upd H p (.dK [])) Ha → φ1 x1 Ha → Ex Ha Hb → φ2 x2 Hb → Ex Hb Hc → φ3 x3 Hc → R (.ref p) (upd Hc p (.dK [(Sum.inr s1, x1), (Sum.inr s2, x2), (Sum.inr s3, x3)]))) :
    EM X (.Dict [some (.Constant (.str s1) j1 q1), some (.Constant (.str s2) j2 q2), some (.Constant (.str s3) j3 q3)] [v1, v2, v3] pos) σ H R :=
  EM.of (pe_disp (pps_cons pe_str pe_sem (pps_cons pe_str pe_sem (pps_cons pe_str pe_sem pps_nil))) (by rfl) (by rfl) (fun z => by cases z) (by show 3 ≤ 15; decide)) fun H1 e1 p hp => by
    have e0 : Ex H (upd H1 p (.dK [])) := e1.trans (Ex.new hp)
    refine sem_mono (h1 _ e0) fun x1 Ha ⟨ea, f1⟩ => sem_mono (h2 _ (e0.trans ea)) fun x2 Hb ⟨eb, f2⟩ => sem_mono (h3 _ ((e0.trans ea).trans eb)) fun x3 Hc ⟨ec, f3⟩ => ?_
    refine ⟨((ea.trans eb).trans ec) _ _ upd_same, [(Sum.inr s1, x1), (Sum.inr s2, x2), (Sum.inr s3, x3)], rfl, by show 3 ≤ 15; decide, ?_⟩
    rw [hk]
    exact ⟨_, Ex.refl _, k p x1 x2 x3 Ha Hb Hc (fresh_back e1 hp) ((ex_upd e1).trans ea) f1 eb f2 ec f3⟩
/-- ''.join(a list of texts that nobody else has) -/
theorem en_join {s : Str} (ho : EV X o σ H (.str s)) (he : EN X e σ H fun v H2 => ∃ (p : Addr) (ys : List Str), v = .ref p ∧ H2 p = some (.lst (ys.map V.str)) ∧ (ys.map (·.length)).sum + ys.length * s.length ≤ 16777216 ∧ φ (.str (Txt.join s ys)) H2)
    (hφ : ∀ v H1 H2, Ex H1 H2 → φ v H1 → φ v H2)
    (hs : starEach [e] X.env = [(false, eval e X.env)] := by rfl) (hbase : attributeBase o "join" X.env (eval o X.env) = eval o X.env := by rfl) (hline : (apos.endLine == pos.line) = true := by rfl) : EN X (.Call (.Attribute o "join" apos) [e] [] pos) σ H φ :=
  EN.of (pe_join pe_sem pe_sem hs hbase hline) fun H1 e1 => (EV.ev ho) H1 e1 _ fun H2 e2 => ⟨⟨s, rfl⟩, sem_mono (he H2 (e1.trans e2)) fun v H3 ⟨e3, p, ys, ev, hp, hz, q⟩ => ⟨s, p, ys, rfl, by rw [ev], .inl (sq_of hp), hz, e2.trans e3, q⟩⟩
end
end Y
set_option Elab.async false
set_option linter.all false
set_option maxRecDepth 100000
set_option maxHeartbeats 4000000
namespace Y
open PySem PySem.Spec PyProof.Rows L2 Evl
/-- a def of the text as it stands behind the top, by its name -/
structure Def (K : PySem.W.Frag) (mg : Str → Option Value) (nm : Str) (st : Stmt) : Prop where
  ex : ∃ f fd, Fun K nm nm st f fd ∧ mg nm = some (.ref f)
/-- a def that keeps its promise, by its name -/
structure Own (P : Program) (w : World) (K : PySem.W.Frag) (mg : Str → Option Value) (base : Heap) (nm : Str) (ps : List Str) (lv : Nat) (sp : Sp) : Prop where
  ex : ∃ g fd, FnOk P w K mg base CX0 lv g fd ps sp ∧ PySem.W.keepIn K (.ref g) = true ∧ Binds K fd ps [] ∧ mg nm = some (.ref g)
section
variable {P : Program} {w : World} {K : PySem.W.Frag} {mg : Str → Option Value} {base : Heap} {nm : Str} {st : Stmt} {N ps : List Str} {k : Nat} {sp sp' : Sp}
/-- THE RULE for a def by what its body runs to -/
theorem Def.own (D : Def K mg nm st) (S : FnScope N ps (defScope st)) (len : ∀ vs H Q E, sp vs H Q E → vs.length = ps.length)
    (hb : ∀ (kV doc pm : Value) (an : Option Addr) (cdv ct : Value) (us : List Value), us.length = ps.length → bindArgs (PySem.W.fnOf nm nm (defArgs st) (defBody st) (defScope st) .none kV doc pm an cdv ct) ⟨us, []⟩ = pure (ps.zip us))
    (hbody : ∀ (X : Cx) (H : Hp) (vs : List V) (Q : VK) (E : XK), (∃ (f : Addr) (cdv : Value) (A : Around) (outer : List Env) (s : Shared), X = (cxOf CX0 P w K mg base N nm (defScope st) f cdv A outer s H E).nox) → Room k X.A → sp vs H Q E → RX X (defBody st) { nx := fun _ H' => Q .non H', rt := Q } (start N vs) H) : Own P w K mg base nm ps (k + 1) sp := by
  obtain ⟨f, fd, F, m⟩ := D.ex
  refine ⟨f, fd, F.ok S len fun cdv A outer s H vs Q E hr h => ⟨_, pss_sem, ?_⟩, F.kp, F.binds hb, m⟩
  exact (hbody _ H vs Q E ⟨f, cdv, A, outer, s, rfl⟩ hr h) H (Ex.refl H)
theorem Own.imp (O : Own P w K mg base nm ps k sp) (h : ∀ vs H Q E, sp' vs H Q E → sp vs H Q E) : Own P w K mg base nm ps k sp' := let ⟨g, fd, F, a⟩ := O.ex; ⟨g, fd, F.imp h, a⟩
end
section
variable {X : Cx} {σ : L2.St} {H H' : Hp} {v w x y z : V} {e a b c f o : Expr} {i j k : Nat} {n m : Int} {pos : Pos} {R : V → Hp → Prop} {φ : V → Hp → Prop} {nm : Str} {ps : List Str} {lv : Nat} {sp : Sp} {es : List Expr} {p q : Pos} {us : List V}
/-- a call of an own def -/
theorem em_own (O : Own X.prog X.w X.K X.mg X.base nm ps lv sp) (hr : Room lv X.A) (hg : Gl X nm) (h : AM X (e :: es) σ H fun vs Hb => ∀ H2, Ex Hb H2 → sp vs H2 (fun v H3 => ∃ Hc, Ex Hc H3 ∧ R v Hc) (fun _ _ _ => False))
    (hdb : (nm == ("__debug__" : Str)) = false := by decide) (he : starEach (e :: es) X.env = (false, eval e X.env) :: starEach es X.env := by rfl) (hpl : (backTo q (starEach es X.env)).any (·.1) = false := by rfl) :
    EM X (.Call (.Name nm p) (e :: es) [] q) σ H R := by
  obtain ⟨g, fd, F, hk, hb, hm⟩ := O.ex
  exact EM.of (pe_call F hr hg hm hk hb .nil pass0 pa_sem hdb he hpl) fun H1 e1 => semA_mono (h H1 e1) fun vs H2 ⟨Hb, e2, k⟩ => by rw [List.append_nil]; exact k H2 e2
/-- .. of values that make nothing, leaving what is known -/
theorem en_own (O : Own X.prog X.w X.K X.mg X.base nm ps lv sp) (hr : Room lv X.A) (hg : Gl X nm) (ha : AV X (e :: es) σ H us) (h : ∀ H1, Ex H H1 → ∀ Q : VK, (∀ v H2, Ex H1 H2 → φ v H2 → Q v H2) → sp us H1 Q (fun _ _ _ => False))
    (hdb : (nm == ("__debug__" : Str)) = false := by decide) (he : starEach (e :: es) X.env = (false, eval e X.env) :: starEach es X.env := by rfl) (hpl : (backTo q (starEach es X.env)).any (·.1) = false := by rfl) :
    EN X (.Call (.Name nm p) (e :: es) [] q) σ H φ := by
  obtain ⟨g, fd, F, hk, hb, hm⟩ := O.ex
  exact EN.of (pe_call F hr hg hm hk hb .nil pass0 pa_sem hdb he hpl) fun H1 e1 => semA_mono (ha H1 e1) fun vs H2 ⟨e2, k⟩ => by
    subst k
    rw [List.append_nil]
    exact h H2 (e1.trans e2) _ fun v H3 e3 q => ⟨e2.trans e3, q⟩
theorem em_own0 (O : Own X.prog X.w X.K X.mg X.base nm [] lv sp) (hr : Room lv X.A) (hg : Gl X nm) (h : ∀ H2, Ex H H2 → sp [] H2 (fun v H3 => ∃ Hc, Ex Hc H3 ∧ R v Hc) (fun _ _ _ => False))
    (hdb : (nm == ("__debug__" : Str)) = false := by decide) : EM X (.Call (.Name nm p) [] [] q) σ H R := by
  obtain ⟨g, fd, F, hk, hb, hm⟩ := O.ex
  exact EM.of (pe_call0 F hr hg hm hk hb .nil pass0 hdb) fun H1 e1 => h H1 e1
theorem en_own0 (O : Own X.prog X.w X.K X.mg X.base nm [] lv sp) (hr : Room lv X.A) (hg : Gl X nm) (h : ∀ H1, Ex H H1 → ∀ Q : VK, (∀ v H2, Ex H1 H2 → φ v H2 → Q v H2) → sp [] H1 Q (fun _ _ _ => False))
    (hdb : (nm == ("__debug__" : Str)) = false := by decide) : EN X (.Call (.Name nm p) [] [] q) σ H φ := by
  obtain ⟨g, fd, F, hk, hb, hm⟩ := O.ex
  exact EN.of (pe_call0 F hr hg hm hk hb .nil pass0 hdb) fun H1 e1 => h H1 e1 _ fun v H3 e3 q => ⟨e3, q⟩
/-! ### operands that are not said but described -/
variable {ψ : V → Hp → Prop} {xs : List V} {l : Addr}
theorem en_ixSN {t : Str} (ha : EV X a σ H (.str t)) (hz : t.length ≤ 100000) (hb : EN X b σ H φ) (k : ∀ v H2, Ex H H2 → φ v H2 → ∃ n c, v = .int n ∧ atI t.cps.toList n = some c ∧ ψ (.str ⟨#[c]⟩) H2) (hs : PlainIx b := by exact fun _ _ => rfl) : EN X (.Subscript a b pos) σ H ψ :=
  EN.of (pe_ix ix_str pe_sem pe_sem hs) fun H1 e1 => EV.ev ha H1 e1 _ fun H2 e2 => sem_mono (hb H2 (e1.trans e2)) fun v H3 ⟨e3, q⟩ => by
    obtain ⟨n, c, ev, g, r⟩ := k v H3 ((e1.trans e2).trans e3) q
    exact ⟨t, n, c, rfl, ev, sz_of hz, g, e2.trans e3, r⟩
theorem en_ixLN (ha : EV X a σ H (.ref l)) (hx : SqL X.K H l xs) (hb : EN X b σ H φ) (k : ∀ v H2, Ex H H2 → φ v H2 → ∃ n c, v = .int n ∧ atI xs n = some c ∧ ψ c H2) (hs : PlainIx b := by exact fun _ _ => rfl) : EN X (.Subscript a b pos) σ H ψ :=
  EN.of (pe_ix ix_list pe_sem pe_sem hs) fun H1 e1 => EV.ev ha H1 e1 _ fun H2 e2 => sem_mono (hb H2 (e1.trans e2)) fun v H3 ⟨e3, q⟩ => by
    obtain ⟨n, c, ev, g, r⟩ := k v H3 ((e1.trans e2).trans e3) q
    exact ⟨l, xs, n, c, rfl, ev, ex_l ((e1.trans e2).trans e3) hx, g, e2.trans e3, r⟩
theorem en_addN (ha : EV X a σ H (.int n)) (hb : EN X b σ H φ) (k : ∀ v H2, Ex H H2 → φ v H2 → ∃ m, v = .int m ∧ ψ (.int (n + m)) H2) : EN X (.BinOp a .Add b pos) σ H ψ :=
  EN.of (pe_op op_add pe_sem pe_sem) fun H1 e1 => EV.ev ha H1 e1 _ fun H2 e2 => sem_mono (hb H2 (e1.trans e2)) fun v H3 ⟨e3, q⟩ => by
    obtain ⟨m, ev, r⟩ := k v H3 ((e1.trans e2).trans e3) q
    exact ⟨n, m, rfl, ev, e2.trans e3, r⟩
theorem td_ltN {ψ : Bool → Hp → Prop} (ha : EN X a σ H φ) (hb : EV X b σ H (.int m)) (k : ∀ v H2, Ex H H2 → φ v H2 → ∃ n, v = .int n ∧ ∀ H3, Ex H2 H3 → ψ (decide (n < m)) H3) : TD X (.Compare a [.Lt] [b] pos) σ H ψ :=
  ⟨fun H1 e1 => semT_of (pt_cmpR op_lt pe_sem pe_sem (nomark _)) (sem_mono (ha H1 e1) fun v H2 ⟨e2, q⟩ => by
    obtain ⟨n, ev, r⟩ := k v H2 (e1.trans e2) q
    exact EV.ev hb H2 (e1.trans e2) _ fun H3 e3 => ⟨n, m, ev, rfl, _, rfl, e2.trans e3, r H3 e3⟩)⟩
theorem atI_of {α : Type} {ys : List α} {n : Int} (h0 : 0 ≤ n) {c : α} (h : ys[n.toNat]? = some c) : atI ys n = some c := by
  have := atI_nat (xs := ys) (j := n.toNat) h
  rwa [Int.toNat_of_nonneg h0] at this
end
end Y
set_option Elab.async false
set_option linter.all false
set_option maxRecDepth 100000
set_option maxHeartbeats 4000000
namespace Y
open PySem PySem.Spec PyProof.Rows L2 Evl
/-- two lists, item by item -/
def All2 {α β : Type} (R : α → β → Prop) : List α → List β → Prop
  | [], [] => True
  | a :: as, b :: bs => R a b ∧ All2 R as bs
  | _, _ => False
section
variable {α β : Type} {R S : α → β → Prop}
theorem All2.len : ∀ {as : List α} {bs : List β}, All2 R as bs → as.length = bs.length
  | [], [], _ => rfl
  | _ :: _, _ :: _, h => congrArg (· + 1) (All2.len h.2)
theorem All2.imp (k : ∀ a b, R a b → S a b) : ∀ {as : List α} {bs : List β}, All2 R as bs → All2 S as bs
  | [], [], _ => True.intro
  | _ :: _, _ :: _, h => ⟨k _ _ h.1, All2.imp k h.2⟩
theorem All2.app : ∀ {as cs : List α} {bs ds : List β}, All2 R as bs → All2 R cs ds → All2 R (as ++ cs) (bs ++ ds)
  | [], _, [], _, _, h => h
  | _ :: _, _, _ :: _, _, h, g => ⟨h.1, All2.app h.2 g⟩
theorem All2.one {a : α} {b : β} (h : R a b) : All2 R [a] [b] := ⟨h, True.intro⟩
theorem All2.at : ∀ {as : List α} {bs : List β}, All2 R as bs → ∀ {i : Nat} {a : α}, as[i]? = some a → ∃ b, bs[i]? = some b ∧ R a b
  | [], [], _, i, a, h => by simp at h
  | x :: _, y :: _, h, 0, a, e => by
    simp at e; subst e; exact ⟨y, rfl, h.1⟩
  | _ :: r, _ :: t, h, i + 1, a, e => All2.at h.2 (i := i) (by simpa using e)
theorem All2.at' : ∀ {as : List α} {bs : List β}, All2 R as bs → ∀ {i : Nat} {b : β}, bs[i]? = some b → ∃ a, as[i]? = some a ∧ R a b
  | [], [], _, i, a, h => by simp at h
  | x :: _, y :: _, h, 0, a, e => by
    simp at e; subst e; exact ⟨x, rfl, h.1⟩
  | _ :: r, _ :: t, h, i + 1, a, e => All2.at' h.2 (i := i) (by simpa using e)
theorem All2.take : ∀ {as : List α} {bs : List β} (n : Nat), All2 R as bs → All2 R (as.take n) (bs.take n)
  | _, _, 0, _ => True.intro
  | [], [], n + 1, _ => True.intro
  | _ :: _, _ :: _, n + 1, h => ⟨h.1, All2.take n h.2⟩
theorem All2.drop : ∀ {as : List α} {bs : List β} (n : Nat), All2 R as bs → All2 R (as.drop n) (bs.drop n)
  | _, _, 0, h => h
  | [], [], n + 1, _ => True.intro
  | _ :: _, _ :: _, n + 1, h => All2.drop n h.2
end
section
variable {X : Cx} {σ : L2.St} {H H' : Hp} {v w x y z : V} {e a b c f o : Expr} {i j k : Nat} {K : PySem.W.Frag} {n m : Int} {pos pos' apos cpos p2 px py pt : Pos} {D : Ends} {rest : List Stmt} {R : V → Hp → Prop} {l p : Addr} {xs ys : List V} {φ ψ : V → Hp → Prop} {nm nx ny : Str}
/-- x, y = a, b: both plain locals -/
theorem rx_par {kt k2 : Nat} {pt2 : Pos} (i j : Nat) (h : AM X [a, b] σ H fun vs Hb => ∃ v w, vs = [v, w] ∧ RX X rest D ((σ.set i (some v)).set j (some w)) Hb) (hc : X.calm = true) (hN : X.N.Nodup) (hij : i ≠ j) (hi : X.N[i]? = some nx := by rfl) (hj : X.N[j]? = some ny := by rfl)
    (hx : X.env.scope.names.lookup nx = some .local := by rfl) (hy : X.env.scope.names.lookup ny = some .local := by rfl)
    (hw : swappedStores [.Tuple [.Name nx px, .Name ny py] kt pt] (.Tuple [a, b] k2 pt2) X.env = pure (some [nx, ny]) := by rfl) (hs : swapsWithSole [.Tuple [.Name nx px, .Name ny py] kt pt] (.Tuple [a, b] k2 pt2) pos.line X.env = pure false := by rfl) :
    RX X (.Assign [.Tuple [.Name nx px, .Name ny py] kt pt] (.Tuple [a, b] k2 pt2) pos :: rest) D σ H :=
  rx_of (ps_par hc hN hi hj hij hx hy pa_sem hw hs) fun H1 e1 => semA_mono (h H1 e1) fun vs H2 ⟨Hb, e2, v, w, ev, k⟩ => ⟨v, w, ev, k H2 e2⟩
/-- x, y = e, by a tuple that is made -/
theorem rx_tup2 {kt : Nat} (i j : Nat) (h : EM X e σ H fun v Hb => ∃ (p : Addr) (x y : V), v = .ref p ∧ SqT X.K Hb p [x, y] ∧ RX X rest D ((σ.set i (some x)).set j (some y)) Hb) (hc : X.calm = true) (hN : X.N.Nodup) (hi : X.N[i]? = some nx := by rfl) (hj : X.N[j]? = some ny := by rfl)
    (hx : Loc X.env.scope nx := by first | exact Or.inl rfl | exact Or.inr rfl) (hy : Loc X.env.scope ny := by first | exact Or.inl rfl | exact Or.inr rfl)
    (hs : swapsWithSole [.Tuple [.Name nx px, .Name ny py] kt pt] e pos.line X.env = pure false := by rfl) (hw : swappedStores [.Tuple [.Name nx px, .Name ny py] kt pt] e X.env = pure none := by rfl)
    (h1 : (assignEach [.Tuple [.Name nx px, .Name ny py] kt pt] X.env).map (·.2) = [assign (.Tuple [.Name nx px, .Name ny py] kt pt) X.env] := by rfl)
    (hf : X.fn nx = true ∨ X.env.scope.names.lookup nx = some .local := by first | exact .inl rfl | exact .inr rfl) (hf2 : X.fn ny = true ∨ X.env.scope.names.lookup ny = some .local := by first | exact .inl rfl | exact .inr rfl) :
    RX X (.Assign [.Tuple [.Name nx px, .Name ny py] kt pt] e pos :: rest) D σ H :=
  rx_of (ps_asg pe_sem (pg_tup hc (pgs_cons (pg_name hN hi hx hf) (pgs_cons (pg_name hN hj hy hf2) pgs_nil))) hs hw h1) fun H1 e1 => sem_mono (h H1 e1) fun v H2 ⟨Hb, e2, p, x, y, ev, hp, k⟩ =>
    ⟨p, [x, y], ev, ex_t e2 hp, rfl, x, [y], rfl, y, [], rfl, rfl, k H2 e2⟩
/-- for i, x in enumerate(l) -/
theorem rx_forE {kt : Nat} (i j : Nat) {l : Expr} {body : List Stmt} {r : Addr} {xs : List V} {q1 q2 : Pos} (hp : PassesOwn (model X.prog X.w) X.A X.env X.xe) (hc : X.calm = true) (hg : Gl X "enumerate") (hm : X.mg "enumerate" = none) (hl : EV X l σ H (.ref r)) (hx : SqL X.K H r xs) (P : Nat → L2.St → Hp → Prop) (h0 : P 0 σ H)
    (hk : ∀ n σ' Hb, n ≤ xs.length → P n σ' Hb → SqL X.K Hb r xs) (hs : ∀ n x σ' Hb, xs[n]? = some x → P n σ' Hb → RX X body { D with nx := UpS (P (n + 1)), ct := UpS (P (n + 1)), bk := semS X rest D } ((σ'.set i (some (.int (n : Int)))).set j (some x)) Hb)
    (hd : ∀ σ' Hb, P xs.length σ' Hb → RX X rest D σ' Hb) (hN : X.N.Nodup) (hi : X.N[i]? = some nx := by rfl) (hj : X.N[j]? = some ny := by rfl) (hlo : Loc X.env.scope nx := by first | exact Or.inl rfl | exact Or.inr rfl) (hlo2 : Loc X.env.scope ny := by first | exact Or.inl rfl | exact Or.inr rfl)
    (hf : X.fn nx = true ∨ X.env.scope.names.lookup nx = some .local := by first | exact .inl rfl | exact .inr rfl) (hf2 : X.fn ny = true ∨ X.env.scope.names.lookup ny = some .local := by first | exact .inl rfl | exact .inr rfl)
    (hst : starEach [l] X.env = (false, eval l X.env) :: starEach [] X.env := by rfl) :
    RX X (.For (.Tuple [.Name nx px, .Name ny py] kt pt) (.Call (.Name "enumerate" q1) [l] [] q2) body [] pos :: rest) D σ H :=
  rx_of (ps_for hp hc (pi_enum hg hm (pa_cons pe_sem pa_nil hst) hst) (pg_tup hc (pgs_cons (pg_name hN hi hlo hf) (pgs_cons (pg_name hN hj hlo2 hf2) pgs_nil))) pss_sem) fun H1 e1 => EV.ev hl H1 e1 _ fun H2 e2 => ⟨r, xs, rfl, ex_l (e1.trans e2) hx,
    for_it (D := { D with nx := semS X rest D }) (walk_enum (K := X.K) (a := r) (xs := xs)) (fun n => UpS (P n)) ⟨H, e1.trans e2, h0⟩ (fun n σ' H' hn ⟨Hb, e, p⟩ => ex_l e (hk n σ' Hb hn p))
      (fun n v σ' H' H'' hn ⟨Hb, e, p⟩ ⟨T, x, y, ev, hT, eh, fx, fy⟩ => by
        subst ev eh
        cases fx
        exact ⟨T, _, rfl, .inl (.inl upd_same), rfl, _, _, rfl, _, _, rfl, rfl, hs n y σ' Hb fy p _ (e.trans (Ex.new hT))⟩) fun σ' H' ⟨Hb, e, p⟩ => hd σ' Hb p H' e⟩
theorem en_sortedS {ss : List Str} {q1 q2 : Pos} (hg : Gl X "sorted") (hm : X.mg "sorted" = none) (ha : EV X a σ H (.ref p)) (h : SqL X.K H p (ss.map V.str)) (hz : ss.length < 64) (hst : starEach [a] X.env = (false, eval a X.env) :: starEach [] X.env := by rfl) :
    EN X (.Call (.Name "sorted" q1) [a] [] q2) σ H fun v H2 => ∃ q ys, v = .ref q ∧ H q = none ∧ H2 q = some (.lst (ys.map V.str)) ∧ ys.Perm ss ∧ sortedS ys = true :=
  EN.of (pe_callB cr_sortedS hg hm (by decide +kernel) (pa_cons pe_sem pa_nil hst) (he := hst)) fun H1 e1 => EV.ev ha H1 e1 _ fun H2 e2 => ⟨p, ss, rfl, ex_l (e1.trans e2) h, hz, fun ys q hp hs hq => ⟨e2.trans (Ex.new hq), q, ys, rfl, fresh_back (e1.trans e2) hq, upd_same, hp, hs⟩⟩
/-- tuple(list) -/
theorem en_tuple {q1 q2 : Pos} (hg : Gl X "tuple") (hm : X.mg "tuple" = none) (ha : EV X a σ H (.ref p)) (h : SqL X.K H p xs) (hst : starEach [a] X.env = (false, eval a X.env) :: starEach [] X.env := by rfl) : EN X (.Call (.Name "tuple" q1) [a] [] q2) σ H fun v H2 => ∃ q, v = .ref q ∧ H q = none ∧ H2 q = some (.tup xs) :=
  EN.of (pe_callTy call_tuple_of hg hm (by decide +kernel) (pa_cons pe_sem pa_nil hst) (he := hst)) fun H1 e1 => EV.ev ha H1 e1 _ fun H2 e2 => ⟨p, xs, rfl, .inl ⟨ex_l (e1.trans e2) h, fun q hq => ⟨e2.trans (Ex.new hq), q, rfl, fresh_back (e1.trans e2) hq, upd_same⟩⟩⟩
theorem rx_forRN (i : Nat) {g : Expr} {body : List Stmt} {p q : Pos} (hp : PassesOwn (model X.prog X.w) X.A X.env X.xe) (hc : X.calm = true) (hg : Gl X "range") (hm : X.mg "range" = none) (hl : EN X g σ H φ)
    (k : ∀ v H2, Ex H H2 → φ v H2 → ∃ (n : Int) (P : Nat → L2.St → Hp → Prop), v = .int n ∧ 0 ≤ n ∧ n ≤ 100000 ∧ P 0 σ H2 ∧
      (∀ (t : Nat) σ' Hb, (t : Int) < n → P t σ' Hb → RX X body { D with nx := UpS (P (t + 1)), ct := UpS (P (t + 1)), bk := semS X rest D } (σ'.set i (some (.int (t : Int)))) Hb) ∧ ∀ σ' Hb, P n.toNat σ' Hb → RX X rest D σ' Hb)
    (hN : X.N.Nodup) (hi : X.N[i]? = some nm := by rfl) (hlo : Loc X.env.scope nm := by first | exact Or.inl rfl | exact Or.inr rfl)
    (hf : X.fn nm = true ∨ X.env.scope.names.lookup nm = some .local := by first | exact .inl rfl | exact .inr rfl) (hst : starEach [g] X.env = (false, eval g X.env) :: starEach [] X.env := by rfl) : RX X (.For (.Name nm pos') (.Call (.Name "range" p) [g] [] q) body [] pos :: rest) D σ H :=
  rx_of (ps_for hp hc (pi_range1 hg hm (pa_cons pe_sem pa_nil hst) hst) (pg_name hN hi hlo hf) pss_sem) fun H1 e1 => sem_mono (hl H1 e1) fun v H2 ⟨e2, q⟩ => by
    obtain ⟨n, P, ev, n0, n1, h0, hs, hd⟩ := k v H2 (e1.trans e2) q
    refine ⟨n, by rw [ev], by omega, by omega, ?_⟩
    exact for_range (D := { D with nx := semS X rest D }) (lo := 0) (n := n.toNat) (fun t => UpS (P t)) ⟨H2, Ex.refl _, h0⟩ (fun t σ' H' ht ⟨Hb, e, p⟩ => by
      show semS X body _ (σ'.set i (some (.int (0 + (t : Int))))) H'
      rw [Int.zero_add]
      exact hs t σ' Hb (by omega) p H' e) fun σ' H' ⟨Hb, e, p⟩ => hd σ' Hb p H' e
end
end Y
set_option Elab.async false
set_option linter.all false
set_option maxRecDepth 100000
set_option maxHeartbeats 4000000
/-! a, b, *rest = a tuple of at least two; tuples of texts by <; what isinstance says; repr. -/
namespace Y
open PySem PySem.Spec PyProof.Rows L2 Evl
theorem vals_two {x y : V} {xs : List V} : ∀ {its : List Value}, Vals (x :: y :: xs) its → ∃ u1 u2 us, its = u1 :: u2 :: us ∧ RelV x u1 ∧ RelV y u2 ∧ Vals xs us
  | _, .cons r (.cons r' t) => ⟨_, _, _, rfl, r, r', t⟩
theorem star_items {prog : Program} {wd : World} {A : Around} {E : Value → Shared → Prop} {st : Shared} {tp : Addr} {its : Array Value} {Q : List Value → Shared → Prop} (ht : IsTup st.heap tp its) (h0 : A.handled = none) (h2 : 2 ≤ its.size) (hz : its.size ≤ 16384)
    (k : ∀ (g : Heap) (tk : Nat), (∀ b o, st.heap.get? b = some o → g.get? b = some o) → Q (its.toList.take 2 ++ [.ref g.objs.size]) { st with heap := g.push (seqObj "list" (its.toList.drop 2).toArray 0), toks := tk }) :
    wpAny (model prog wd) A (unpackItems (.ref tp) 3 (some 2)) Q E st := by
  have ne : tp ≠ st.heap.objs.size := by
    obtain ⟨o, e, _⟩ := ht
    exact Nat.ne_of_lt (Heap.lt_size e)
  unfold unpackItems
  refine wpAny_bind ?_
  unfold notIterableAtAll
  refine wpAny_bind (wpAny_specialOf ht.typeIs slot_tuple_iter.lookup (wpAny_pure ?_))
  rw [if_neg Bool.false_ne_true]
  refine wpAny_bind (wpAny_holding (iter_tuple ht ?_))
  refine wpAny_bind (wpAny_holding (draw_tuple ne 2 0 _ _ ⟨_, Heap.get?_push_size _ rfl, rfl, rfl⟩ (ht.push _) (by omega) fun g1 it1 sb1 => ?_))
  have ht1 : IsTup g1 tp its := (ht.push _).extBut sb1.extBut ne
  obtain ⟨oi, ei, _⟩ := id it1
  obtain ⟨ot, et, _⟩ := id ht1
  rw [List.drop_zero]
  have len2 : (its.toList.take 2).length = 2 := by rw [List.length_take, Array.length_toList]; omega
  rw [if_neg (show ¬ ((its.toList.take 2).length < 2) by rw [len2]; decide)]
  refine wpAny_bind (wpAny_holding (PySem.W.kun_collect (s := { st with heap := g1 }) (T := "tuple_iterator") (.inr (.inr (.inr rfl))) (Walks.tuple (A := A.in1) h0 st.heap.objs.size tp ne its) (fun j u z => z.1.typeIs) (k := 2) h2 ⟨it1, ht1⟩ (Heap.lt_size ei) (Heap.lt_size et) (fun g2 tk kp => ?_) (by rw [sizeLine_eq]; omega)))
  have lenR : (its.toList.drop 2).length = its.size - 2 := by rw [List.length_drop, Array.length_toList]
  show wpAny _ _ (if (its.toList.drop 2).length < 3 - 1 - 2 then _ else _) _ _ _
  rw [if_neg (by omega)]
  show wpAny _ _ (newList ((its.toList.drop 2).take ((its.toList.drop 2).length - (3 - 1 - 2))) >>= fun d => pure (its.toList.take 2 ++ [d] ++ (its.toList.drop 2).drop ((its.toList.drop 2).length - (3 - 1 - 2)))) _ _ _
  rw [show (3 : Nat) - 1 - 2 = 0 from rfl, Nat.sub_zero, List.take_length, List.drop_length]
  simp only [List.append_nil]
  have kp2 : ∀ b o, st.heap.get? b = some o → g2.get? b = some o := fun b o e => kp b o (Nat.ne_of_lt (Heap.lt_size e)) (sb1.extBut b o (Nat.ne_of_lt (Heap.lt_size e)) (Heap.get?_push_of_some _ e))
  refine wpAny_bind (wpAny_newList (wpAny_pure ?_) (by rw [lenR, sizeLine_eq]; omega))
  exact k g2 tk kp2
section
variable {X : Cx} {σ : L2.St} {H H' : Hp} {v w x y z : V} {e a b c f o : Expr} {i j k : Nat} {K : PySem.W.Frag} {n m : Int} {pos pos' apos cpos p2 px py pz pt sp : Pos} {D : Ends} {rest : List Stmt} {R : V → Hp → Prop} {l p : Addr} {xs ys : List V} {φ ψ : V → Hp → Prop} {nm nx ny nz : Str}
/-- the target x, y, *z -/
def gStar (K : PySem.W.Frag) (i j k : Nat) : TG := fun v σ H Q => ∃ (a : Addr) (x y : V) (r : List V), v = .ref a ∧ SqT K H a (x :: y :: r) ∧ r.length ≤ 1000 ∧ ∀ q, H q = none → Q (((σ.set i (some x)).set j (some y)).set k (some (.ref q))) (upd H q (.lst r))
theorem pg_star {kt : Nat} (hc : X.calm = true) (hN : X.N.Nodup) (hi : X.N[i]? = some nx) (hj : X.N[j]? = some ny) (hk : X.N[k]? = some nz) (lx : Loc X.env.scope nx) (ly : Loc X.env.scope ny) (lz : Loc X.env.scope nz)
    (fx : X.fn nx = true ∨ X.env.scope.names.lookup nx = some .local) (fy : X.fn ny = true ∨ X.env.scope.names.lookup ny = some .local) (fz : X.fn nz = true ∨ X.env.scope.names.lookup nz = some .local) :
    PG X (.Tuple [.Name nx px, .Name ny py, .Starred (.Name nz pz) sp] kt pt) (gStar X.K i j k) := by
  refine ⟨fun pins s σ H v u Q I r h => ?_⟩
  obtain ⟨a, x, y, xs, rfl, ht, hl, q⟩ := h
  obtain rfl : u = Value.ref a := r
  obtain ⟨its, rv, hT, _⟩ := I.tuple ht
  have hsz : its.length = xs.length + 2 := by rw [← rv.length]; rfl
  rw [assign_Tuple]
  refine wpAny_bind (wpAny_standAt ?_)
  unfold unpack
  rw [show (assignEach [Expr.Name nx px, .Name ny py, .Starred (.Name nz pz) sp] X.env).length = 3 from rfl, show (assignEach [Expr.Name nx px, .Name ny py, .Starred (.Name nz pz) sp] X.env).findIdx? (·.1) = some 2 from rfl]
  refine wpAny_bind (wpAny_holding (star_items hT (I.ok.hd hc) (by rw [List.size_toArray]; omega) (by rw [List.size_toArray]; omega) fun g tk kp => ?_))
  have I1 : Inv X pins σ H { s with heap := g, toks := tk } := I.kept (t' := tk) kp
  have hn := I1.hok.fresh (Nat.le_refl g.objs.size)
  obtain ⟨u1, u2, us, rfl, r1, r2, rv⟩ := vals_two rv
  have I2 : Inv X pins σ (upd H g.objs.size (.lst xs)) { s with heap := g.push (seqObj "list" us.toArray 0), toks := tk } :=
    I1.laid (t' := tk) (fun b o e => Heap.get?_push_of_some _ e) (Nat.le_refl _) ⟨sz_of (Nat.le_trans hl (by decide)), us, 0, rv, Heap.get?_push_size _ rfl⟩
  have e2 : ((u1 :: u2 :: us).toArray.toList.take 2 ++ [Value.ref g.objs.size]) = [u1, u2, .ref g.objs.size] := rfl
  rw [e2]
  show wpAny _ _ (assignInOrder [assign (.Name nx px) X.env, assign (.Name ny py) X.env, assign (.Name nz pz) X.env] [u1, u2, .ref g.objs.size]) _ _ _
  refine assignInOrder_cons (thn ((pg_name hN hi lx fx).run pins _ σ _ x u1 _ I2 r1 (?_ : gName i x σ _ fun σ1 H1 => H1 = upd H g.objs.size (.lst xs) ∧ σ1 = σ.set i (some x))) fun _ s1 ⟨σ1, H1, I3, e3, e4⟩ => ?_)
  · exact ⟨rfl, rfl⟩
  subst e3 e4
  refine assignInOrder_cons (thn ((pg_name hN hj ly fy).run pins _ _ _ y u2 _ I3 r2 (?_ : gName j y _ _ fun σ1 H1 => H1 = upd H g.objs.size (.lst xs) ∧ σ1 = (σ.set i (some x)).set j (some y))) fun _ s2 ⟨σ1, H1, I4, e3, e4⟩ => ?_)
  · exact ⟨rfl, rfl⟩
  subst e3 e4
  refine assignInOrder_cons (thn ((pg_name hN hk lz fz).run pins _ _ _ (.ref g.objs.size) (.ref g.objs.size) _ I4 rfl (q _ hn)) fun _ s3 ⟨σ1, H1, I5, q5⟩ => ?_)
  exact assignInOrder_nil ⟨σ1, H1, I5, q5⟩
/-- x, y, *z = e -/
theorem rx_star {kt : Nat} (i j k : Nat) (h : EV X e σ H (.ref p)) (ht : SqT X.K H p (x :: y :: xs)) (hl : xs.length ≤ 1000) (q : ∀ r, H r = none → RX X rest D (((σ.set i (some x)).set j (some y)).set k (some (.ref r))) (upd H r (.lst xs))) (hc : X.calm = true) (hN : X.N.Nodup)
    (hi : X.N[i]? = some nx := by rfl) (hj : X.N[j]? = some ny := by rfl) (hk : X.N[k]? = some nz := by rfl) (lx : Loc X.env.scope nx := by first | exact Or.inl rfl | exact Or.inr rfl) (ly : Loc X.env.scope ny := by first | exact Or.inl rfl | exact Or.inr rfl) (lz : Loc X.env.scope nz := by first | exact Or.inl rfl | exact Or.inr rfl)
    (fx : X.fn nx = true ∨ X.env.scope.names.lookup nx = some .local := by first | exact .inl rfl | exact .inr rfl) (fy : X.fn ny = true ∨ X.env.scope.names.lookup ny = some .local := by first | exact .inl rfl | exact .inr rfl) (fz : X.fn nz = true ∨ X.env.scope.names.lookup nz = some .local := by first | exact .inl rfl | exact .inr rfl)
    (hs : swapsWithSole [.Tuple [.Name nx px, .Name ny py, .Starred (.Name nz pz) sp] kt pt] e pos.line X.env = pure false := by rfl) (hw : swappedStores [.Tuple [.Name nx px, .Name ny py, .Starred (.Name nz pz) sp] kt pt] e X.env = pure none := by rfl)
    (h1 : (assignEach [.Tuple [.Name nx px, .Name ny py, .Starred (.Name nz pz) sp] kt pt] X.env).map (·.2) = [assign (.Tuple [.Name nx px, .Name ny py, .Starred (.Name nz pz) sp] kt pt) X.env] := by rfl) :
    RX X (.Assign [.Tuple [.Name nx px, .Name ny py, .Starred (.Name nz pz) sp] kt pt] e pos :: rest) D σ H :=
  rx_of (ps_asg pe_sem (pg_star hc hN hi hj hk lx ly lz fx fy fz) hs hw h1) fun H1 e1 => EV.ev h H1 e1 _ fun H2 e2 => ⟨p, x, y, xs, rfl, ex_t (e1.trans e2) ht, hl, fun r hr => q r (fresh_back (e1.trans e2) hr) _ (ex_upd (e1.trans e2))⟩
end
end Y
set_option Elab.async false
set_option linter.all false
set_option maxRecDepth 100000
set_option maxHeartbeats 4000000
namespace Y
open PySem PySem.Spec PyProof.Rows L2 Evl
/-- pairs of texts as Python sorts them -/
def ltPair (p q : Str × Str) : Bool := if p.1 = q.1 then decide (p.2.cps.toList < q.2.cps.toList) else decide (p.1.cps.toList < q.1.cps.toList)
section
variable {X : Cx} {σ : L2.St} {H H' : Hp} {v w x y z : V} {e a b c f o : Expr} {i j k : Nat} {K : PySem.W.Frag} {n m : Int} {pos pos' apos cpos p2 q1 q2 : Pos} {D : Ends} {rest : List Stmt} {R : V → Hp → Prop} {l p r : Addr} {xs ys : List V} {φ ψ : V → Hp → Prop} {nm : Str}
theorem op_ltPair (hu : X.A.units < cLine) : OpR X (compareOp .Lt) fun x y H Q => ∃ (a b : Addr) (p q : Str × Str), x = .ref a ∧ y = .ref b ∧ SqT X.K H a [.str p.1, .str p.2] ∧ SqT X.K H b [.str q.1, .str q.2] ∧ Q (.bl (ltPair p q)) H := by
  intro pins s σ H x y v u Q I rx ry h
  obtain ⟨a, b, p, q, rfl, rfl, ha, hb, hq⟩ := h
  obtain rfl : v = Value.ref a := rx
  obtain rfl : u = Value.ref b := ry
  obtain ⟨i1, r1, p1, _⟩ := I.tuple ha
  obtain ⟨i2, r2, p2, _⟩ := I.tuple hb
  obtain ⟨u1, u2, t1, rfl, ⟨k1, rfl⟩, ⟨k2, rfl⟩, rn1⟩ := vals_two r1
  obtain ⟨w1, w2, t2, rfl, ⟨k3, rfl⟩, ⟨k4, rfl⟩, rn2⟩ := vals_two r2
  cases rn1
  cases rn2
  have T := Ob.RcOp.tuples_lt (A := X.A) (s := s) (e := fun j => if j = 0 then p.1 == q.1 else p.2 == q.2) (r := fun j => if j = 0 then decide (p.1.cps.toList < q.1.cps.toList) else decide (p.2.cps.toList < q.2.cps.toList)) p1 p2 hu
    (fun j h1 h2 => by
      match j, h1, h2 with
      | 0, _, _ => exact SeqAt.EqAt.str_str _ _ _ _
      | 1, _, _ => exact SeqAt.EqAt.str_str _ _ _ _
      | _ + 2, h1, _ => exact absurd h1 (by simp))
    (fun j h1 h2 _ => by
      match j, h1, h2 with
      | 0, _, _ => exact fun _ _ _ _ z => PyProof.Rows.lt_str z
      | 1, _, _ => exact fun _ _ _ _ z => PyProof.Rows.lt_str z
      | _ + 2, h1, _ => exact absurd h1 (by simp))
  refine T X.prog X.w X.xe (EP X pins σ Q) ?_
  have e : Ob.lexAt (fun j => if j = 0 then p.1 == q.1 else p.2 == q.2) (fun j => if j = 0 then decide (p.1.cps.toList < q.1.cps.toList) else decide (p.2.cps.toList < q.2.cps.toList)) (decide (2 < 2)) 0 2 = ltPair p q := by
    have hd : ∀ a b : Str, (a == b) = decide (a = b) := fun a b => by
      by_cases h : a = b
      · subst h; simp
      · simp [h]
    rw [Ob.lexAt_succ, Ob.lexAt_succ, Ob.lexAt_zero]
    simp only [if_true, Nat.zero_add, Nat.one_ne_zero, if_false, hd]
    unfold ltPair
    by_cases h1 : p.1 = q.1
    · simp only [h1, decide_true, if_true]
      by_cases h2 : p.2 = q.2
      · simp [h2, List.lt_irrefl]
      · simp [h2]
    · simp [h1]
  exact ⟨.bl (ltPair p q), H, I, congrArg Value.bool e, hq⟩
/-! ### isinstance -/
theorem ev_isi {t : Value} {T : String} {bb : Bool} (hg : Gl X "isinstance") (hm : X.mg "isinstance" = none) (ha : EV X a σ H x) (hb : EV X b σ H (.ty T)) (ht : ∀ H1, Ex H H1 → TyX X.K H1 x t) (hk : PySem.W.kitOne X.K t (.type T) = some bb)
    (he : starEach [a, b] X.env = (false, eval a X.env) :: starEach [b] X.env := by rfl) (he2 : starEach [b] X.env = (false, eval b X.env) :: starEach [] X.env := by rfl) (hpl : (backTo q2 (starEach [b] X.env)).any (·.1) = false := by rfl) :
    EV X (.Call (.Name "isinstance" q1) [a, b] [] q2) σ H (.bl bb) :=
  EV.of (pe_callB call_isi hg hm (by decide +kernel) (pa_cons pe_sem (pa_cons pe_sem pa_nil he2) he) (he := he) (hpl := hpl)) (ev_cb (ea_cons (EV.ev ha) (ea_cons (EV.ev hb) ea_nil)) fun H1 e1 Q q => ⟨x, .ty T, t, .type T, bb, rfl, .ty T, ht H1 e1, hk, q H1 (Ex.refl H1)⟩)
theorem ev_tyName {T : String} {nm : Str} (hg : Gl X nm) (hm : X.mg nm = none) (hv : bootBuiltins nm = some (.type T)) (hn : nm ≠ "__name__" := by decide) (hd : (nm == ("__debug__" : Str)) = false := by decide) : EV X (.Name nm pos) σ H (.ty T) := EV.of (pe_bltn hg hm hv (show RelV (.ty T) (.type T) from rfl) hn hd) ev_c
theorem ev_glob {u : Value} {nm : Str} (hg : Gl X nm) (hm : X.mg nm = some u) (r : RelV v u) (hd : (nm == ("__debug__" : Str)) = false := by decide) : EV X (.Name nm pos) σ H v := EV.of (pe_glob hg hm r hd) ev_c
/-! ### is, repr -/
theorem tn_isN (ha : EV X a σ H x) {j} {q : Pos} : TN X (.Compare a [.Is] [.Constant .none j q] pos) σ H (decide (x = .non)) :=
  ⟨fun H1 e1 => semT_of (pt_cmpR op_isN pe_sem pe_non (nomark _)) (EV.ev ha H1 e1 _ fun H2 e2 => ⟨rfl, _, rfl, e2, rfl⟩)⟩
theorem tn_isNotB {p q : Bool} (ha : EV X a σ H (.bl p)) (hb : EV X b σ H (.bl q)) : TN X (.Compare a [.IsNot] [b] pos) σ H (!decide (p = q)) :=
  ⟨fun H1 e1 => semT_of (pt_cmpR op_notBl pe_sem pe_sem (nomark _)) (EV.ev ha H1 e1 _ fun H2 e2 => EV.ev hb H2 (e1.trans e2) _ fun H3 e3 => ⟨p, q, rfl, rfl, _, rfl, e2.trans e3, rfl⟩)⟩
theorem call_reprB : CallR X (.builtin "repr") fun xs H Q => ∃ b : Bool, xs = [.bl b] ∧ Q (.str (if b then "True" else "False")) H := by
  intro pins s σ H xs us Q I r h
  obtain ⟨b, rfl, q⟩ := h
  obtain ⟨u, rfl, ru⟩ := vals1 r
  obtain rfl : u = Value.bool b := ru
  exact PySem.P.repr_of_bool ⟨.str _, H, I.tok _, ⟨_, rfl⟩, q⟩
theorem call_reprS : CallR X (.builtin "repr") fun xs H Q => ∃ t : Str, xs = [.str t] ∧ (reprText t).length ≤ sizeLine ∧ Q (.str (reprText t)) H := by
  intro pins s σ H xs us Q I r h
  obtain ⟨t, rfl, hz, q⟩ := h
  obtain ⟨u, rfl, ru⟩ := vals1 r
  obtain ⟨k, rfl⟩ := (show ∃ k, u = Value.str t k from ru)
  exact PySem.P.repr_of_str ⟨.str _, H, I.tok _, ⟨_, rfl⟩, q⟩ hz
theorem ev_reprB {bb : Bool} (hg : Gl X "repr") (hm : X.mg "repr" = none) (ha : EV X a σ H (.bl bb)) (hst : starEach [a] X.env = (false, eval a X.env) :: starEach [] X.env := by rfl) : EV X (.Call (.Name "repr" q1) [a] [] q2) σ H (.str (if bb then "True" else "False")) :=
  EV.of (pe_callB call_reprB hg hm (by decide +kernel) (pa_cons pe_sem pa_nil hst) (he := hst)) (ev_cb (ea_cons (EV.ev ha) ea_nil) fun H1 e1 Q q => ⟨bb, rfl, q H1 (Ex.refl H1)⟩)
theorem ev_reprS {t : Str} (hg : Gl X "repr") (hm : X.mg "repr" = none) (ha : EV X a σ H (.str t)) (hz : (reprText t).length ≤ sizeLine) (hst : starEach [a] X.env = (false, eval a X.env) :: starEach [] X.env := by rfl) : EV X (.Call (.Name "repr" q1) [a] [] q2) σ H (.str (reprText t)) :=
  EV.of (pe_callB call_reprS hg hm (by decide +kernel) (pa_cons pe_sem pa_nil hst) (he := hst)) (ev_cb (ea_cons (EV.ev ha) ea_nil) fun H1 e1 Q q => ⟨t, rfl, hz, q H1 (Ex.refl H1)⟩)
/-! ### dicts -/
variable {kvs : List (Key × V)} {ky : Key}
theorem tn_din (hu : X.A.units + 1 < cLine) (ha : EV X a σ H (kV ky)) (hb : EV X b σ H (.ref p)) (h : H p = some (.dK kvs)) (hm : behindInMarks .In b = false := by rfl) : TN X (.Compare a [.In] [b] pos) σ H (valV kvs ky).isSome :=
  ⟨fun H1 e1 => semT_of (pt_cmp (pc_din hu pe_sem pe_sem) hm) (EV.ev ha H1 e1 _ fun H2 e2 => EV.ev hb H2 (e1.trans e2) _ fun H3 e3 => ⟨p, _, rfl, DGet.k (((e1.trans e2).trans e3) _ _ h), _, rfl, e2.trans e3, rfl⟩)⟩
theorem tn_dnotin (hu : X.A.units + 1 < cLine) (ha : EV X a σ H (kV ky)) (hb : EV X b σ H (.ref p)) (h : H p = some (.dK kvs)) (hm : behindInMarks .NotIn b = false := by rfl) : TN X (.Compare a [.NotIn] [b] pos) σ H (!(valV kvs ky).isSome) :=
  ⟨fun H1 e1 => semT_of (pt_cmp (pc_dnotin hu pe_sem pe_sem) hm) (EV.ev ha H1 e1 _ fun H2 e2 => EV.ev hb H2 (e1.trans e2) _ fun H3 e3 => ⟨p, _, rfl, DGet.k (((e1.trans e2).trans e3) _ _ h), _, rfl, e2.trans e3, rfl⟩)⟩
theorem ev_din (hu : X.A.units + 1 < cLine) (ha : EV X a σ H (kV ky)) (hb : EV X b σ H (.ref p)) (h : H p = some (.dK kvs)) (hm : behindInMarks .In b = false := by rfl) : EV X (.Compare a [.In] [b] pos) σ H (.bl (valV kvs ky).isSome) :=
  EN.of (pe_cmp (pc_din hu pe_sem pe_sem) hm) fun H1 e1 => EV.ev ha H1 e1 _ fun H2 e2 => EV.ev hb H2 (e1.trans e2) _ fun H3 e3 => ⟨p, _, rfl, DGet.k (((e1.trans e2).trans e3) _ _ h), e2.trans e3, rfl⟩
theorem ev_dnotin (hu : X.A.units + 1 < cLine) (ha : EV X a σ H (kV ky)) (hb : EV X b σ H (.ref p)) (h : H p = some (.dK kvs)) (hm : behindInMarks .NotIn b = false := by rfl) : EV X (.Compare a [.NotIn] [b] pos) σ H (.bl (!(valV kvs ky).isSome)) :=
  EN.of (pe_cmp (pc_dnotin hu pe_sem pe_sem) hm) fun H1 e1 => EV.ev ha H1 e1 _ fun H2 e2 => EV.ev hb H2 (e1.trans e2) _ fun H3 e3 => ⟨p, _, rfl, DGet.k (((e1.trans e2).trans e3) _ _ h), e2.trans e3, rfl⟩
/-- d.get(k), d.get(k, e) -/
theorem ev_get1 (hu : X.A.units + 1 < cLine) (ho : EV X o σ H (.ref p)) (ha : EV X a σ H (kV ky)) (h : H p = some (.dK kvs)) (m : M1 X o "get" apos a cpos := by exact ⟨rfl, rfl, rfl, rfl⟩) : EV X (.Call (.Attribute o "get" apos) [a] [] cpos) σ H ((valV kvs ky).getD .non) :=
  EN.of (pe_dget1 hu pe_sem pe_sem m) fun H1 e1 => EV.ev ho H1 e1 _ fun H2 e2 => ⟨p, rfl, .inl ⟨kvs, .inl ((e1.trans e2) _ _ h)⟩, EV.ev ha H2 (e1.trans e2) _ fun H3 e3 => ⟨_, DGet.k (((e1.trans e2).trans e3) _ _ h), e2.trans e3, rfl⟩⟩
theorem en_get2 (hu : X.A.units + 1 < cLine) (ho : EV X o σ H (.ref p)) (ha : EV X a σ H (kV ky)) (h : H p = some (.dK kvs)) (hb : EN X b σ H φ) (k : ∀ z H2, Ex H H2 → φ z H2 → ψ ((valV kvs ky).getD z) H2) (m : M2 X o "get" apos a b cpos := by exact ⟨rfl, rfl, rfl, rfl⟩) : EN X (.Call (.Attribute o "get" apos) [a, b] [] cpos) σ H ψ :=
  EN.of (pe_dget2 hu pe_sem pe_sem pe_sem m) fun H1 e1 => EV.ev ho H1 e1 _ fun H2 e2 => ⟨p, rfl, .inl ⟨kvs, .inl ((e1.trans e2) _ _ h)⟩, EV.ev ha H2 (e1.trans e2) _ fun H3 e3 => sem_mono (hb H3 ((e1.trans e2).trans e3)) fun z H4 ⟨e4, q⟩ =>
    ⟨_, DGet.k ((((e1.trans e2).trans e3).trans e4) _ _ h), (e2.trans e3).trans e4, k z H4 (((e1.trans e2).trans e3).trans e4) q⟩⟩
theorem em_setd (ho : EV X o σ H (.ref p)) (ha : EV X a σ H (kV ky)) (h : H p = some (.dK kvs)) (hz : kvs.length < 100000) (hb : EM X b σ H fun z Hb => Hb p = some (.dK kvs) ∧ (∀ v, valV kvs ky = some v → R v Hb) ∧ (valV kvs ky = none → R z (upd Hb p (.dK (putK kvs ky z))))) (m : M2 X o "setdefault" apos a b cpos := by exact ⟨rfl, rfl, rfl, rfl⟩) :
    EM X (.Call (.Attribute o "setdefault" apos) [a, b] [] cpos) σ H R :=
  EM.of (pe_dsetd pe_sem pe_sem pe_sem m) fun H1 e1 => EV.ev ho H1 e1 _ fun H2 e2 => ⟨p, rfl, .inl ⟨kvs, .inl ((e1.trans e2) _ _ h)⟩, EV.ev ha H2 (e1.trans e2) _ fun H3 e3 => sem_mono (hb H3 ((e1.trans e2).trans e3)) fun z H4 ⟨Hb, e4, h4, k1, k2⟩ =>
    ⟨kvs, ky, e4 _ _ h4, rfl, sz_lt hz, fun v hv => ⟨Hb, e4, k1 v hv⟩, fun hn => ⟨_, ex_upd e4, k2 hn⟩⟩⟩
/-! ### objects -/
variable {C dx : Addr} {fs : List (Str × V)}
theorem rx_fld {value : Expr} (hv : EM X value σ H fun v Hb => ∃ (p C dx : Addr) (fs : List (Str × V)), EV X o σ Hb (.ref p) ∧ Hb p = some (.ins C dx fs) ∧ Cls X.K C ∧ NoAttr X.K C nm ∧ fs.length < 1000 ∧ RX X rest D σ (upd Hb p (.ins C dx (putF nm v fs)))) (hs : swapsWith value (some (.Attribute o nm pos')) pos.line X.env = pure false := by rfl) :
    RX X (.Assign [.Attribute o nm pos'] value pos :: rest) D σ H :=
  rx_of (ps_fld pe_sem pe_sem hs) fun H1 e1 => sem_mono (hv H1 e1) fun v H2 ⟨Hb, e2, p, C, dx, fs, ho, h, hc, hn, hl, k⟩ => EV.ev ho H2 e2 _ fun H3 e3 => ⟨p, C, dx, fs, rfl, (e2.trans e3) _ _ h, hc, hn, hl, k _ (ex_upd (e2.trans e3))⟩
theorem rx_fldV {value : Expr} (hv : EV X value σ H v) (ho : EV X o σ H (.ref p)) (h : H p = some (.ins C dx fs)) (hc : Cls X.K C) (hn : NoAttr X.K C nm) (hl : fs.length < 1000) (k : RX X rest D σ (upd H p (.ins C dx (putF nm v fs)))) (hs : swapsWith value (some (.Attribute o nm pos')) pos.line X.env = pure false := by rfl) :
    RX X (.Assign [.Attribute o nm pos'] value pos :: rest) D σ H := rx_fld (EM.ev hv ⟨p, C, dx, fs, ho, h, hc, hn, hl, k⟩) hs
/-- o.f += e, ints -/
theorem rx_fldAdd {value : Expr} (hv : EV X value σ H (.int m)) (ho : EV X o σ H (.ref p)) (h : H p = some (.ins C dx fs)) (hc : Cls X.K C) (hn : NoAttr X.K C nm) (g : fs.lookup nm = some (.int n)) (hl : fs.length < 1000) (k : RX X rest D σ (upd H p (.ins C dx (putF nm (.int (n + m)) fs)))) :
    RX X (.AugAssign (.Attribute o nm pos') .Add value pos :: rest) D σ H :=
  rx_of (ps_fldaug pe_sem pe_sem in_add) fun H1 e1 => EV.ev ho H1 e1 _ fun H2 e2 => ⟨p, C, dx, fs, _, rfl, (e1.trans e2) _ _ h, hc, hn, g, EV.ev hv H2 (e1.trans e2) _ fun H3 e3 => ⟨n, m, rfl, rfl, dx, fs, ((e1.trans e2).trans e3) _ _ h, hl, k _ (ex_upd ((e1.trans e2).trans e3))⟩⟩
/-- x in (a, b), x not in (a, b): the tuple made on the way -/
theorem tn_inU (ha : EV X a σ H x) (hb : EN X b σ H (NT H xs)) (fx : flatV x = true) (fs : xs.all flatV = true) (hm : behindInMarks .In b = false := by rfl) : TN X (.Compare a [.In] [b] pos) σ H (inV x xs) :=
  ⟨fun H1 e1 => semT_of (pt_cmpR op_in_seq pe_sem pe_sem hm) (EV.ev ha H1 e1 _ fun H2 e2 => sem_mono (hb H2 (e1.trans e2)) fun v H3 ⟨e3, q, ev, _, hq⟩ => ⟨q, xs, ev, .inr (st_of hq), fx, fs, _, rfl, e2.trans e3, rfl⟩)⟩
theorem tn_notInU (ha : EV X a σ H x) (hb : EN X b σ H (NT H xs)) (fx : flatV x = true) (fs : xs.all flatV = true) (hm : behindInMarks .NotIn b = false := by rfl) : TN X (.Compare a [.NotIn] [b] pos) σ H (!inV x xs) :=
  ⟨fun H1 e1 => semT_of (pt_cmpR op_notIn_seq pe_sem pe_sem hm) (EV.ev ha H1 e1 _ fun H2 e2 => sem_mono (hb H2 (e1.trans e2)) fun v H3 ⟨e3, q, ev, _, hq⟩ => ⟨q, xs, ev, .inr (st_of hq), fx, fs, _, rfl, e2.trans e3, rfl⟩)⟩
end
end Y
set_option Elab.async false
set_option linter.all false
set_option maxRecDepth 100000
set_option maxHeartbeats 4000000
namespace Y
open PySem PySem.Spec PyProof.Rows L2 Evl RZ
section
variable {X : Cx} {σ : L2.St} {H H' : Hp} {v w x y z : V} {e a b c f o : Expr} {i j k : Nat} {K : PySem.W.Frag} {n m : Int} {pos pos' apos cpos p2 q1 q2 px py pt : Pos} {D : Ends} {rest : List Stmt} {R : V → Hp → Prop} {l p r : Addr} {xs ys : List V} {φ ψ : V → Hp → Prop} {nm : Str}
/-- [.. for sign in text] -/
theorem en_lcS (j : Nat) {elt l : Expr} {xn : Str} {scope : Scope} {own : List (Str × Nat)} {t : Str} (hc : X.calm = true) (hN : X.N.Nodup) (ok : BlkOk X.N X.env.scope scope own) (hl : EV X l σ H (.str t)) (hz : t.cps.size ≤ 100000)
    (hg : ∀ (s : Shared) (H : Hp) (C : Addr) (cl : List (Str × Addr)) (fp : List Addr), PG (X.blk s H scope (compEnvC scope cl C X.env) fp) (.Name xn px) (gName j))
    (hw : ∀ v, wipe ((wipe σ (own.map (·.2))).set j (some v)) (own.map (·.2)) = wipe σ (own.map (·.2)))
    (P : Nat → List V → Hp → Prop) (hP : ∀ n acc H1 H2, Tx H1 H2 → P n acc H1 → P n acc H2) (h0 : P 0 [] H)
    (hs : ∀ n c acc Hb (s : Shared) (H' : Hp) (C : Addr) (cl : List (Str × Addr)) (fp : List Addr), t.cps[n]? = some c → Ex H Hb → P n acc Hb → EN (X.blk s H' scope (compEnvC scope cl C X.env) fp) elt ((wipe σ (own.map (·.2))).set j (some (.str ⟨#[c]⟩))) Hb fun v H2 => P (n + 1) (acc ++ [v]) H2)
    (hfo : ∀ x, foldedSetIterable l X.env x = pure x := by intro _; rfl) :
    EN X (.ListComp elt [⟨.Name xn px, l, [], 0⟩] scope pos) σ H fun v H2 => ∃ D acc, v = .ref D ∧ H D = none ∧ H2 D = some (.lst acc) ∧ acc.length ≤ t.cps.size ∧ P t.cps.size acc H2 :=
  EN.of (pe_lc hc hN (pi_str pe_sem) ok hg (fun _ _ _ _ _ => pts_nil) (fun s H' C cl fp => pe_blk s H' C cl fp) hfo) fun H1 e1 => EV.ev hl H1 e1 _ fun H2 e2 => ⟨t, rfl, fun D hD =>
    lc_it (walk_str (z := t)) (LcW H2 D P) ⟨[], Nat.le_refl _, hD, Ex.new hD, upd_same, hP _ _ _ _ (Tx.trans (e1.trans e2).tx (Ex.new hD).tx) h0⟩ (fun _ _ _ _ => True.intro)
      (fun i x H' H'' hi ⟨acc, q1, q2, q3, q4, q5⟩ ⟨eh, c, hc, ex⟩ => by
        subst eh ex
        exact ⟨hw _, iteT (B := LcW H2 D P (i + 1) H'') fun s H'' C cl fp => sem_mono (hs i c acc _ s H'' C cl fp hc ((e1.trans e2).trans q3) q5 _ (Ex.refl _)) fun v H4 ⟨e4, q6⟩ => LcW.push hP q1 q2 (q3.trans e4) (e4 D _ q4) (by omega) q6⟩)
      (fun H' ⟨acc, q1, q2, q3, q4, q5⟩ => ⟨e2.trans q3, D, acc, rfl, fresh_back (e1.trans e2) q2, q4, q1, q5⟩)⟩
theorem walk_zT {K : PySem.W.Frag} {a b : Addr} {xs ys : List V} {n : Nat} (hn : n = min xs.length ys.length) : Walk (ItzT K a b) n (fun H => SqT K H a xs ∧ SqT K H b ys) (YPair (fun i => xs[i]?) (fun i => ys[i]?)) := by
  subst hn
  refine ⟨fun i _ hi q => ?_, fun _ q => ⟨xs, ys, q.1, q.2, by omega⟩, fun i H v H' _ q y => ?_⟩
  · have h1 : i < xs.length := by omega
    have h2 : i < ys.length := by omega
    exact ⟨xs, ys, xs[i], ys[i], q.1, q.2, List.getElem?_eq_getElem h1, List.getElem?_eq_getElem h2⟩
  · obtain ⟨T, x, z, h1, h2, h3, h4, h5⟩ := y
    exact ⟨T, x, z, h1, h2, h3, h4 xs q.1, h5 ys q.2⟩
/-- [.. for x, y in zip(tuple, tuple)] -/
theorem en_lcZ (j1 j2 : Nat) {elt la lb : Expr} {xn yn : Str} {kt : Nat} {scope : Scope} {own : List (Str × Nat)} (hc : X.calm = true) (hN : X.N.Nodup) (ok : BlkOk X.N X.env.scope scope own) (hgz : Gl X "zip") (hmz : X.mg "zip" = none)
    (hl : EV X la σ H (.ref p)) (hx : SqT X.K H p xs) (hl2 : EN X lb σ H fun v H2 => ∃ r, v = .ref r ∧ SqT X.K H2 r ys) (hz : xs.length ≤ 100000)
    (hg : ∀ (s : Shared) (H : Hp) (C : Addr) (cl : List (Str × Addr)) (fp : List Addr), PG (X.blk s H scope (compEnvC scope cl C X.env) fp) (.Tuple [.Name xn px, .Name yn py] kt pt) (gTup X.K 2 (gCons (gName j1) (gCons (gName j2) gNil))))
    (hw : ∀ v v', wipe (((wipe σ (own.map (·.2))).set j1 (some v)).set j2 (some v')) (own.map (·.2)) = wipe σ (own.map (·.2)))
    (P : Nat → List V → Hp → Prop) (hP : ∀ n acc H1 H2, Tx H1 H2 → P n acc H1 → P n acc H2) (h0 : P 0 [] H)
    (hs : ∀ n x y acc Hb (s : Shared) (H' : Hp) (C : Addr) (cl : List (Str × Addr)) (fp : List Addr), xs[n]? = some x → ys[n]? = some y → Ex H Hb → P n acc Hb → EN (X.blk s H' scope (compEnvC scope cl C X.env) fp) elt (((wipe σ (own.map (·.2))).set j1 (some x)).set j2 (some y)) Hb fun v H2 => P (n + 1) (acc ++ [v]) H2)
    (hst : starEach [la, lb] X.env = (false, eval la X.env) :: starEach [lb] X.env := by rfl) (hst2 : starEach [lb] X.env = (false, eval lb X.env) :: starEach [] X.env := by rfl) (hpl : (backTo q2 (starEach [lb] X.env)).any (·.1) = false := by rfl) :
    EN X (.ListComp elt [⟨.Tuple [.Name xn px, .Name yn py] kt pt, .Call (.Name "zip" q1) [la, lb] [] q2, [], 0⟩] scope pos) σ H fun v H2 => ∃ D acc, v = .ref D ∧ H D = none ∧ H2 D = some (.lst acc) ∧ acc.length ≤ min xs.length ys.length ∧ P (min xs.length ys.length) acc H2 :=
  EN.of (pe_lc hc hN (pi_zipA hgz hmz (pa_cons pe_sem (pa_cons pe_sem pa_nil hst2) hst) hst hpl) ok hg (fun _ _ _ _ _ => pts_nil) (fun s H' C cl fp => pe_blk s H' C cl fp)) fun H1 e1 => EV.ev hl H1 e1 _ fun H2 e2 => sem_mono (hl2 H2 (e1.trans e2)) fun v H3 ⟨e3, r, ev, hy⟩ =>
    ⟨p, r, xs, ys, by rw [ev], .inr ⟨ex_t ((e1.trans e2).trans e3) hx, hy, fun D hD =>
      lc_it (walk_zT rfl) (LcW H3 D P) ⟨[], Nat.le_refl _, hD, Ex.new hD, upd_same, hP _ _ _ _ (Tx.trans ((e1.trans e2).trans e3).tx (Ex.new hD).tx) h0⟩ (fun i H' _ p => let ⟨_, _, _, e, _, _⟩ := p; ⟨ex_t (((e1.trans e2).trans e3).trans e) hx, ex_t e hy⟩)
        (fun i v H' H'' hi ⟨acc, q1, q2, q3, q4, q5⟩ ⟨T, x, y, ev, hT, eh, fx, fy⟩ => by
          subst ev eh
          have nD : D ≠ T := ne_of_none q4 hT
          refine ⟨T, [x, y], rfl, .inl (.inl upd_same), rfl, x, [y], rfl, y, [], rfl, rfl, hw _ _, ?_⟩
          refine iteT (B := LcW H3 D P (i + 1) (upd H' T (.tup [x, y]))) fun s H'' C cl fp => sem_mono (hs i x y acc _ s H'' C cl fp fx fy (((e1.trans e2).trans e3).trans (q3.trans (Ex.new hT))) (hP _ _ _ _ (Ex.new hT).tx q5) _ (Ex.refl _)) fun v H4 ⟨e4, q6⟩ =>
            LcW.push hP q1 q2 ((q3.trans (Ex.new hT)).trans e4) (e4 D _ (by rw [upd_ne nD]; exact q4)) (by omega) q6)
        (fun H' ⟨acc, q1, q2, q3, q4, q5⟩ => ⟨(e2.trans e3).trans q3, D, acc, rfl, fresh_back ((e1.trans e2).trans e3) q2, q4, q1, q5⟩)⟩⟩
/-- all(a list of truth values that nobody else has) -/
theorem en_all (hc : X.calm = true) (hg : Gl X "all") (hm : X.mg "all" = none) (ha : EN X a σ H fun v H2 => ∃ (D : Addr) (l : List Bool), v = .ref D ∧ H2 D = some (.lst (l.map V.bl)) ∧ φ (.bl (l.all id)) H2) (hst : starEach [a] X.env = (false, eval a X.env) :: starEach [] X.env := by rfl) :
    EN X (.Call (.Name "all" q1) [a] [] q2) σ H φ :=
  EN.of (pe_callB (cr_all hc) hg hm (by decide +kernel) (pa_cons pe_sem pa_nil hst) (he := hst)) fun H1 e1 => sem_mono (ha H1 e1) fun v H2 ⟨e2, D, l, ev, hD, q⟩ => ⟨D, l, by rw [ev], sq_of hD, e2, q⟩
/-- one sign in a text -/
theorem ev_inSign {c : Nat} {t : Str} (ha : EV X a σ H (.str ⟨#[c]⟩)) (hb : EV X b σ H (.str t)) (hm : behindInMarks .In b = false := by rfl) : EV X (.Compare a [.In] [b] pos) σ H (.bl (decide (c ∈ t.cps.toList))) :=
  EN.of (pe_cmpR op_in_sign pe_sem pe_sem hm) fun H1 e1 => EV.ev ha H1 e1 _ fun H2 e2 => EV.ev hb H2 (e1.trans e2) _ fun H3 e3 => ⟨c, t, rfl, rfl, e2.trans e3, rfl⟩
/-- a <= b <= c of ints, as a test -/
theorem tn_chain {u : Int} (ha : EV X a σ H (.int n)) (hb : EV X b σ H (.int m)) (hc : EV X c σ H (.int u)) (hm : lastMarks [.LtE, .LtE] [b, c] = false := by rfl) : TN X (.Compare a [.LtE, .LtE] [b, c] pos) σ H (decide (n ≤ m) && decide (m ≤ u)) :=
  ⟨fun H1 e1 => semT_of (pt_chain op_le op_le pe_sem pe_sem pe_sem hm) (EV.ev ha H1 e1 _ fun H2 e2 => EV.ev hb H2 (e1.trans e2) _ fun H3 e3 => ⟨n, m, rfl, rfl, _, rfl, by
    by_cases h : n ≤ m
    · rw [decide_eq_true h]
      exact iteT (EV.ev hc H3 ((e1.trans e2).trans e3) _ fun H4 e4 => ⟨m, u, rfl, rfl, _, rfl, (e2.trans e3).trans e4, rfl⟩)
    · rw [decide_eq_false h]
      exact iteF ⟨_, rfl, e2.trans e3, rfl⟩⟩)⟩
/-- [.. for x in tuple] -/
theorem en_lcT (j : Nat) {elt l : Expr} {xn : Str} {scope : Scope} {own : List (Str × Nat)} (hc : X.calm = true) (hN : X.N.Nodup) (ok : BlkOk X.N X.env.scope scope own) (hl : EV X l σ H (.ref p)) (hx : SqT X.K H p xs) (hz : xs.length ≤ 100000)
    (hg : ∀ (s : Shared) (H : Hp) (C : Addr) (cl : List (Str × Addr)) (fp : List Addr), PG (X.blk s H scope (compEnvC scope cl C X.env) fp) (.Name xn px) (gName j))
    (hw : ∀ v, wipe ((wipe σ (own.map (·.2))).set j (some v)) (own.map (·.2)) = wipe σ (own.map (·.2)))
    (P : Nat → List V → Hp → Prop) (hP : ∀ n acc H1 H2, Tx H1 H2 → P n acc H1 → P n acc H2) (h0 : P 0 [] H)
    (hs : ∀ n x acc Hb (s : Shared) (H' : Hp) (C : Addr) (cl : List (Str × Addr)) (fp : List Addr), xs[n]? = some x → Ex H Hb → P n acc Hb → EN (X.blk s H' scope (compEnvC scope cl C X.env) fp) elt ((wipe σ (own.map (·.2))).set j (some x)) Hb fun v H2 => P (n + 1) (acc ++ [v]) H2)
    (hfo : ∀ x, foldedSetIterable l X.env x = pure x := by intro _; rfl) :
    EN X (.ListComp elt [⟨.Name xn px, l, [], 0⟩] scope pos) σ H fun v H2 => ∃ D acc, v = .ref D ∧ H D = none ∧ H2 D = some (.lst acc) ∧ acc.length ≤ xs.length ∧ P xs.length acc H2 :=
  EN.of (pe_lc hc hN (pi_tup pe_sem) ok hg (fun _ _ _ _ _ => pts_nil) (fun s H' C cl fp => pe_blk s H' C cl fp) hfo) fun H1 e1 => EV.ev hl H1 e1 _ fun H2 e2 => ⟨p, rfl, ⟨xs, ex_t (e1.trans e2) hx⟩, fun D hD =>
    lc_it (walk_tup (K := X.K) (a := p) (xs := xs)) (LcW H2 D P) ⟨[], Nat.le_refl _, hD, Ex.new hD, upd_same, hP _ _ _ _ (Tx.trans (e1.trans e2).tx (Ex.new hD).tx) h0⟩ (fun i H' _ p => let ⟨_, _, _, e, _, _⟩ := p; ex_t ((e1.trans e2).trans e) hx)
      (fun i x H' H'' hi ⟨acc, q1, q2, q3, q4, q5⟩ ⟨eh, hx⟩ => by
        subst eh
        exact ⟨hw _, iteT (B := LcW H2 D P (i + 1) H'') fun s H3 C cl fp => sem_mono (hs i x acc _ s H3 C cl fp hx ((e1.trans e2).trans q3) q5 _ (Ex.refl _)) fun v H4 ⟨e4, q6⟩ => LcW.push hP q1 q2 (q3.trans e4) (e4 D _ q4) (by omega) q6⟩)
      (fun H' ⟨acc, q1, q2, q3, q4, q5⟩ => ⟨e2.trans q3, D, acc, rfl, fresh_back (e1.trans e2) q2, q4, q1, q5⟩)⟩
/-- s <= t of texts, as a value -/
theorem ev_leS {s t : Str} (ha : EV X a σ H (.str s)) (hb : EV X b σ H (.str t)) : EV X (.Compare a [.LtE] [b] pos) σ H (.bl (!decide (t.cps.toList < s.cps.toList))) :=
  EN.of (pe_cmpR op_le_str pe_sem pe_sem (nomark _)) fun H1 e1 => EV.ev ha H1 e1 _ fun H2 e2 => EV.ev hb H2 (e1.trans e2) _ fun H3 e3 => ⟨s, t, rfl, rfl, e2.trans e3, rfl⟩
end
end Y
set_option Elab.async false
set_option linter.all false
set_option maxRecDepth 100000
set_option maxHeartbeats 4000000
/-! enumerate over a tuple -/
namespace Y
open PySem PySem.Spec PyProof.Rows L2 Evl
theorem meets_enumerate_newT (l : Addr) (items : Array Value) :
    Meets (Builtin.«enumerate.__new__» ⟨[.type "enumerate", .ref l], []⟩) (fun _ R s => s.heap.IsTuple l items ∧
      R (.ok (.ret (.ref (s.heap.push { cls := .type "tuple_iterator", data := .fields #[.ref l, .int 0 0] }).objs.size)))
        { s with heap := (s.heap.push { cls := .type "tuple_iterator", data := .fields #[.ref l, .int 0 0] }).push { cls := .type "enumerate", data := .fields #[.none, .bool false, .ref s.heap.objs.size, rawInt 0, .none, .none] } }) :=
  .of_wp fun prog w A R s h => by
    obtain ⟨hp, g, d, tk, os⟩ := s; obtain ⟨hL, h⟩ := h
    have hsub := sub_enumerate
    replace hL : Heap.IsTuple (Shared.heap ⟨hp, g, d, tk, os⟩) l items := hL
    wp_walk
    refine wpAny_stack_any fun st => wpAny_pure ?_
    split
    · rename_i c _ _ _ _ _
      cases (c == Value.type "enumerate")
      · wp_walk using wpAny_pyIter_tuple hL
        exact ⟨_, rfl, h⟩
      · wp_walk using wpAny_pyIter_tuple hL
        exact ⟨_, rfl, h⟩
    · wp_walk using wpAny_pyIter_tuple hL
      exact ⟨_, rfl, h⟩
section
variable {prog : Program} {w : World} {A : Around} {E : Value → Shared → Prop} {s : Shared}
theorem call_enumerate_tuple {l : Addr} {items : Array Value} {Q : Value → Shared → Prop} (hL : s.heap.IsTuple l items)
    (h : ∀ h', IsEnum h' (s.heap.objs.size + 1) s.heap.objs.size 0 .none → h'.IsTupleIter s.heap.objs.size l 0 → h'.objs.size = s.heap.objs.size + 2 →
      (∀ b o, s.heap.get? b = some o → h'.get? b = some o) → Q (.ref (s.heap.objs.size + 1)) { s with heap := h' }) :
    wpAny (model prog w) A (call (.type "enumerate") [.ref l]) Q E s := by
  refine callType_new F.called_enumerate (by decide) (F.typeCall_enumerate_1 _) (F.newCall_enumerate_1 _) (fun obj => F.args_object_init_2 obj _) F.entry_enumerate_new
    (meets_enumerate_newT l items) ⟨hL, ?_⟩
  have hz : (s.heap.push { cls := .type "tuple_iterator", data := .fields #[.ref l, .int 0 0] }).objs.size = s.heap.objs.size + 1 := Heap.size_push ..
  show _ ∧ _
  rw [hz]
  have he : IsEnum ((s.heap.push { cls := .type "tuple_iterator", data := .fields #[.ref l, .int 0 0] }).push
      { cls := .type "enumerate", data := .fields #[.none, .bool false, .ref s.heap.objs.size, rawInt 0, .none, .none] }) (s.heap.objs.size + 1) s.heap.objs.size 0 .none := by
    have := Heap.get?_push_size (s.heap.push { cls := .type "tuple_iterator", data := .fields #[.ref l, .int 0 0] })
      (o := { cls := .type "enumerate", data := .fields #[.none, .bool false, .ref s.heap.objs.size, rawInt 0, .none, .none] }) rfl
    rw [hz] at this; exact this
  refine ⟨⟨_, he, rfl⟩, h _ he ⟨_, Heap.get?_push_of_some _ (Heap.get?_push_size _ rfl), rfl, rfl⟩ (by rw [Heap.size_push, hz]) fun b o x => Heap.get?_push_of_some _ (Heap.get?_push_of_some _ x)⟩
end
def IteT (K : PySem.W.Frag) (a : Addr) : It :=
  ⟨fun i H => ∃ (xs : List V) (x : V), SqT K H a xs ∧ xs[i]? = some x, fun i H v H' => ∃ T x, v = .ref T ∧ H T = none ∧ H' = upd H T (.tup [.int (i : Nat), x]) ∧ ∀ xs, SqT K H a xs → xs[i]? = some x, fun i H => ∃ xs : List V, SqT K H a xs ∧ xs.length ≤ i⟩
theorem turn_enumT {P : Program} {w : World} {K : PySem.W.Frag} {elts : List Expr} {kk : Nat} {tpos : Pos} (a e it : Addr) :
    Turn P w K (.Tuple elts kk tpos) (IteT K a) [e, it] e (fun i h => (∃ old, IsEnum h e it ((i : Nat) : Int) old) ∧ h.IsTupleIter it a i ∧ e ≠ it ∧ a ≠ it ∧ e ≠ a) where
  mem := by simp
  obj := fun i h st b hb => by
    obtain ⟨⟨old, he⟩, ⟨o, ho, hc, hd⟩, _⟩ := st
    have e' : b = e ∨ b = it := by simpa using hb
    rcases e' with z | z
    · rw [z]; exact ⟨_, he, fun v q => nomatch q⟩
    · rw [z]; exact ⟨o, ho, fun v q => by rw [hd] at q; cases q⟩
  keep := fun i h h' st k => let ⟨⟨old, he⟩, hi, hne⟩ := st; ⟨⟨old, k e (by simp) _ he⟩, hi.at fun o q => k it (by simp) o q, hne⟩
  item := by
    intro X hP hw hK hc i pins s σ H E I hf st hg
    subst hP hw hK
    obtain ⟨⟨old, he⟩, hit, hne, hai, hea⟩ := st
    obtain ⟨xs, x, hq, hx⟩ := hg
    obtain ⟨its, rv, p, hz⟩ := I.tuple hq
    obtain ⟨u, hu, ru⟩ := rv.get hx
    have hel : e < s.heap.objs.size := Heap.lt_size he
    have hil : it < s.heap.objs.size := by obtain ⟨_, q, _⟩ := hit; exact Heap.lt_size q
    have hlt : i < its.toArray.size := by
      have := (List.getElem?_eq_some_iff.mp hu).1
      simpa using this
    refine wpAny_pyNext_enum_itemC (Draws.tuple (prog := X.prog) (w := X.w) (A := X.A.in1) (I.ok.hd hc) it a hai its.toArray) he ⟨hit, p⟩ hlt hne (by simp [hne, hea]) fun y h' tk hP ho hs' hT hsz hk => ?_
    have hy : y = u := by
      have h1 : its.toArray[i]? = some y := hP
      rw [show its.toArray[i]? = some u by simpa using hu] at h1
      exact (Option.some.inj h1).symm
    subst hy
    obtain ⟨hit', _⟩ := hs'
    refine ⟨_, rfl, wpAny_letOwnedTupleGo_enum (s := { s with heap := h', toks := tk + 1 }) ho fun h'' he' sb => ?_⟩
    have hT2 : h''.get? s.heap.objs.size = some { cls := .type "tuple", data := .seq #[.int i tk, y] } := (sb.2 _ (Nat.ne_of_gt hel)).trans hT
    have new : ObjOk X.prog X.w (upd H s.heap.objs.size (.tup [.int (i : Nat), x])) h'' s.heap.objs.size (.tup [.int (i : Nat), x]) :=
      ⟨by show 2 ≤ sizeLine; decide, [.int i tk, y], .cons ⟨_, rfl⟩ (.cons ru .nil), ⟨_, hT2, rfl, _, rfl⟩⟩
    have I1 : Inv X pins σ (upd H s.heap.objs.size (.tup [.int (i : Nat), x])) { s with heap := h'', toks := tk + 1 } :=
      I.turnedNew (ch := [e, it]) (fun b ob hb q => (sb.2 b (fun z => hb (by simp [z]))).trans (hk b ob (fun z => hb (by simp [z])) (fun z => hb (by simp [z])) q)) hf (Nat.le_refl _) new
    refine ⟨.ref s.heap.objs.size, _, I1, rfl, ⟨_, x, rfl, I.hok.fresh (Nat.le_refl _), rfl, fun ys hy => by rw [I.tuple_inj hy hq]; exact hx⟩, ⟨⟨y, ?_⟩, hit'.at fun o q => (sb.2 it (Ne.symm hne)).trans q, hne, hai, hea⟩, fun b hb => ?_⟩
    · have e1 : ((i + 1 : Nat) : Int) = (i : Int) + 1 := by omega
      rw [e1]; exact he'
    · have hb' : b < s.heap.objs.size := by
        have e' : b = e ∨ b = it := by simpa using hb
        rcases e' with z | z
        · rw [z]; exact hel
        · rw [z]; exact hil
      rw [upd_ne (Nat.ne_of_lt hb')]
      exact (hf b hb).1
  done := by
    intro X hP hw hK hc i pins s σ H E I hf st hg
    subst hP hw hK
    obtain ⟨⟨old, he⟩, hit, hne, hai, hea⟩ := st
    obtain ⟨xs, hq, hx⟩ := hg
    obtain ⟨its, rv, p, hz⟩ := I.tuple hq
    obtain ⟨f0, f1, f2, f3, f4, f5⟩ := hf it (by simp)
    have hl := rv.length
    have D : Draws X.prog X.w X.A.in1 it [it, a] i (fun _ _ => True) (fun j h => j = i ∧ h.IsTupleIter it a j ∧ h.IsTuple a its.toArray) :=
      { live := fun _ _ st => let ⟨o, ho, _⟩ := st.2.1; ⟨o, ho⟩
        frame := fun _ _ _ st hk => ⟨st.1, st.2.1.at fun o e => hk it (by simp) o e, st.2.2.at fun o e => hk a (by simp) o e⟩
        item := fun j s Q E hi st hQ => absurd st.1 (Nat.ne_of_lt hi)
        done := fun s Q E st hE => wpAny_nextOf_tuple_end (I.ok.hd hc) st.2.1 st.2.2 (by simp; omega) hE }
    exact wpAny_pyNext_enum_endD D he ⟨rfl, hit, p⟩ fun h' eb => ⟨rfl, I.turned (t' := s.toks) (fun b o hb q => eb b o hb q) f0 f1 f3 f4 f5⟩
  self := fun A i s Q E st h => let ⟨⟨_, he⟩, _⟩ := st; wpAny_pyIter_enum he h
def iEnumT (K : PySem.W.Frag) (ta : TA) : TI := fun σ H R => ta σ H fun vs H1 => ∃ a xs, vs = [.ref a] ∧ SqT K H1 a xs ∧ R (IteT K a) H1
theorem pi_enumT {X : Cx} {e : Expr} {ta : TA} {p pos tpos : Pos} {elts : List Expr} {kk : Nat} (hg : Gl X "enumerate") (hm : X.mg "enumerate" = none) (ha : PA X [e] ta) (hs : starEach [e] X.env = [(false, eval e X.env)] := by rfl) :
    PI X (.Tuple elts kk tpos) (.Call (.Name "enumerate" p) [e] [] pos) (iEnumT X.K ta) := by
  refine ⟨fun pins s σ H R I h => ?_⟩
  refine Call_ (ld_blt I hg hm boot_enumerate (PyProof.Rows.callWith_type1 (thn (ha.run pos pins s σ H _ I h) fun us s1 ⟨vs, H1, I1, r1, q1⟩ => ?_) hs rfl))
  obtain ⟨a, xs, ex, hq, q⟩ := q1
  subst ex
  cases r1 with
  | cons r rr =>
    cases rr
    cases r
    obtain ⟨its, rv, p', hz⟩ := I1.tuple hq
    obtain ⟨oa, hoa, _⟩ := id p'
    have hal : a < s1.heap.objs.size := Heap.lt_size hoa
    refine call_enumerate_tuple (show s1.heap.IsTuple a its.toArray from p') fun h' he hit hsz hk => wpAny_pyIter_enum he ?_
    have I2 : Inv X pins σ H1 { s1 with heap := h' } := I1.kept (t' := s1.toks) hk
    refine ⟨s1.heap.objs.size + 1, [s1.heap.objs.size + 1, s1.heap.objs.size], _, _, H1, rfl, I2, turn_enumT a (s1.heap.objs.size + 1) s1.heap.objs.size, ⟨⟨.none, he⟩, hit, Nat.succ_ne_self _, Nat.ne_of_lt hal, Nat.ne_of_gt (Nat.lt_succ_of_lt hal)⟩, fun b hb => ?_, q⟩
    have e' : b = s1.heap.objs.size + 1 ∨ b = s1.heap.objs.size := by simpa using hb
    have hle : s1.heap.objs.size ≤ b := by
      rcases e' with z | z
      · rw [z]; exact Nat.le_add_right _ _
      · rw [z]; exact Nat.le_refl _
    exact I1.fpOk hle (I1.hok.fresh hle)
theorem walk_enumT {K : PySem.W.Frag} {a : Addr} {xs : List V} : Walk (IteT K a) xs.length (fun H => SqT K H a xs) (YPair (fun i => some (.int (i : Nat))) (fun i => xs[i]?)) := by
  refine ⟨fun i _ hi q => ⟨xs, xs[i], q, List.getElem?_eq_getElem hi⟩, fun _ q => ⟨xs, q, Nat.le_refl _⟩, fun i H v H' _ q y => ?_⟩
  obtain ⟨T, x, h1, h2, h3, h4⟩ := y
  exact ⟨T, _, x, h1, h2, h3, rfl, h4 xs q⟩
end Y
set_option Elab.async false
set_option linter.all false
set_option maxRecDepth 100000
set_option maxHeartbeats 4000000
/-! own classes; calls by keyword; enumerate over a tuple; list(d), list + list; comprehensions over pairs. -/
namespace Y
open PySem PySem.Spec PyProof.Rows L2 Evl
section
variable {P : Program} {w : World} {K : PySem.W.Frag} {mg : Str → Option Value} {base : Heap} {x q m nm : Str} {st : Stmt} {N ps : List Str} {k lv : Nat} {sp sp' : Sp} {C : Addr}
theorem fun_own {f : Addr} {fd : FuncData} (F : Fun K x q st f fd) (S : FnScope N ps (defScope st)) (len : ∀ vs H Q E, sp vs H Q E → vs.length = ps.length)
    (hb : ∀ (kV doc pm : Value) (an : Option Addr) (cdv ct : Value) (us : List Value), us.length = ps.length → bindArgs (PySem.W.fnOf x q (defArgs st) (defBody st) (defScope st) .none kV doc pm an cdv ct) ⟨us, []⟩ = pure (ps.zip us))
    (hbody : ∀ (X : Cx) (H : Hp) (vs : List V) (Q : VK) (E : XK), (∃ (f : Addr) (cdv : Value) (A : Around) (outer : List Env) (s : Shared), X = (cxOf CX0 P w K mg base N q (defScope st) f cdv A outer s H E).nox) → Room k X.A → sp vs H Q E → RX X (defBody st) { nx := fun _ H' => Q .non H', rt := Q } (start N vs) H) :
    FnOk P w K mg base CX0 (k + 1) f fd ps sp ∧ Binds K fd ps [] := by
  refine ⟨F.ok S len fun cdv A outer s H vs Q E hr h => ⟨_, pss_sem, ?_⟩, F.binds hb⟩
  exact (hbody _ H vs Q E ⟨f, cdv, A, outer, s, rfl⟩ hr h) H (Ex.refl H)
/-- a method's text, where its class has it -/
structure DefM (K : PySem.W.Frag) (C : Addr) (m q : Str) (st : Stmt) : Prop where
  ex : ∃ f fd, Fun K m q st f fd ∧ Meth K C m f
/-- a class with its __init__ -/
structure DefI (K : PySem.W.Frag) (mg : Str → Option Value) (nm q : Str) (C : Addr) (st : Stmt) : Prop where
  ex : ∃ f fd, Fun K "__init__" q st f fd ∧ Mk K C f ∧ mg nm = some (.ref C)
structure OwnM (P : Program) (w : World) (K : PySem.W.Frag) (mg : Str → Option Value) (base : Heap) (C : Addr) (m : Str) (ps : List Str) (lv : Nat) (sp : Sp) : Prop where
  ex : ∃ f fd, FnOk P w K mg base CX0 lv f fd ps sp ∧ Meth K C m f ∧ Binds K fd ps []
structure OwnI (P : Program) (w : World) (K : PySem.W.Frag) (mg : Str → Option Value) (base : Heap) (nm : Str) (C : Addr) (ps : List Str) (lv : Nat) (sp : Sp) : Prop where
  ex : ∃ f fd, FnOk P w K mg base CX0 lv f fd ps sp ∧ Mk K C f ∧ Binds K fd ps [] ∧ mg nm = some (.ref C)
theorem DefM.own (D : DefM K C m q st) (S : FnScope N ps (defScope st)) (len : ∀ vs H Q E, sp vs H Q E → vs.length = ps.length)
    (hb : ∀ (kV doc pm : Value) (an : Option Addr) (cdv ct : Value) (us : List Value), us.length = ps.length → bindArgs (PySem.W.fnOf m q (defArgs st) (defBody st) (defScope st) .none kV doc pm an cdv ct) ⟨us, []⟩ = pure (ps.zip us))
    (hbody : ∀ (X : Cx) (H : Hp) (vs : List V) (Q : VK) (E : XK), (∃ (f : Addr) (cdv : Value) (A : Around) (outer : List Env) (s : Shared), X = (cxOf CX0 P w K mg base N q (defScope st) f cdv A outer s H E).nox) → Room k X.A → sp vs H Q E → RX X (defBody st) { nx := fun _ H' => Q .non H', rt := Q } (start N vs) H) : OwnM P w K mg base C m ps (k + 1) sp := by
  obtain ⟨f, fd, F, hm⟩ := D.ex
  obtain ⟨h1, h2⟩ := fun_own F S len hb hbody
  exact ⟨f, fd, h1, hm, h2⟩
theorem DefI.own (D : DefI K mg nm q C st) (S : FnScope N ps (defScope st)) (len : ∀ vs H Q E, sp vs H Q E → vs.length = ps.length)
    (hb : ∀ (kV doc pm : Value) (an : Option Addr) (cdv ct : Value) (us : List Value), us.length = ps.length → bindArgs (PySem.W.fnOf "__init__" q (defArgs st) (defBody st) (defScope st) .none kV doc pm an cdv ct) ⟨us, []⟩ = pure (ps.zip us))
    (hbody : ∀ (X : Cx) (H : Hp) (vs : List V) (Q : VK) (E : XK), (∃ (f : Addr) (cdv : Value) (A : Around) (outer : List Env) (s : Shared), X = (cxOf CX0 P w K mg base N q (defScope st) f cdv A outer s H E).nox) → Room k X.A → sp vs H Q E → RX X (defBody st) { nx := fun _ H' => Q .non H', rt := Q } (start N vs) H) : OwnI P w K mg base nm C ps (k + 1) sp := by
  obtain ⟨f, fd, F, hm, hg⟩ := D.ex
  obtain ⟨h1, h2⟩ := fun_own F S len hb hbody
  exact ⟨f, fd, h1, hm, h2, hg⟩
/-! ### calls whose arguments all stand by their names, the last one first -/
theorem Vals.app : ∀ {vs : List V} {us : List Value} {vs' : List V} {us' : List Value}, Vals vs us → Vals vs' us' → Vals (vs ++ vs') (us ++ us')
  | _, _, _, _, .nil, h => h
  | _, _, _, _, .cons r t, h => .cons r (Vals.app t h)
theorem Vals.rev : ∀ {vs : List V} {us : List Value}, Vals vs us → Vals vs.reverse us.reverse
  | _, _, .nil => .nil
  | _, _, .cons r t => by
    rw [List.reverse_cons, List.reverse_cons]
    exact Vals.app (Vals.rev t) (.cons r .nil)
structure OwnR (P : Program) (w : World) (K : PySem.W.Frag) (mg : Str → Option Value) (base : Heap) (nm : Str) (ps : List Str) (lv : Nat) (sp : Sp) : Prop where
  ex : ∃ g fd, FnOk P w K mg base CX0 lv g fd ps sp ∧ PySem.W.keepIn K (.ref g) = true ∧ (∀ (s : Shared) (ws : List Value), ws.length = ps.length → BindsTo s fd ⟨[], ps.reverse.zip ws⟩ (ps.zip ws.reverse)) ∧ mg nm = some (.ref g)
theorem Def.ownR (D : Def K mg nm st) (S : FnScope N ps (defScope st)) (len : ∀ vs H Q E, sp vs H Q E → vs.length = ps.length)
    (hb : ∀ (kV doc pm : Value) (an : Option Addr) (cdv ct : Value) (us : List Value), us.length = ps.length → bindArgs (PySem.W.fnOf nm nm (defArgs st) (defBody st) (defScope st) .none kV doc pm an cdv ct) ⟨us, []⟩ = pure (ps.zip us))
    (hbR : ∀ (kV doc pm : Value) (an : Option Addr) (cdv ct : Value) (us : List Value), us.length = ps.length → bindArgs (PySem.W.fnOf nm nm (defArgs st) (defBody st) (defScope st) .none kV doc pm an cdv ct) ⟨[], ps.reverse.zip us⟩ = pure (ps.zip us.reverse))
    (hbody : ∀ (X : Cx) (H : Hp) (vs : List V) (Q : VK) (E : XK), (∃ (f : Addr) (cdv : Value) (A : Around) (outer : List Env) (s : Shared), X = (cxOf CX0 P w K mg base N nm (defScope st) f cdv A outer s H E).nox) → Room k X.A → sp vs H Q E → RX X (defBody st) { nx := fun _ H' => Q .non H', rt := Q } (start N vs) H) :
    Own P w K mg base nm ps (k + 1) sp ∧ OwnR P w K mg base nm ps (k + 1) sp := by
  obtain ⟨f, fd, F, m⟩ := D.ex
  obtain ⟨h1, h2⟩ := fun_own F S len hb hbody
  refine ⟨⟨f, fd, h1, F.kp, h2, m⟩, ⟨f, fd, h1, F.kp, ?_, m⟩⟩
  obtain ⟨oc, od, kV, doc, pm, an, cdv, ct, osl, rfl, lk, hcd⟩ := F.ex
  exact fun s ws hl => .of_eq (hbR kV doc pm an cdv ct ws hl)
end
section
variable {X : Cx} {σ : L2.St} {H H' : Hp} {v w x y z : V} {e a b c f o : Expr} {i j k : Nat} {K : PySem.W.Frag} {n : Int} {pos pos' apos cpos p1 p2 p3 q1 q2 px py pt : Pos} {D : Ends} {rest : List Stmt} {R : V → Hp → Prop} {l p r C dx : Addr} {xs ys : List V} {φ ψ : V → Hp → Prop} {nm m : Str} {ps : List Str} {lv : Nat} {sp : Sp} {es : List Expr} {us : List V} {fs : List (Str × V)}
theorem em_make (O : OwnI X.prog X.w X.K X.mg X.base nm C ps lv sp) (hr : Room (lv + 1) X.A) (hg : Gl X nm) (h : AM X (e :: es) σ H fun vs Hb => ∀ x dx, Hb x = none → Hb dx = none → dx ≠ x → ∀ H2, Ex (upd (upd Hb dx (.own x)) x (.ins C dx [])) H2 → sp (.ref x :: vs) H2 (fun v H3 => v = .non ∧ ∃ Hc, Ex Hc H3 ∧ R (.ref x) Hc) (fun _ _ _ => False))
    (hdb : (nm == ("__debug__" : Str)) = false := by decide) (he : starEach (e :: es) X.env = (false, eval e X.env) :: starEach es X.env := by rfl) (hpl : (backTo q2 (starEach es X.env)).any (·.1) = false := by rfl) :
    EM X (.Call (.Name nm q1) (e :: es) [] q2) σ H R := by
  obtain ⟨g, fd, F, M, hb, hm⟩ := O.ex
  exact EM.of (pe_make M F hr hg hm hb .nil pass0 pa_sem hdb he hpl) fun H1 e1 => semA_mono (h H1 e1) fun vs H2 ⟨Hb, e2, k⟩ x dx hx hd hn => by
    rw [List.append_nil]
    exact k x dx (fresh_back e2 hx) (fresh_back e2 hd) hn _ (ex_upd (ex_upd e2))
theorem em_meth {pl : Sem Bool} (O : OwnM X.prog X.w X.K X.mg X.base C m ps lv sp) (c : Cls X.K C) (hr : Room lv X.A) (ho : EV X o σ H (.ref p)) (hp : H p = some (.ins C dx fs)) (hm : fs.lookup m = none) (h : AM X (e :: es) σ H fun vs Hb => ∀ H2, Ex Hb H2 → sp (.ref p :: vs) H2 (fun v H3 => ∃ Hc, Ex Hc H3 ∧ R v Hc) (fun _ _ _ => False))
    (hst : starEach (e :: es) X.env = (false, eval e X.env) :: starEach es X.env := by rfl) (hpl : (backTo pos (starEach es X.env)).any (·.1) = false := by rfl)
    (ht : eval (.Call (.Attribute o m apos) (e :: es) [] pos) X.env = (do
      let ov ← eval o X.env
      standAt apos.atName
      let (f, first) ← holding [ov] (getMethod ov m pl)
      callWith pos f first (backTo pos (starEach (e :: es) X.env)) (backToKw pos (keywordEach [] X.env))) := by rfl) : EM X (.Call (.Attribute o m apos) (e :: es) [] pos) σ H R := by
  obtain ⟨g, fd, F, M, hb⟩ := O.ex
  exact EM.of (pe_meth pe_sem c M F hr hb .nil pass0 pa_sem hst hpl ht) fun H1 e1 => EV.ev ho H1 e1 _ fun H2 e2 => ⟨p, dx, fs, rfl, (e1.trans e2) _ _ hp, hm, semA_mono (h H2 (e1.trans e2)) fun vs H3 ⟨Hb, e3, k⟩ => by
    rw [List.append_nil]
    exact k H3 e3⟩
/-- .. that leaves what is known -/
theorem en_meth {pl : Sem Bool} (O : OwnM X.prog X.w X.K X.mg X.base C m ps lv sp) (c : Cls X.K C) (hr : Room lv X.A) (ho : EV X o σ H (.ref p)) (hp : H p = some (.ins C dx fs)) (hm : fs.lookup m = none) (ha : AV X (e :: es) σ H us)
    (h : ∀ H1, Ex H H1 → ∀ Q : VK, (∀ v H2, Ex H1 H2 → φ v H2 → Q v H2) → sp (.ref p :: us) H1 Q (fun _ _ _ => False))
    (hst : starEach (e :: es) X.env = (false, eval e X.env) :: starEach es X.env := by rfl) (hpl : (backTo pos (starEach es X.env)).any (·.1) = false := by rfl)
    (ht : eval (.Call (.Attribute o m apos) (e :: es) [] pos) X.env = (do
      let ov ← eval o X.env
      standAt apos.atName
      let (f, first) ← holding [ov] (getMethod ov m pl)
      callWith pos f first (backTo pos (starEach (e :: es) X.env)) (backToKw pos (keywordEach [] X.env))) := by rfl) : EN X (.Call (.Attribute o m apos) (e :: es) [] pos) σ H φ := by
  obtain ⟨g, fd, F, M, hb⟩ := O.ex
  exact EN.of (pe_meth pe_sem c M F hr hb .nil pass0 pa_sem hst hpl ht) fun H1 e1 => EV.ev ho H1 e1 _ fun H2 e2 => ⟨p, dx, fs, rfl, (e1.trans e2) _ _ hp, hm, semA_mono (ha H2 (e1.trans e2)) fun vs H3 ⟨e3, k⟩ => by
    subst k
    rw [List.append_nil]
    exact h H3 ((e1.trans e2).trans e3) _ fun v H4 e4 q => ⟨(e2.trans e3).trans e4, q⟩⟩
/-! ### keywords -/
variable {kws : List Keyword} {kn : Option Str} {kp : Pos} {zs : List V}
def semK (X : Cx) (kws : List Keyword) : TA := fun σ H Q => ∀ (pos : Pos) (pins : List (Addr × Obj)) (s : Shared), Inv X pins σ H s → wpAny (model X.prog X.w) X.A (evalAll ((backToKw pos (keywordEach kws X.env)).map (·.2))) (AP X pins σ Q) X.xe s
theorem pk_sem : PK X kws (semK X kws) := ⟨fun pos pins s _ _ _ I h => h pos pins s I⟩
theorem semK_of {t : TA} (h : PK X kws t) {Q : List V → Hp → Prop} (q : t σ H Q) : semK X kws σ H Q := fun pos pins s I => h.run pos pins s σ H Q I q
theorem semK_mono {Q Q' : List V → Hp → Prop} (h : semK X kws σ H Q) (k : ∀ v H', Q v H' → Q' v H') : semK X kws σ H Q' := fun pos pins s I => thn (h pos pins s I) fun _ _ ⟨v, H', I', r, q⟩ => ⟨v, H', I', r, k v H' q⟩
structure KV (X : Cx) (kws : List Keyword) (σ : L2.St) (H : Hp) (vs : List V)  : Prop where
  run : ∀ H1, Ex H H1 → semK X kws σ H1 fun us H2 => Ex H1 H2 ∧ us = vs
theorem KV.nil : KV X [] σ H [] := ⟨fun H1 e1 => semK_of pk_nil ⟨Ex.refl H1, rfl⟩⟩
theorem KV.cons (h : EV X e σ H v) (r : KV X kws σ H zs) : KV X (⟨kn, e, kp⟩ :: kws) σ H (v :: zs) := ⟨fun H1 e1 => semK_of (pk_cons pe_sem pk_sem) (EV.ev h H1 e1 _ fun H2 e2 => semK_mono (r.run H2 (e1.trans e2)) fun us H3 ⟨e3, q⟩ => ⟨e2.trans e3, by rw [q]⟩)⟩
theorem en_ownR (O : OwnR X.prog X.w X.K X.mg X.base nm ps lv sp) (hr : Room lv X.A) (hg : Gl X nm) (ha : KV X kws σ H zs) (h : ∀ H1, Ex H H1 → ∀ Q : VK, (∀ v H2, Ex H1 H2 → φ v H2 → Q v H2) → sp zs.reverse H1 Q (fun _ _ _ => False))
    (hall : (backToKw q2 (keywordEach kws X.env)).all (·.1.isSome) = true := by rfl) (hks : (backToKw q2 (keywordEach kws X.env)).filterMap (·.1) = ps.reverse := by rfl) (hdb : (nm == ("__debug__" : Str)) = false := by decide)
    (hpl : ((backTo q2 (starEach [] X.env)).any (·.1) || (backToKw q2 (keywordEach kws X.env)).any (·.1.isNone)) = false := by rfl) :
    EN X (.Call (.Name nm q1) [] kws q2) σ H φ := by
  obtain ⟨g, fd, F, hk, hb, hm⟩ := O.ex
  refine ⟨fun H1 e1 pins s I => ?_⟩
  refine wpAny_Call_Name_kw (ld_glob I hg hm ?_ hdb)
  refine PySem.W.callWith_KW0 (h₀ := X.base) I.ok.mod.kin hk hall ?_ hpl
  refine thn (ha.run H1 e1 q2 pins s I) fun ws s2 ⟨zs', H2, I2, rz, e2, ez⟩ => ⟨I2.kIn, ?_⟩
  subst ez
  rw [hks]
  have hsp := h H2 (e1.trans e2) (fun v H3 => Ex H1 H3 ∧ φ v H3) (fun v H3 e3 q => ⟨e2.trans e3, q⟩)
  have hl : ws.length = ps.length := by
    have := F.len _ _ _ _ hsp
    rw [List.length_reverse, rz.length] at this; exact this
  refine wpAny_call (codeAny_mono (F.run X.A X.stack s2 H2 ⟨[], ps.reverse.zip ws⟩ ws.reverse zs'.reverse _ _ hr I2.env0 (hb s2 ws hl) (Vals.rev rz) hsp) fun r s' hq => ?_)
  cases r with
  | error e => exact False.elim (by obtain ⟨_, _, _, _, _, _, _, _, h⟩ := hq)
  | ok fl =>
    cases fl with
    | ret u => exact I2.after hq
    | next => exact False.elim hq
    | brk => exact False.elim hq
    | cont => exact False.elim hq
end
end Y
set_option Elab.async false
set_option linter.all false
set_option maxRecDepth 100000
set_option maxHeartbeats 4000000
namespace Y
open PySem PySem.Spec PyProof.Rows L2 Evl
section
variable {X : Cx} {σ : L2.St} {H H' : Hp} {v w x y z : V} {e a b c f o : Expr} {i j k : Nat} {K : PySem.W.Frag} {n : Int} {pos pos' apos cpos p1 p2 p3 q1 q2 px py pt : Pos} {D : Ends} {rest : List Stmt} {R : V → Hp → Prop} {l p r C dx : Addr} {xs ys : List V} {φ ψ : V → Hp → Prop} {nm m : Str}
/-- a list of which α is true -/
def LP (α : List V → Hp → Prop) : V → Hp → Prop := fun v H => ∃ p xs, v = .ref p ∧ H p = some (.lst xs) ∧ α xs H
theorem EN.lp {α : List V → Hp → Prop} (h : EN X e σ H (NL H xs)) (k : ∀ H2, Ex H H2 → α xs H2) : EN X e σ H (LP α) := h.weak fun v H2 e2 ⟨p, ev, _, hp⟩ => ⟨p, xs, ev, hp, k H2 e2⟩
/-- list + list -/
theorem en_cat {α β γ : List V → Hp → Prop} (ha : EN X a σ H (LP α)) (hb : EN X b σ H (LP β)) (k : ∀ xs ys H2 H3, Ex H H2 → α xs H2 → Ex H2 H3 → β ys H3 → xs.length + ys.length ≤ 100000 ∧ ∀ H4, Ex H3 H4 → γ (xs ++ ys) H4) : EN X (.BinOp a .Add b pos) σ H (LP γ) :=
  EN.of (pe_op op_cat pe_sem pe_sem) fun H1 e1 => sem_mono (ha H1 e1) fun v H2 ⟨e2, p, xs, ev, hp, qa⟩ => sem_mono (hb H2 (e1.trans e2)) fun v' H3 ⟨e3, p', ys, ev', hp', qb⟩ => by
    obtain ⟨hl, kk⟩ := k xs ys H2 H3 (e1.trans e2) qa e3 qb
    exact ⟨p, p', xs, ys, ev, ev', e3 _ _ hp, hp', sz_of hl, fun q hq => ⟨(e2.trans e3).trans (Ex.new hq), q, xs ++ ys, rfl, upd_same, kk _ (Ex.new hq)⟩⟩
/-- list(d) -/
theorem en_listD {kvs : List (Key × V)} (hc : X.calm = true) (hg : Gl X "list") (hm : X.mg "list" = none) (ha : EV X a σ H (.ref p)) (h : H p = some (.dK kvs)) (hst : starEach [a] X.env = (false, eval a X.env) :: starEach [] X.env := by rfl) : EN X (.Call (.Name "list" q1) [a] [] q2) σ H (NL H (kvs.map fun kv => kV kv.1)) :=
  EN.of (pe_callTy (call_list_dK hc) hg hm (by decide +kernel) (pa_cons pe_sem pa_nil hst) (he := hst)) fun H1 e1 => EV.ev ha H1 e1 _ fun H2 e2 => ⟨p, kvs, rfl, (e1.trans e2) _ _ h, fun q hq => ⟨e2.trans (Ex.new hq), q, rfl, fresh_back (e1.trans e2) hq, upd_same⟩⟩
theorem en_listDN {α : List V → Hp → Prop} (hc : X.calm = true) (hg : Gl X "list") (hm : X.mg "list" = none) (ha : EN X a σ H fun v H2 => ∃ (p : Addr) (kvs : List (Key × V)), v = .ref p ∧ H2 p = some (.dK kvs) ∧ ∀ H3, Ex H2 H3 → α (kvs.map fun kv => kV kv.1) H3) (hst : starEach [a] X.env = (false, eval a X.env) :: starEach [] X.env := by rfl) : EN X (.Call (.Name "list" q1) [a] [] q2) σ H (LP α) :=
  EN.of (pe_callTy (call_list_dK hc) hg hm (by decide +kernel) (pa_cons pe_sem pa_nil hst) (he := hst)) fun H1 e1 => sem_mono (ha H1 e1) fun v H2 ⟨e2, p, kvs, ev, h, k⟩ => ⟨p, kvs, by rw [ev], h, fun q hq => ⟨e2.trans (Ex.new hq), q, _, rfl, upd_same, k _ (Ex.new hq)⟩⟩
/-- list(tuple) -/
theorem en_listT (hg : Gl X "list") (hm : X.mg "list" = none) (ha : EN X a σ H fun v H2 => ∃ r, v = .ref r ∧ (SqL X.K H2 r xs ∨ SqT X.K H2 r xs)) (hst : starEach [a] X.env = (false, eval a X.env) :: starEach [] X.env := by rfl) : EN X (.Call (.Name "list" q1) [a] [] q2) σ H (NL H xs) :=
  EN.of (pe_callTy call_list_of hg hm (by decide +kernel) (pa_cons pe_sem pa_nil hst) (he := hst)) fun H1 e1 => sem_mono (ha H1 e1) fun v H2 ⟨e2, r, ev, h⟩ => ⟨r, xs, by rw [ev], h, fun q hq => ⟨e2.trans (Ex.new hq), q, rfl, fresh_back (e1.trans e2) hq, upd_same⟩⟩
/-- a slice of a list with α -/
theorem en_slLP {α β : List V → Hp → Prop} {lo hi : Option Expr} {lv hv : Option Int} (h : EN X e σ H (LP α)) (h1 : OV X lo σ H lv) (h2 : OV X hi σ H hv) (k : ∀ xs H2 H3, Ex H H2 → α xs H2 → Ex H2 H3 → β (cutV xs lv hv) H3) : EN X (.Subscript e (.Slice lo hi none p2) pos) σ H (LP β) := let ⟨_, q1, r1⟩ := h1; let ⟨_, q2, r2⟩ := h2; EN.of (pe_slice sl_list pe_sem q1 q2) fun H1 e1 => sem_mono (h H1 e1) fun v H2 ⟨e2, r, xs, er, hr, qa⟩ =>
  r1 H2 (e1.trans e2) _ fun H3 e3 => r2 H3 ((e1.trans e2).trans e3) _ fun H4 e4 => ⟨r, xs, er, sq_of ((e3.trans e4) _ _ hr), fun q hq => ⟨((e2.trans e3).trans e4).trans (Ex.new hq), q, _, rfl, upd_same, k xs H2 _ (e1.trans e2) qa ((e3.trans e4).trans (Ex.new hq))⟩⟩
/-- for i, x in enumerate(tuple) -/
theorem rx_forET {kt : Nat} {nx ny : Str} (i j : Nat) {l : Expr} {body : List Stmt} {r : Addr} {xs : List V} (hp : PassesOwn (model X.prog X.w) X.A X.env X.xe) (hc : X.calm = true) (hg : Gl X "enumerate") (hm : X.mg "enumerate" = none) (hl : EV X l σ H (.ref r)) (hx : SqT X.K H r xs) (P : Nat → L2.St → Hp → Prop) (h0 : P 0 σ H)
    (hk : ∀ n σ' Hb, n ≤ xs.length → P n σ' Hb → SqT X.K Hb r xs) (hs : ∀ n x σ' Hb, xs[n]? = some x → P n σ' Hb → RX X body { D with nx := UpS (P (n + 1)), ct := UpS (P (n + 1)), bk := semS X rest D } ((σ'.set i (some (.int (n : Int)))).set j (some x)) Hb)
    (hd : ∀ σ' Hb, P xs.length σ' Hb → RX X rest D σ' Hb) (hN : X.N.Nodup) (hi : X.N[i]? = some nx := by rfl) (hj : X.N[j]? = some ny := by rfl) (hlo : Loc X.env.scope nx := by first | exact Or.inl rfl | exact Or.inr rfl) (hlo2 : Loc X.env.scope ny := by first | exact Or.inl rfl | exact Or.inr rfl)
    (hf : X.fn nx = true ∨ X.env.scope.names.lookup nx = some .local := by first | exact .inl rfl | exact .inr rfl) (hf2 : X.fn ny = true ∨ X.env.scope.names.lookup ny = some .local := by first | exact .inl rfl | exact .inr rfl)
    (hst : starEach [l] X.env = (false, eval l X.env) :: starEach [] X.env := by rfl) :
    RX X (.For (.Tuple [.Name nx px, .Name ny py] kt pt) (.Call (.Name "enumerate" q1) [l] [] q2) body [] pos :: rest) D σ H :=
  rx_of (ps_for hp hc (pi_enumT hg hm (pa_cons pe_sem pa_nil hst) hst) (pg_tup hc (pgs_cons (pg_name hN hi hlo hf) (pgs_cons (pg_name hN hj hlo2 hf2) pgs_nil))) pss_sem) fun H1 e1 => EV.ev hl H1 e1 _ fun H2 e2 => ⟨r, xs, rfl, ex_t (e1.trans e2) hx,
    for_it (D := { D with nx := semS X rest D }) (walk_enumT (K := X.K) (a := r) (xs := xs)) (fun n => UpS (P n)) ⟨H, e1.trans e2, h0⟩ (fun n σ' H' hn ⟨Hb, e, p⟩ => ex_t e (hk n σ' Hb hn p))
      (fun n v σ' H' H'' hn ⟨Hb, e, p⟩ ⟨T, x, y, ev, hT, eh, fx, fy⟩ => by
        subst ev eh
        cases fx
        exact ⟨T, _, rfl, .inl (.inl upd_same), rfl, _, _, rfl, _, _, rfl, rfl, hs n y σ' Hb fy p _ (e.trans (Ex.new hT))⟩) fun σ' H' ⟨Hb, e, p⟩ => hd σ' Hb p H' e⟩
/-- for x in a tuple made on the way -/
theorem rx_forTN (i : Nat) {l : Expr} {body : List Stmt} (hp : PassesOwn (model X.prog X.w) X.A X.env X.xe) (hc : X.calm = true) (hl : EN X l σ H φ)
    (k : ∀ v H2, Ex H H2 → φ v H2 → ∃ (r : Addr) (xs : List V) (P : Nat → L2.St → Hp → Prop), v = .ref r ∧ SqT X.K H2 r xs ∧ P 0 σ H2 ∧ (∀ n σ' Hb, n ≤ xs.length → P n σ' Hb → SqT X.K Hb r xs) ∧
      (∀ n x σ' Hb, xs[n]? = some x → P n σ' Hb → RX X body { D with nx := UpS (P (n + 1)), ct := UpS (P (n + 1)), bk := semS X rest D } (σ'.set i (some x)) Hb) ∧ ∀ σ' Hb, P xs.length σ' Hb → RX X rest D σ' Hb)
    (hN : X.N.Nodup) (hi : X.N[i]? = some nm := by rfl) (hlo : Loc X.env.scope nm := by first | exact Or.inl rfl | exact Or.inr rfl)
    (hf : X.fn nm = true ∨ X.env.scope.names.lookup nm = some .local := by first | exact .inl rfl | exact .inr rfl) (hfo : ∀ x, foldedSetIterable l X.env x = pure x := by intro _; rfl) : RX X (.For (.Name nm pos') l body [] pos :: rest) D σ H :=
  rx_of (ps_for hp hc (pi_tup pe_sem) (pg_name hN hi hlo hf) pss_sem hfo) fun H1 e1 => sem_mono (hl H1 e1) fun v H2 ⟨e2, q⟩ => by
    obtain ⟨r, xs, P, rfl, hx, h0, hk, hs, hd⟩ := k v H2 (e1.trans e2) q
    exact ⟨r, rfl, ⟨xs, hx⟩, for_tup (D := { D with nx := semS X rest D }) (fun n => UpS (P n)) ⟨H2, Ex.refl _, h0⟩ (fun n σ' H' hn ⟨Hb, e, p⟩ => ex_t e (hk n σ' Hb hn p)) (fun n x σ' H' hx ⟨Hb, e, p⟩ => hs n x σ' Hb hx p H' e) fun σ' H' ⟨Hb, e, p⟩ => hd σ' Hb p H' e⟩
/-! ### comprehensions -/
section
variable {elt : Expr} {xn yn : Str} {scope : Scope} {own : List (Str × Nat)} {kt : Nat}
/-- [.. for x in a tuple made on the way] -/
theorem en_lcTN (j : Nat) {l : Expr} (hc : X.calm = true) (hN : X.N.Nodup) (ok : BlkOk X.N X.env.scope scope own) (hl : EN X l σ H fun v H2 => ∃ r, v = .ref r ∧ SqT X.K H2 r xs) (hz : xs.length ≤ 100000)
    (hg : ∀ (s : Shared) (H : Hp) (C : Addr) (cl : List (Str × Addr)) (fp : List Addr), PG (X.blk s H scope (compEnvC scope cl C X.env) fp) (.Name xn px) (gName j))
    (hw : ∀ v, wipe ((wipe σ (own.map (·.2))).set j (some v)) (own.map (·.2)) = wipe σ (own.map (·.2)))
    (P : Nat → List V → Hp → Prop) (hP : ∀ n acc H1 H2, Tx H1 H2 → P n acc H1 → P n acc H2) (h0 : P 0 [] H)
    (hs : ∀ n x acc Hb (s : Shared) (H' : Hp) (C : Addr) (cl : List (Str × Addr)) (fp : List Addr), xs[n]? = some x → Ex H Hb → P n acc Hb → EN (X.blk s H' scope (compEnvC scope cl C X.env) fp) elt ((wipe σ (own.map (·.2))).set j (some x)) Hb fun v H2 => P (n + 1) (acc ++ [v]) H2)
    (hfo : ∀ x, foldedSetIterable l X.env x = pure x := by intro _; rfl) :
    EN X (.ListComp elt [⟨.Name xn px, l, [], 0⟩] scope pos) σ H fun v H2 => ∃ D acc, v = .ref D ∧ H D = none ∧ H2 D = some (.lst acc) ∧ acc.length ≤ xs.length ∧ P xs.length acc H2 :=
  EN.of (pe_lc hc hN (pi_tup pe_sem) ok hg (fun _ _ _ _ _ => pts_nil) (fun s H' C cl fp => pe_blk s H' C cl fp) hfo) fun H1 e1 => sem_mono (hl H1 e1) fun v H2 ⟨e2, r, ev, hx⟩ => ⟨r, ev, ⟨xs, hx⟩, fun D hD =>
    lc_it (walk_tup (K := X.K) (a := r) (xs := xs)) (LcW H2 D P) ⟨[], Nat.le_refl _, hD, Ex.new hD, upd_same, hP _ _ _ _ (Tx.trans (e1.trans e2).tx (Ex.new hD).tx) h0⟩ (fun i H' _ p => let ⟨_, _, _, e, _, _⟩ := p; ex_t e hx)
      (fun i x H' H'' hi ⟨acc, q1, q2, q3, q4, q5⟩ ⟨eh, hx⟩ => by
        subst eh
        exact ⟨hw _, iteT (B := LcW H2 D P (i + 1) H'') fun s H3 C cl fp => sem_mono (hs i x acc _ s H3 C cl fp hx ((e1.trans e2).trans q3) q5 _ (Ex.refl _)) fun v H4 ⟨e4, q6⟩ => LcW.push hP q1 q2 (q3.trans e4) (e4 D _ q4) (by omega) q6⟩)
      (fun H' ⟨acc, q1, q2, q3, q4, q5⟩ => ⟨e2.trans q3, D, acc, rfl, fresh_back (e1.trans e2) q2, q4, q1, q5⟩)⟩
/-- [.. for i, x in enumerate(tuple) if ..] -/
theorem en_lcEt (j1 j2 : Nat) {l tst : Expr} (hc : X.calm = true) (hN : X.N.Nodup) (ok : BlkOk X.N X.env.scope scope own) (hgz : Gl X "enumerate") (hmz : X.mg "enumerate" = none)
    (hl : EV X l σ H (.ref p)) (hx : SqT X.K H p xs) (hz : xs.length ≤ 100000)
    (hg : ∀ (s : Shared) (H : Hp) (C : Addr) (cl : List (Str × Addr)) (fp : List Addr), PG (X.blk s H scope (compEnvC scope cl C X.env) fp) (.Tuple [.Name xn px, .Name yn py] kt pt) (gTup X.K 2 (gCons (gName j1) (gCons (gName j2) gNil))))
    (hw : ∀ v v', wipe (((wipe σ (own.map (·.2))).set j1 (some v)).set j2 (some v')) (own.map (·.2)) = wipe σ (own.map (·.2)))
    (P : Nat → List V → Hp → Prop) (hP : ∀ n acc H1 H2, Tx H1 H2 → P n acc H1 → P n acc H2) (h0 : P 0 [] H)
    (hs : ∀ (n : Nat) x acc Hb (s : Shared) (H' : Hp) (C : Addr) (cl : List (Str × Addr)) (fp : List Addr), xs[n]? = some x → Ex H Hb → P n acc Hb →
      TD (X.blk s H' scope (compEnvC scope cl C X.env) fp) tst (((wipe σ (own.map (·.2))).set j1 (some (.int (n : Int)))).set j2 (some x)) Hb fun b H3 => if b = true then
        ∀ (s : Shared) (H' : Hp) (C : Addr) (cl : List (Str × Addr)) (fp : List Addr), EN (X.blk s H' scope (compEnvC scope cl C X.env) fp) elt (((wipe σ (own.map (·.2))).set j1 (some (.int (n : Int)))).set j2 (some x)) H3 fun v H2 => P (n + 1) (acc ++ [v]) H2 else P (n + 1) acc H3)
    (hst : starEach [l] X.env = (false, eval l X.env) :: starEach [] X.env := by rfl) :
    EN X (.ListComp elt [⟨.Tuple [.Name xn px, .Name yn py] kt pt, .Call (.Name "enumerate" q1) [l] [] q2, [tst], 0⟩] scope pos) σ H fun v H2 => ∃ D acc, v = .ref D ∧ H D = none ∧ H2 D = some (.lst acc) ∧ acc.length ≤ xs.length ∧ P xs.length acc H2 :=
  EN.of (pe_lc hc hN (pi_enumT hgz hmz (pa_cons pe_sem pa_nil hst) hst) ok hg (fun s H' C cl fp => pts_one (pt_blk s H' C cl fp)) (fun s H' C cl fp => pe_blk s H' C cl fp)) fun H1 e1 => EV.ev hl H1 e1 _ fun H2 e2 =>
    ⟨p, xs, rfl, ex_t (e1.trans e2) hx, fun D hD =>
      lc_it (walk_enumT (K := X.K) (a := p) (xs := xs)) (LcW H2 D P) ⟨[], Nat.le_refl _, hD, Ex.new hD, upd_same, hP _ _ _ _ (Tx.trans (e1.trans e2).tx (Ex.new hD).tx) h0⟩ (fun i H' _ p => let ⟨_, _, _, e, _, _⟩ := p; ex_t ((e1.trans e2).trans e) hx)
        (fun i v H' H'' hi ⟨acc, q1, q2, q3, q4, q5⟩ ⟨T, x, y, ev, hT, eh, fx, fy⟩ => by
          subst ev eh
          cases fx
          have nD : D ≠ T := ne_of_none q4 hT
          refine ⟨T, [_, y], rfl, .inl (.inl upd_same), rfl, _, [y], rfl, y, [], rfl, rfl, hw _ _, fun s H'' C cl fp => semT_mono (hs i y acc _ s H'' C cl fp fy ((e1.trans e2).trans (q3.trans (Ex.new hT))) (hP _ _ _ _ (Ex.new hT).tx q5) _ (Ex.refl _)) fun b H3 ⟨e3, q6⟩ => ?_⟩
          cases b with
          | true =>
            rw [if_pos rfl] at q6 ⊢
            exact fun s H'' C cl fp => sem_mono (q6 s H'' C cl fp H3 (Ex.refl H3)) fun v H4 ⟨e4, q7⟩ =>
              LcW.push hP q1 q2 (((q3.trans (Ex.new hT)).trans e3).trans e4) ((e3.trans e4) D _ (by rw [upd_ne nD]; exact q4)) (by omega) q7
          | false =>
            rw [if_neg Bool.false_ne_true] at q6 ⊢
            exact ⟨acc, Nat.le_succ_of_le q1, q2, (q3.trans (Ex.new hT)).trans e3, e3 D _ (by rw [upd_ne nD]; exact q4), q6⟩)
        (fun H' ⟨acc, q1, q2, q3, q4, q5⟩ => ⟨e2.trans q3, D, acc, rfl, fresh_back (e1.trans e2) q2, q4, q1, q5⟩)⟩
/-- [.. for x, y in a list of pairs] -/
theorem en_lcP (j1 j2 : Nat) {l : Expr} (hc : X.calm = true) (hN : X.N.Nodup) (ok : BlkOk X.N X.env.scope scope own)
    (hl : EV X l σ H (.ref p)) (hx : SqL X.K H p xs) (hz : xs.length ≤ 100000) (hpr : ∀ x ∈ xs, ∃ q y z, x = .ref q ∧ H q = some (.tup [y, z]))
    (hg : ∀ (s : Shared) (H : Hp) (C : Addr) (cl : List (Str × Addr)) (fp : List Addr), PG (X.blk s H scope (compEnvC scope cl C X.env) fp) (.Tuple [.Name xn px, .Name yn py] kt pt) (gTup X.K 2 (gCons (gName j1) (gCons (gName j2) gNil))))
    (hw : ∀ v v', wipe (((wipe σ (own.map (·.2))).set j1 (some v)).set j2 (some v')) (own.map (·.2)) = wipe σ (own.map (·.2)))
    (P : Nat → List V → Hp → Prop) (hP : ∀ n acc H1 H2, Tx H1 H2 → P n acc H1 → P n acc H2) (h0 : P 0 [] H)
    (hs : ∀ (n : Nat) q y z acc Hb (s : Shared) (H' : Hp) (C : Addr) (cl : List (Str × Addr)) (fp : List Addr), xs[n]? = some (.ref q) → H q = some (.tup [y, z]) → Ex H Hb → P n acc Hb →
      EN (X.blk s H' scope (compEnvC scope cl C X.env) fp) elt (((wipe σ (own.map (·.2))).set j1 (some y)).set j2 (some z)) Hb fun v H2 => P (n + 1) (acc ++ [v]) H2)
    (hfo : ∀ x, foldedSetIterable l X.env x = pure x := by intro _; rfl) :
    EN X (.ListComp elt [⟨.Tuple [.Name xn px, .Name yn py] kt pt, l, [], 0⟩] scope pos) σ H fun v H2 => ∃ D acc, v = .ref D ∧ H D = none ∧ H2 D = some (.lst acc) ∧ acc.length ≤ xs.length ∧ P xs.length acc H2 :=
  EN.of (pe_lc hc hN (pi_list pe_sem) ok hg (fun _ _ _ _ _ => pts_nil) (fun s H' C cl fp => pe_blk s H' C cl fp) hfo) fun H1 e1 => EV.ev hl H1 e1 _ fun H2 e2 => ⟨p, rfl, ⟨xs, ex_l (e1.trans e2) hx⟩, fun D hD =>
    lc_list (xs := xs) (LcW H2 D P) ⟨[], Nat.le_refl _, hD, Ex.new hD, upd_same, hP _ _ _ _ (Tx.trans (e1.trans e2).tx (Ex.new hD).tx) h0⟩ (fun i H' _ p => let ⟨_, _, _, e, _, _⟩ := p; ex_l ((e1.trans e2).trans e) hx)
      (fun i x H' hi ⟨acc, q1, q2, q3, q4, q5⟩ => by
        obtain ⟨q, y, z, ex, hq⟩ := hpr x (List.mem_of_getElem? hi)
        subst ex
        refine ⟨q, [y, z], rfl, .inl (.inl (((e1.trans e2).trans q3) _ _ hq)), rfl, y, [z], rfl, z, [], rfl, rfl, hw _ _, ?_⟩
        refine iteT (B := LcW H2 D P (i + 1) H') fun s H'' C cl fp => sem_mono (hs i q y z acc H' s H'' C cl fp hi hq ((e1.trans e2).trans q3) q5 H' (Ex.refl H')) fun v H4 ⟨e4, q6⟩ =>
          LcW.push hP q1 q2 (q3.trans e4) (e4 D _ q4) (by have := (List.getElem?_eq_some_iff.mp hi).1; omega) q6)
      (fun H' ⟨acc, q1, q2, q3, q4, q5⟩ => ⟨e2.trans q3, D, acc, rfl, fresh_back (e1.trans e2) q2, q4, q1, q5⟩)⟩
end
/-- sorted(list of pairs of ints) -/
theorem en_sortedP (hg : Gl X "sorted") (hm : X.mg "sorted" = none) {α : List V → Hp → Prop} (ha : EN X a σ H (LP α)) (k : ∀ xs H2, Ex H H2 → α xs H2 → ∀ x ∈ xs, ∃ t i j, x = V.ref t ∧ H2 t = some (.tup [.int i, .int j])) (hst : starEach [a] X.env = (false, eval a X.env) :: starEach [] X.env := by rfl) :
    EN X (.Call (.Name "sorted" q1) [a] [] q2) σ H (LP fun ys H3 => ∃ xs H2, ys.Perm xs ∧ α xs H2 ∧ Ex H H2 ∧ Ex H2 H3) :=
  EN.of (pe_callB cr_sortedP hg hm (by decide +kernel) (pa_cons pe_sem pa_nil hst) (he := hst)) fun H1 e1 => sem_mono (ha H1 e1) fun v H2 ⟨e2, p, xs, ev, hp, qa⟩ => ⟨p, xs, by rw [ev], sq_of hp, k xs H2 (e1.trans e2) qa, fun ys q hq hn => ⟨e2.trans (Ex.new hn), q, ys, rfl, upd_same, xs, H2, hq, qa, e1.trans e2, Ex.new hn⟩⟩
end
end Y
set_option Elab.async false
set_option linter.all false
set_option maxRecDepth 100000
set_option maxHeartbeats 4000000
namespace Y
open PySem PySem.Spec PyProof.Rows L2 Evl
section
variable {X : Cx} {σ : L2.St} {H H' : Hp} {v w x y z : V} {e a b c f o : Expr} {i j k : Nat} {K : PySem.W.Frag} {n : Int} {pos pos' apos cpos p1 p2 p3 q1 q2 px py pt : Pos} {D : Ends} {rest : List Stmt} {R : V → Hp → Prop} {l p r C dx : Addr} {xs ys : List V} {φ ψ : V → Hp → Prop} {nm m : Str} {fs : List (Str × V)}
/-- the truth of a list -/
theorem tn_truL (ha : EV X a σ H (.ref p)) (h : SqL X.K H p xs) (he : ∀ whole, isTrue a X.env whole = (do let v ← whole; standAt a.pos; holding [v] (truthy v)) := by intro _; rfl) : TN X a σ H (!xs.isEmpty) :=
  ⟨fun H1 e1 => semT_of (pt_truth pe_sem he) (EV.ev ha H1 e1 _ fun H2 e2 => ⟨_, .inl ⟨xs, ex_l (e1.trans e2) h, rfl⟩, e2, rfl⟩)⟩
theorem ev_inU (ha : EV X a σ H x) (hb : EN X b σ H (NT H xs)) (fx : flatV x = true) (fs : xs.all flatV = true) (hm : behindInMarks .In b = false := by rfl) : EV X (.Compare a [.In] [b] pos) σ H (.bl (inV x xs)) :=
  EN.of (pe_cmpR op_in_seq pe_sem pe_sem hm) fun H1 e1 => EV.ev ha H1 e1 _ fun H2 e2 => sem_mono (hb H2 (e1.trans e2)) fun v H3 ⟨e3, q, ev, _, hq⟩ => ⟨q, xs, ev, .inr (st_of hq), fx, fs, e2.trans e3, rfl⟩
theorem ev_notIn (ha : EV X a σ H x) (hb : EV X b σ H (.ref p)) (h : SqL X.K H p xs ∨ SqT X.K H p xs) (fx : flatV x = true) (fs : xs.all flatV = true) (hm : behindInMarks .NotIn b = false := by rfl) : EV X (.Compare a [.NotIn] [b] pos) σ H (.bl (!inV x xs)) :=
  EN.of (pe_cmpR op_notIn_seq pe_sem pe_sem hm) fun H1 e1 => EV.ev ha H1 e1 _ fun H2 e2 => EV.ev hb H2 (e1.trans e2) _ fun H3 e3 => ⟨p, xs, rfl, h.imp (ex_l ((e1.trans e2).trans e3)) (ex_t ((e1.trans e2).trans e3)), fx, fs, e2.trans e3, rfl⟩
/-- {} -/
theorem em_dict0 (k : ∀ p, H p = none → R (.ref p) (upd H p (.dK []))) : EM X (.Dict [] [] pos) σ H R := EM.of pe_dnewK fun H1 e1 p hp => ⟨_, ex_upd e1, k p (fresh_back e1 hp)⟩
theorem em_append2 (ho : EM X o σ H fun v Hb => ∃ l xs w, v = .ref l ∧ Hb l = some (.lst xs) ∧ xs.length < 100000 ∧ EV X e σ Hb w ∧ R .non (upd Hb l (.lst (xs ++ [w]))))
    (hbase : attributeBase o "append" X.env (eval o X.env) = eval o X.env := by rfl)
    (hfew : ((backTo cpos (starEach [e] X.env)).all (fun x => !x.1) && (backToKw cpos (keywordEach [] X.env)).all (fun x => x.1.isSome) && decide (([e] : List Expr).length + ([] : List Keyword).length + (if ([] : List Keyword).isEmpty then 0 else 1) < 30)) = true := by rfl)
    (hline : (apos.endLine == cpos.line) = true := by rfl) (hs : starEach [e] X.env = (false, eval e X.env) :: starEach [] X.env := by rfl) (hplain : (backTo cpos (starEach [] X.env)).any (·.1) = false := by rfl) :
    EM X (.Call (.Attribute o "append" apos) [e] [] cpos) σ H R :=
  EM.of (pe_bm PySem.F.plainAttrs_list PySem.F.slot_list_append PySem.F.type_list_append mt_append pe_sem (pa_cons pe_sem pa_nil hs) hbase hfew hline hs hplain) fun H1 e1 => sem_mono (ho H1 e1) fun v H2 ⟨Hb, e2, l, xs, w, ev, h, hl, he, q⟩ => by
    subst ev
    exact ⟨Or.inl ⟨rfl, xs, sq_of (e2 _ _ h)⟩, EV.ev he H2 e2 _ fun H3 e3 => ⟨l, xs, w, rfl, rfl, (e2.trans e3) _ _ h, sz_lt hl, _, ex_upd (e2.trans e3), q⟩⟩
end
/-! ### the fields of an object by their names -/
theorem lk_here {k : Str} {v : V} {r : List (Str × V)} : List.lookup k ((k, v) :: r) = some v := by
  have e : (k == k) = true := beq_self_eq_true k
  simp only [List.lookup, e]
theorem lk_past {k g : Str} {v : V} {r : List (Str × V)} (h : (k == g) = false) : List.lookup k ((g, v) :: r) = List.lookup k r := by
  simp only [List.lookup, h]
theorem put_here {f : Str} {v x : V} {r : List (Str × V)} : putF f v ((f, x) :: r) = (f, v) :: r := if_pos rfl
theorem put_past {f g : Str} {v x : V} {r : List (Str × V)} (h : ¬ g = f) : putF f v ((g, x) :: r) = (g, x) :: putF f v r := if_neg h
end Y
set_option linter.all false
set_option maxRecDepth 100000
namespace E5
open PySem PyProof.Rows
/-- a word of letters from a to z -/
def Wd (s : Str) : Prop := 1 ≤ s.length ∧ s.length ≤ 10 ∧ ∀ c ∈ s.cps.toList, 97 ≤ c ∧ c ≤ 122
theorem abc : (Str.ofString "abcdefghijklmnopqrstuvwxyz").cps.toList = (List.range 26).map (· + 97) := by decide +kernel
theorem abc_len : (Str.ofString "abcdefghijklmnopqrstuvwxyz").length = 26 := by decide +kernel
theorem abc_at {r : Nat} (h : r < 26) : (Str.ofString "abcdefghijklmnopqrstuvwxyz").cps.toList[r]? = some (r + 97) := by
  rw [abc, List.getElem?_map, List.getElem?_range h]; rfl
def ofCs (cs : List Nat) : Str := ⟨cs.toArray⟩
theorem ofCs_len (cs : List Nat) : (ofCs cs).length = cs.length := by
  show cs.toArray.size = _; simp
theorem ofCs_toList (cs : List Nat) : (ofCs cs).cps.toList = cs := by
  show cs.toArray.toList = _; simp
theorem ofCs_app (a b : List Nat) : ofCs a ++ ofCs b = ofCs (a ++ b) := by
  show (⟨a.toArray ++ b.toArray⟩ : Str) = ⟨(a ++ b).toArray⟩
  simp
theorem str_eta (s : Str) : ofCs s.cps.toList = s := by
  cases s; simp [ofCs]
theorem join1 : ∀ cs : List Nat, Str.join ⟨#[]⟩ (cs.map fun c => (⟨#[c]⟩ : Str)) = ofCs cs
  | [] => rfl
  | [c] => rfl
  | c :: d :: r => by
    have ih := join1 (d :: r)
    show (⟨#[c]⟩ : Str) ++ ⟨#[]⟩ ++ Str.join ⟨#[]⟩ ((d :: r).map fun c => (⟨#[c]⟩ : Str)) = _
    rw [ih]
    show (⟨(#[c] ++ #[]) ++ (d :: r).toArray⟩ : Str) = ⟨(c :: d :: r).toArray⟩
    congr 1
    apply Array.ext'
    simp
/-- more different things than there are places -/
theorem pigeon {α : Type} [DecidableEq α] : ∀ (l D : List α), l.Nodup → (∀ x ∈ l, x ∈ D) → l.length ≤ D.length
  | [], _, _, _ => Nat.zero_le _
  | x :: l, D, hn, hs => by
    obtain ⟨h1, h2⟩ := List.nodup_cons.mp hn
    have hx : x ∈ D := hs x List.mem_cons_self
    have ih := pigeon l (D.erase x) h2 fun y hy => by
      have hne : y ≠ x := fun e => h1 (e ▸ hy)
      exact (List.mem_erase_of_ne hne).2 (hs y (List.mem_cons_of_mem _ hy))
    have e := List.length_erase_of_mem hx
    have hp : 0 < D.length := List.length_pos_of_mem hx
    rw [List.length_cons]
    omega
/-- the names that are tried -/
def cand (c0 t : Nat) : Str := ofCs [c0, t / 26 + 97, t % 26 + 97]
theorem cand_inj {c0 s t : Nat} (h : cand c0 s = cand c0 t) : s = t := by
  have e : (cand c0 s).cps.toList = (cand c0 t).cps.toList := by rw [h]
  rw [cand, cand, ofCs_toList, ofCs_toList] at e
  simp only [List.cons.injEq, true_and, and_true] at e
  omega
theorem cand_wd {c0 t : Nat} (h : 97 ≤ c0 ∧ c0 ≤ 122) (ht : t < 600) : Wd (cand c0 t) := by
  refine ⟨by rw [cand, ofCs_len]; show 1 ≤ 3; decide, by rw [cand, ofCs_len]; show 3 ≤ 10; decide, fun c hc => ?_⟩
  rw [cand, ofCs_toList] at hc
  simp only [List.mem_cons, List.not_mem_nil, or_false] at hc
  rcases hc with rfl | rfl | rfl
  · exact h
  · omega
  · omega
/-- a name that isn't met after as many tries as there are names, and one more -/
theorem cand_free {c0 : Nat} {fs : List Str} (h : ∀ s, s < fs.length + 1 → cand c0 s ∈ fs) : False := by
  have := pigeon ((List.range (fs.length + 1)).map (cand c0)) fs (by
    rw [List.nodup_iff_pairwise_ne, List.pairwise_map]
    exact List.Pairwise.imp (fun {a b} hab e => hab (cand_inj e)) (List.nodup_iff_pairwise_ne.mp List.nodup_range)) (fun x hx => by
    obtain ⟨s, hs, rfl⟩ := List.mem_map.mp hx
    exact h s (List.mem_range.mp hs))
  rw [List.length_map, List.length_range] at this
  omega
end E5
set_option linter.all false
set_option maxRecDepth 100000
namespace E5
open PySem PyProof.Rows PySem.Spec
/-- texts as they are sorted -/
def ltS (a b : Str) : Prop := a.cps.toList < b.cps.toList
instance (a b : Str) : Decidable (ltS a b) := inferInstanceAs (Decidable (a.cps.toList < b.cps.toList))
theorem ltCps_iff : ∀ a b : List Nat, ltCps a b = decide (a < b)
  | [], [] => by simp [ltCps]
  | [], _ :: _ => by simp [ltCps]
  | _ :: _, [] => by simp [ltCps]
  | a :: r, b :: t => by
    have ih := ltCps_iff r t
    rw [ltCps, ih]
    by_cases h : a < b
    · simp [h, List.cons_lt_cons_iff]
    · by_cases e : a = b
      · subst e; simp [List.cons_lt_cons_iff]
      · simp [h, e, List.cons_lt_cons_iff]
theorem ltS_irrefl (a : Str) : ¬ ltS a a := List.lt_irrefl a.cps.toList
theorem ltS_trans {a b c : Str} (h : ltS a b) (g : ltS b c) : ltS a c := List.lt_trans h g
theorem str_ext {a b : Str} (h : a.cps.toList = b.cps.toList) : a = b := by
  rw [← str_eta a, ← str_eta b, h]
theorem ltS_tri (a b : Str) : ltS a b ∨ a = b ∨ ltS b a := by
  rcases Classical.em (a.cps.toList < b.cps.toList) with h | h
  · exact .inl h
  · rcases Classical.em (b.cps.toList < a.cps.toList) with g | g
    · exact .inr (.inr g)
    · exact .inr (.inl (str_ext (List.le_antisymm (List.not_lt.mp g) (List.not_lt.mp h))))
theorem rising_all : ∀ (l : List Str) (p : Str), risingS p l = true → (∀ x ∈ l, ¬ ltS x p) ∧ l.Pairwise fun a b => ¬ ltS b a
  | [], p, _ => ⟨fun _ h => (nomatch h), List.Pairwise.nil⟩
  | x :: r, p, h => by
    rw [risingS, Bool.and_eq_true, ltCps_iff] at h
    obtain ⟨h1, h2⟩ := h
    have hx : ¬ ltS x p := by
      rw [Bool.not_eq_true', decide_eq_false_iff_not] at h1
      exact h1
    obtain ⟨i1, i2⟩ := rising_all r x h2
    refine ⟨fun y hy => ?_, List.pairwise_cons.mpr ⟨i1, i2⟩⟩
    rcases List.mem_cons.mp hy with e | hy
    · rw [e]; exact hx
    · intro hl
      rcases ltS_tri x p with g | g | g
      · exact hx g
      · subst g; exact i1 y hy hl
      · exact i1 y hy (ltS_trans hl g)
/-- sorted, all different: ascending -/
theorem asc_of_sorted {ys ss : List Str} (hp : ys.Perm ss) (hs : sortedS ys = true) (hn : ss.Nodup) : ys.Pairwise ltS := by
  have hle : ys.Pairwise fun a b => ¬ ltS b a := by
    cases ys with
    | nil => exact List.Pairwise.nil
    | cons x r => exact List.pairwise_cons.mpr (rising_all r x hs)
  have hne : ys.Pairwise (· ≠ ·) := List.nodup_iff_pairwise_ne.mp (hp.nodup_iff.mpr hn)
  refine (hle.and hne).imp fun {a b} h => ?_
  rcases ltS_tri a b with g | g | g
  · exact g
  · exact absurd g h.2
  · exact absurd g h.1
/-- all pairs, the smaller one first, in their order -/
def allP : List Str → List (Str × Str)
  | [] => []
  | x :: r => (x :: r).map (fun y => (x, y)) ++ allP r
def ltP (p q : Str × Str) : Prop := ltS p.1 q.1 ∨ (p.1 = q.1 ∧ ltS p.2 q.2)
theorem allP_mem : ∀ {l : List Str} {p : Str × Str}, p ∈ allP l → p.1 ∈ l ∧ p.2 ∈ l
  | x :: r, p, h => by
    rcases List.mem_append.mp h with h | h
    · obtain ⟨y, hy, rfl⟩ := List.mem_map.mp h
      exact ⟨List.mem_cons_self, hy⟩
    · obtain ⟨a, b⟩ := allP_mem h
      exact ⟨List.mem_cons_of_mem _ a, List.mem_cons_of_mem _ b⟩
theorem allP_asc : ∀ {l : List Str}, l.Pairwise ltS → (allP l).Pairwise ltP
  | [], _ => List.Pairwise.nil
  | x :: r, h => by
    obtain ⟨h1, h2⟩ := List.pairwise_cons.mp h
    refine List.pairwise_append.mpr ⟨?_, allP_asc h2, fun p hp q hq => ?_⟩
    · rw [List.pairwise_map]
      exact h.imp fun {a b} g => .inr ⟨rfl, g⟩
    · obtain ⟨y, hy, rfl⟩ := List.mem_map.mp hp
      exact .inl (h1 q.1 (allP_mem hq).1)
theorem allP_le : ∀ {l : List Str}, l.Pairwise ltS → ∀ p ∈ allP l, ¬ ltS p.2 p.1
  | x :: r, h, p, hp => by
    obtain ⟨h1, h2⟩ := List.pairwise_cons.mp h
    rcases List.mem_append.mp hp with hp | hp
    · obtain ⟨y, hy, rfl⟩ := List.mem_map.mp hp
      rcases List.mem_cons.mp hy with e | hy
      · rw [e]; exact ltS_irrefl x
      · exact fun g => ltS_irrefl x (ltS_trans (h1 y hy) g)
    · exact allP_le h2 p hp
theorem allP_len : ∀ l : List Str, 2 * (allP l).length = l.length * (l.length + 1)
  | [] => rfl
  | x :: r => by
    have ih := allP_len r
    rw [allP, List.length_append, List.length_map, List.length_cons, Nat.mul_add, ih, ← Nat.add_mul, Nat.mul_comm]
    congr 1
    omega
/-- what _law_table makes -/
structure TableOk (kinds : List Str) (pairs : List (Str × Str)) : Prop where
  wd : ∀ k ∈ kinds, Wd k
  asc : kinds.Pairwise ltS
  sub : pairs.Sublist (allP kinds)
  few : kinds.length ≤ 12
theorem TableOk.pasc {kinds : List Str} {pairs : List (Str × Str)} (t : TableOk kinds pairs) : pairs.Pairwise ltP := (allP_asc t.asc).sublist t.sub
theorem TableOk.pmem {kinds : List Str} {pairs : List (Str × Str)} (t : TableOk kinds pairs) {p : Str × Str} (h : p ∈ pairs) : p.1 ∈ kinds ∧ p.2 ∈ kinds ∧ ¬ ltS p.2 p.1 := ⟨(allP_mem (t.sub.subset h)).1, (allP_mem (t.sub.subset h)).2, allP_le t.asc p (t.sub.subset h)⟩
theorem TableOk.plen {kinds : List Str} {pairs : List (Str × Str)} (t : TableOk kinds pairs) : pairs.length ≤ 78 := by
  have h1 := t.sub.length_le
  have h2 := allP_len kinds
  have h3 : kinds.length * (kinds.length + 1) ≤ 12 * 13 := Nat.mul_le_mul t.few (Nat.succ_le_succ t.few)
  omega
end E5
set_option linter.all false
set_option maxRecDepth 100000
namespace E5
open PySem PyProof.Rows PySem.Spec
inductive Ev where
  | doo (t : Int) (k : Str)
  | back (t i : Int)
  | fin (t : Int) (b : Bool)
def Ev.t : Ev → Int
  | .doo t _ => t
  | .back t _ => t
  | .fin t _ => t
def Ev.ok : Ev → Prop
  | .doo t _ => 0 ≤ t
  | .back t i => 0 ≤ t ∧ 0 ≤ i
  | .fin t _ => 0 ≤ t
/-- what a history has done -/
structure S where
  n : Nat
  steps : Int → List Int
  ends : Int → Option Bool
  taken : Int → List Int
  fs : List (Int × Bool)
  os : List (Int × Int)
def S.zero : S := ⟨0, fun _ => [], fun _ => none, fun _ => [], [], []⟩
def S.note (s : S) : Ev → S
  | .doo t _ => { s with n := s.n + 1, steps := fun u => if u = t then s.steps u ++ [(s.n : Int)] else s.steps u, os := s.os ++ [((s.n : Int), t)] }
  | .back t i => { s with n := s.n + 1, taken := fun u => if u = t then s.taken u ++ [i] else s.taken u }
  | .fin t b => { s with n := s.n + 1, ends := fun u => if u = t then some b else s.ends u, fs := s.fs ++ [(t, b)] }
def S.may (ks : List Str) (s : S) : Ev → Bool
  | .doo t k => decide (k ∈ ks) && (s.ends t).isNone
  | .back t i => decide (s.ends t = some false) && (decide (i ∈ s.steps t) && !decide (i ∈ s.taken t))
  | .fin t _ => !decide (s.steps t = []) && (s.ends t).isNone
def S.state (s : S) (t : Int) : Str :=
  if s.steps t = [] then "new" else match s.ends t with
    | none => "active"
    | some true => "kept"
    | some false => if (s.taken t).length = (s.steps t).length then "gone" else "dropping"
structure Good (s : S) : Prop where
  ends : ∀ t, s.steps t = [] → s.ends t = none
  sub : ∀ t i, i ∈ s.taken t → i ∈ s.steps t
  nt : ∀ t, (s.taken t).Nodup
  ns : ∀ t, (s.steps t).Nodup
  inj : ∀ t u i, i ∈ s.steps t → i ∈ s.steps u → t = u
  lt : ∀ t i, i ∈ s.steps t → 0 ≤ i ∧ i < (s.n : Int)
  tk : ∀ t, s.ends t ≠ some false → s.taken t = []
  pos : ∀ t, s.steps t ≠ [] → 0 ≤ t
  own : ∀ i t, (i, t) ∈ s.os ↔ i ∈ s.steps t
  osp : s.os.Pairwise fun a b => a.1 < b.1
theorem Good.zero : Good S.zero := ⟨fun _ _ => rfl, fun _ _ h => (nomatch h), fun _ => List.nodup_nil, fun _ => List.nodup_nil, fun _ _ _ h => (nomatch h), fun _ _ h => (nomatch h), fun _ _ => rfl, fun _ h => absurd rfl h, fun _ _ => ⟨fun h => (nomatch h), fun h => (nomatch h)⟩, List.Pairwise.nil⟩
theorem Good.no {s : S} (g : Good s) {t : Int} : (s.n : Int) ∉ s.steps t := fun h => by
  have := (g.lt _ _ h).2
  omega
theorem nodup_snoc {l : List Int} {x : Int} (h : l.Nodup) (hx : x ∉ l) : (l ++ [x]).Nodup := by
  rw [List.nodup_append]
  refine ⟨h, List.pairwise_singleton _ x, fun a ha b hb e => ?_⟩
  rw [List.mem_singleton] at hb
  subst hb e
  exact hx ha
theorem Good.note {s : S} (g : Good s) {ks : List Str} {e : Ev} (hm : s.may ks e = true) (ho : e.ok) : Good (s.note e) := by
  cases e with
  | doo t k =>
    rw [S.may, Bool.and_eq_true, Option.isNone_iff_eq_none] at hm
    have ho : 0 ≤ t := ho
    have mem : ∀ u i, i ∈ (if u = t then s.steps u ++ [(s.n : Int)] else s.steps u) → i ∈ s.steps u ∨ (u = t ∧ i = s.n) := fun u i hi => by
      by_cases h : u = t
      · rw [if_pos h] at hi
        rcases List.mem_append.mp hi with z | z
        · exact .inl z
        · exact .inr ⟨h, List.mem_singleton.mp z⟩
      · rw [if_neg h] at hi; exact .inl hi
    have up : ∀ u i, i ∈ s.steps u → i ∈ (if u = t then s.steps u ++ [(s.n : Int)] else s.steps u) := fun u i hi => by
      by_cases h : u = t
      · rw [if_pos h]; exact List.mem_append_left _ hi
      · rw [if_neg h]; exact hi
    refine ⟨fun u hu => ?_, fun u i hi => up u i (g.sub u i hi), g.nt, fun u => ?_, fun u v i hu hv => ?_, fun u i hi => ?_, g.tk, fun u hu => ?_, fun i u => ?_, ?_⟩
    · show s.ends u = none
      have hu : (if u = t then s.steps u ++ [(s.n : Int)] else s.steps u) = [] := hu
      by_cases h : u = t
      · rw [if_pos h] at hu; simp at hu
      · rw [if_neg h] at hu; exact g.ends u hu
    · show (if u = t then s.steps u ++ [(s.n : Int)] else s.steps u).Nodup
      by_cases h : u = t
      · rw [if_pos h]; exact nodup_snoc (g.ns u) g.no
      · rw [if_neg h]; exact g.ns u
    · rcases mem u i hu with z | ⟨z, z'⟩
      · rcases mem v i hv with y | ⟨y, y'⟩
        · exact g.inj u v i z y
        · rw [y'] at z; exact absurd z g.no
      · rcases mem v i hv with y | ⟨y, y'⟩
        · rw [z'] at y; exact absurd y g.no
        · rw [z, y]
    · show 0 ≤ i ∧ i < ((s.n + 1 : Nat) : Int)
      rcases mem u i hi with z | ⟨z, z'⟩
      · have := g.lt u i z; omega
      · omega
    · by_cases h : u = t
      · rw [h]; exact ho
      · have hu : (if u = t then s.steps u ++ [(s.n : Int)] else s.steps u) ≠ [] := hu
        rw [if_neg h] at hu; exact g.pos u hu
    · show (i, u) ∈ s.os ++ [((s.n : Int), t)] ↔ i ∈ (if u = t then s.steps u ++ [(s.n : Int)] else s.steps u)
      rw [List.mem_append, List.mem_singleton, g.own i u]
      constructor
      · rintro (z | z)
        · exact up u i z
        · cases z
          rw [if_pos rfl]; exact List.mem_append_right _ (List.mem_singleton.mpr rfl)
      · intro z
        rcases mem u i z with y | ⟨y, y'⟩
        · exact .inl y
        · exact .inr (by rw [y, y'])
    · show (s.os ++ [((s.n : Int), t)]).Pairwise _
      rw [List.pairwise_append]
      refine ⟨g.osp, List.pairwise_singleton _ _, fun a ha b hb => ?_⟩
      rw [List.mem_singleton] at hb
      subst hb
      exact (g.lt a.2 a.1 ((g.own a.1 a.2).mp ha)).2
  | back t i =>
    rw [S.may, Bool.and_eq_true, Bool.and_eq_true, decide_eq_true_eq, decide_eq_true_eq, Bool.not_eq_true', decide_eq_false_iff_not] at hm
    obtain ⟨h1, h2, h3⟩ := hm
    refine ⟨g.ends, fun u j hj => ?_, fun u => ?_, g.ns, g.inj, fun u j hj => ?_, fun u hu => ?_, g.pos, g.own, g.osp⟩
    · have hj : j ∈ (if u = t then s.taken u ++ [i] else s.taken u) := hj
      show j ∈ s.steps u
      by_cases h : u = t
      · rw [if_pos h] at hj
        rcases List.mem_append.mp hj with z | z
        · exact g.sub u j z
        · rw [List.mem_singleton.mp z, h]; exact h2
      · rw [if_neg h] at hj; exact g.sub u j hj
    · show (if u = t then s.taken u ++ [i] else s.taken u).Nodup
      by_cases h : u = t
      · rw [if_pos h]; exact nodup_snoc (g.nt u) (by rw [h]; exact h3)
      · rw [if_neg h]; exact g.nt u
    · show 0 ≤ j ∧ j < ((s.n + 1 : Nat) : Int)
      have := g.lt u j hj; omega
    · show (if u = t then s.taken u ++ [i] else s.taken u) = []
      have hu : s.ends u ≠ some false := hu
      rw [if_neg (show ¬ u = t from fun h => hu (by rw [h]; exact h1))]; exact g.tk u hu
  | fin t b =>
    rw [S.may, Bool.and_eq_true, Option.isNone_iff_eq_none, Bool.not_eq_true', decide_eq_false_iff_not] at hm
    obtain ⟨h1, h2⟩ := hm
    refine ⟨fun u hu => ?_, g.sub, g.nt, g.ns, g.inj, fun u j hj => ?_, fun u hu => ?_, g.pos, g.own, g.osp⟩
    · show (if u = t then some b else s.ends u) = none
      have hu : s.steps u = [] := hu
      rw [if_neg (show ¬ u = t from fun h => h1 (by rw [← h]; exact hu))]; exact g.ends u hu
    · show 0 ≤ j ∧ j < ((s.n + 1 : Nat) : Int)
      have := g.lt u j hj; omega
    · show s.taken u = []
      have hu : (if u = t then some b else s.ends u) ≠ some false := hu
      by_cases h : u = t
      · exact g.tk u (by rw [h, h2]; exact nofun)
      · rw [if_neg h] at hu; exact g.tk u hu
/-! ### lists without doubles -/
theorem nodup_le : ∀ {a b : List Int}, a.Nodup → (∀ x ∈ a, x ∈ b) → a.length ≤ b.length
  | [], _, _, _ => Nat.zero_le _
  | x :: a, b, h, k => by
    obtain ⟨h1, h2⟩ := List.nodup_cons.mp h
    have hx := k x List.mem_cons_self
    have := nodup_le (a := a) (b := b.erase x) h2 fun y hy => by
      have : y ≠ x := fun e => h1 (e ▸ hy)
      rw [List.mem_erase_of_ne this]
      exact k y (List.mem_cons_of_mem _ hy)
    rw [List.length_erase_of_mem hx] at this
    have := List.length_pos_of_mem hx
    rw [List.length_cons]; omega
theorem nodup_eq {a b : List Int} (h : a.Nodup) (k : ∀ x ∈ a, x ∈ b) (hl : b.length ≤ a.length) : ∀ x ∈ b, x ∈ a := fun x hx => by
  rcases Classical.em (x ∈ a) with z | z
  · exact z
  · have := nodup_le (a := x :: a) (b := b) (List.nodup_cons.mpr ⟨z, h⟩) fun y hy => by
      rcases List.mem_cons.mp hy with e | e
      · rw [e]; exact hx
      · exact k y e
    rw [List.length_cons] at this; omega
theorem Good.gone {s : S} (g : Good s) (t : Int) : (s.taken t).length = (s.steps t).length ↔ ∀ i ∈ s.steps t, i ∈ s.taken t := by
  refine ⟨fun h => nodup_eq (g.nt t) (g.sub t) (Nat.le_of_eq h.symm), fun h => ?_⟩
  exact Nat.le_antisymm (nodup_le (g.nt t) (g.sub t)) (nodup_le (g.ns t) h)
theorem Good.len {s : S} (g : Good s) (t : Int) : (s.taken t).length ≤ (s.steps t).length := nodup_le (g.nt t) (g.sub t)
theorem Good.steps_len {s : S} (g : Good s) (t : Int) : (s.steps t).length ≤ s.n := by
  have := nodup_le (a := s.steps t) (b := (List.range s.n).map fun (n : Nat) => (n : Int)) (g.ns t) fun x hx => by
    obtain ⟨h1, h2⟩ := g.lt t x hx
    exact List.mem_map.mpr ⟨x.toNat, List.mem_range.mpr (by omega), by omega⟩
  rwa [List.length_map, List.length_range] at this
/-- from one state to another -/
def goes (a b : Str) : Prop := (a = "new" ∧ b = "active") ∨ (a = "active" ∧ (b = "active" ∨ b = "kept" ∨ b = "dropping")) ∨ (a = "dropping" ∧ (b = "dropping" ∨ b = "gone"))
theorem Good.goes {s : S} (g : Good s) {ks : List Str} {e : Ev} (hm : s.may ks e = true) : E5.goes (s.state e.t) ((s.note e).state e.t) := by
  cases e with
  | doo t k =>
    rw [S.may, Bool.and_eq_true, Option.isNone_iff_eq_none] at hm
    have h2 : (s.note (.doo t k)).state t = "active" := by
      unfold S.state S.note
      simp only [if_true, hm.2]
      rw [if_neg (by simp)]
    show E5.goes (s.state t) ((s.note (.doo t k)).state t)
    rw [h2]
    by_cases h : s.steps t = []
    · exact .inl ⟨if_pos h, rfl⟩
    · refine .inr (.inl ⟨?_, .inl rfl⟩)
      unfold S.state
      rw [if_neg h, hm.2]
  | back t i =>
    rw [S.may, Bool.and_eq_true, Bool.and_eq_true, decide_eq_true_eq, decide_eq_true_eq, Bool.not_eq_true', decide_eq_false_iff_not] at hm
    obtain ⟨h1, h2, h3⟩ := hm
    have hne : s.steps t ≠ [] := fun z => by rw [z] at h2; exact nomatch h2
    have hlt : (s.taken t).length ≠ (s.steps t).length := fun z => h3 ((g.gone t).mp z i h2)
    refine .inr (.inr ⟨?_, ?_⟩)
    · show s.state t = "dropping"
      unfold S.state
      rw [if_neg hne, h1]
      exact if_neg hlt
    · show (s.note (.back t i)).state t = _ ∨ (s.note (.back t i)).state t = _
      unfold S.state S.note
      simp only [hne, if_false, h1, if_true]
      by_cases z : (s.taken t ++ [i]).length = (s.steps t).length
      · exact .inr (if_pos z)
      · exact .inl (if_neg z)
  | fin t b =>
    rw [S.may, Bool.and_eq_true, Option.isNone_iff_eq_none, Bool.not_eq_true', decide_eq_false_iff_not] at hm
    obtain ⟨h1, h2⟩ := hm
    refine .inr (.inl ⟨?_, .inr ?_⟩)
    · show s.state t = "active"
      unfold S.state
      rw [if_neg h1, h2]
    · show (s.note (.fin t b)).state t = _ ∨ (s.note (.fin t b)).state t = _
      have htk : s.taken t = [] := g.tk t (by rw [h2]; exact nofun)
      have hl : ¬ (([] : List Int).length = (s.steps t).length) := fun z => h1 (List.eq_nil_of_length_eq_zero z.symm)
      unfold S.state S.note
      simp only [h1, if_false, if_true, htk]
      cases b with
      | true => exact .inl rfl
      | false => exact .inr (if_neg hl)
/-! ### histories -/
def run (l : List Ev) : S := l.foldl S.note S.zero
theorem take_more {α : Type} : ∀ {l : List α} {i : Nat} {x : α}, l[i]? = some x → l.take (i + 1) = l.take i ++ [x]
  | [], i, x, h => by simp at h
  | a :: l, 0, x, h => by
    have e : a = x := Option.some.inj h
    subst e; rfl
  | a :: l, i + 1, x, h => by
    have ih := take_more (l := l) (i := i) (x := x) h
    show a :: l.take (i + 1) = a :: l.take i ++ [x]
    rw [ih]; rfl
theorem run_snoc (l : List Ev) (e : Ev) : run (l ++ [e]) = (run l).note e := by
  unfold run
  rw [List.foldl_append]; rfl
theorem run_more {l : List Ev} {i : Nat} {e : Ev} (h : l[i]? = some e) : run (l.take (i + 1)) = (run (l.take i)).note e := by
  rw [take_more h, run_snoc]
def Valid (ks : List Str) (l : List Ev) : Prop := ∀ i e, l[i]? = some e → e.ok ∧ (run (l.take i)).may ks e = true
theorem Valid.nil {ks : List Str} : Valid ks [] := fun i e h => by simp at h
theorem Valid.take {ks : List Str} {l : List Ev} (h : Valid ks l) (n : Nat) : Valid ks (l.take n) := fun i e hi => by
  rw [List.getElem?_take] at hi
  by_cases z : i < n
  · rw [if_pos z] at hi
    rw [List.take_take, Nat.min_eq_left (Nat.le_of_lt z)]
    exact h i e hi
  · rw [if_neg z] at hi; cases hi
theorem Valid.snoc {ks : List Str} {l : List Ev} (h : Valid ks l) {e : Ev} (ho : e.ok) (hm : (run l).may ks e = true) : Valid ks (l ++ [e]) := fun i e' hi => by
  rcases Nat.lt_trichotomy i l.length with z | z | z
  · rw [List.getElem?_append_left z] at hi
    rw [List.take_append_of_le_length (Nat.le_of_lt z)]
    exact h i e' hi
  · subst z
    rw [List.getElem?_append_right (Nat.le_refl _), Nat.sub_self] at hi
    cases hi
    rw [List.take_left]
    exact ⟨ho, hm⟩
  · rw [List.getElem?_eq_none (by rw [List.length_append, List.length_singleton]; omega)] at hi
    cases hi
theorem Valid.good {ks : List Str} : ∀ {l : List Ev}, Valid ks l → Good (run l) := fun {l} h => by
  have key : ∀ n, n ≤ l.length → Good (run (l.take n)) := fun n => by
    induction n with
    | zero => exact fun _ => Good.zero
    | succ n ih =>
      intro hn
      obtain ⟨ho, hm⟩ := h n l[n] (List.getElem?_eq_getElem hn)
      rw [run_more (List.getElem?_eq_getElem hn)]
      exact (ih (Nat.le_of_lt hn)).note hm ho
  have := key l.length (Nat.le_refl _)
  rwa [List.take_length] at this
theorem S.note_n (s : S) (e : Ev) : (s.note e).n = s.n + 1 := by
  cases e <;> rfl
theorem run_n (l : List Ev) : (run l).n = l.length := by
  have key : ∀ n, n ≤ l.length → (run (l.take n)).n = n := fun n => by
    induction n with
    | zero => exact fun _ => rfl
    | succ n ih =>
      intro hn
      rw [run_more (List.getElem?_eq_getElem hn), S.note_n, ih (Nat.le_of_lt hn)]
  have := key l.length (Nat.le_refl _)
  rwa [List.take_length] at this
end E5
set_option Elab.async false
set_option linter.all false
set_option maxRecDepth 100000
set_option maxHeartbeats 4000000
namespace E5
open PySem PySem.Spec PyProof.Rows L2 Evl Y
def topS (i : Nat) : Stmt := PySem.Challenge.pw_eachcut_k06_whole_words_at_every_cut.main.body.getD i (.Pass ⟨0, 0, 0, 0⟩)
abbrev sDeck : Stmt := topS 32
abbrev sDraw : Stmt := topS 33
theorem scDeck : FnScope ["_law_script", "_law_mixed", "_law_cell"] ["_law_script"] (defScope sDeck) := ⟨rfl, rfl, rfl, by decide +kernel, rfl, by decide +kernel, by decide +kernel⟩
theorem scDraw : FnScope ["_law_deck_here", "_law_below", "_law_figure", "_law_cell"] ["_law_deck_here", "_law_below"] (defScope sDraw) := ⟨rfl, rfl, rfl, by decide +kernel, rfl, by decide +kernel, by decide +kernel⟩
/-- the deck's dict -/
abbrev dks (lf : Addr) (m t : Int) : List (Key × V) := [(Sum.inr "left", .ref lf), (Sum.inr "mixed", .int m), (Sum.inr "turn", .int t)]
theorem lm_ : ¬ (("left" : Str) = "mixed") := by decide +kernel
theorem lt_ : ¬ (("left" : Str) = "turn") := by decide +kernel
theorem mt_ : ¬ (("mixed" : Str) = "turn") := by decide +kernel
theorem dk_left (lf : Addr) (m t : Int) : valV (dks lf m t) (Sum.inr "left") = some (.ref lf) := by rfl
theorem dk_mixed (lf : Addr) (m t : Int) : valV (dks lf m t) (Sum.inr "mixed") = some (.int m) := by
  rw [valV_neg (by intro q; exact lm_ (Sum.inr.inj q)), valV_pos rfl]
theorem dk_turn (lf : Addr) (m t : Int) : valV (dks lf m t) (Sum.inr "turn") = some (.int t) := by
  rw [valV_neg (by intro q; exact lt_ (Sum.inr.inj q)), valV_neg (by intro q; exact mt_ (Sum.inr.inj q)), valV_pos rfl]
end E5
set_option Elab.async false
set_option linter.all false
set_option maxRecDepth 100000
set_option maxHeartbeats 4000000
namespace E5
open PySem PySem.Spec PyProof.Rows L2 Evl Y
theorem put_turn (lf : Addr) (m t t' : Int) : putK (dks lf m t) (Sum.inr "turn") (.int t') = dks lf m t' := by
  unfold putK dks
  have h1 : ¬ ((Sum.inr ("left" : Str) : Key) = (Sum.inr ("turn" : Str) : Key)) := fun q => lt_ (Sum.inr.inj q)
  have h2 : ¬ ((Sum.inr ("mixed" : Str) : Key) = (Sum.inr ("turn" : Str) : Key)) := fun q => mt_ (Sum.inr.inj q)
  simp only [List.any_cons, List.any_nil, List.map_cons, List.map_nil, h1, h2, decide_false, decide_true, Bool.false_or, Bool.or_false, if_true, if_false]
theorem put_mixed (lf : Addr) (m t m' : Int) : putK (dks lf m t) (Sum.inr "mixed") (.int m') = dks lf m' t := by
  unfold putK dks
  have h1 : ¬ ((Sum.inr ("left" : Str) : Key) = (Sum.inr ("mixed" : Str) : Key)) := fun q => lm_ (Sum.inr.inj q)
  have h2 : ¬ ((Sum.inr ("turn" : Str) : Key) = (Sum.inr ("mixed" : Str) : Key)) := fun q => mt_ (Sum.inr.inj q).symm
  simp only [List.any_cons, List.any_nil, List.map_cons, List.map_nil, h1, h2, decide_false, decide_true, Bool.false_or, Bool.or_false, Bool.true_or, if_true, if_false]
section
variable {P : Program} {w : World} {K : PySem.W.Frag} {mg : Str → Option Value} {base : Heap}
/-- what _law_draw does to a deck: the rest stays -/
def spDraw0 : Sp := fun vs H Q _ => ∃ (dk lf : Addr) (m t b : Int) (left : List Int), vs = [.ref dk, .int b] ∧ H dk = some (.dK (dks lf m t)) ∧ H lf = some (.lst (left.map V.int)) ∧ 0 ≤ m ∧ m < 2147483647 ∧ left.length ≤ 63 ∧ 1 ≤ b ∧ b < 1073741824 ∧
  ∀ (r m' t' : Int) (left' : List Int) (H' : Hp), 0 ≤ r → r < b → 0 ≤ m' → m' < 2147483647 → left'.length ≤ 63 → Ex (upd (upd H dk (.dK (dks lf m' t'))) lf (.lst (left'.map V.int))) H' → Q (.int r) H'
theorem ok_draw0 {f : Addr} {fd : FuncData} {k : Nat} (F : Fun K "_law_draw" "_law_draw" sDraw f fd) (mi : mg "int" = none) (mm : mg "max" = none) : FnOk P w K mg base CX0 (k + 1) f fd ["_law_deck_here", "_law_below"] spDraw0 := by
  refine F.ok scDraw (fun vs H Q E h => ?_) (fun cdv A outer s H vs Q E hr h => ?_)
  · obtain ⟨dk, lf, m, t, b, left, rfl, _⟩ := h
    rfl
  · obtain ⟨dk, lf, m, t, b, left, rfl, hd, hl, hm0, hm1, hlen, hb1, hb2, q⟩ := h
    have hu := hu_of hr
    have nd := scDraw.nd
    have ndl : dk ≠ lf := ne_of hd hl (fun z => nomatch z)
    refine ⟨_, pss_sem, ?_⟩
    suffices G : RX (cxOf CX0 P w K mg base ["_law_deck_here", "_law_below", "_law_figure", "_law_cell"] "_law_draw" (defScope sDraw) f cdv A outer s H E).nox (defBody sDraw) { nx := fun _ H' => Q .non H', rt := Q } [some (.ref dk), some (.int b), none, none] H from G H (Ex.refl H)
    -- deck['turn'] = deck['turn'] + 1
    refine rx_dputS hu (ev_add (ev_dgetS hu (ev_nm 0) ev_s hd (dk_turn _ _ _)) ev_i) (ev_nm 0) ev_s hd (by show 3 < 100000; decide) ?_
    rw [put_turn]
    generalize eH : upd H dk (.dK (dks lf m (t + 1))) = Ha
    have hda : Ha dk = some (.dK (dks lf m (t + 1))) := by rw [← eH]; exact upd_same
    have hla : Ha lf = some (.lst (left.map V.int)) := by rw [← eH, upd_ne (Ne.symm ndl)]; exact hl
    -- figure = deck['mixed'] + 70001 * deck['turn']
    refine rx_set 2 (ev_add (ev_dgetS hu (ev_nm 0) ev_s hda (dk_mixed _ _ _)) (ev_mul ev_i (ev_dgetS hu (ev_nm 0) ev_s hda (dk_turn _ _ _)) (.inl ⟨by decide, by decide⟩))) ?_ nd
    have tail : ∀ (m' fg : Int) (left' : List Int) (cl : Option V) (Hb : Hp), 0 ≤ m' → m' < 2147483647 → left'.length ≤ 63 → Hb = upd (upd H dk (.dK (dks lf m' (t + 1)))) lf (.lst (left'.map V.int)) →
        RX (cxOf CX0 P w K mg base ["_law_deck_here", "_law_below", "_law_figure", "_law_cell"] "_law_draw" (defScope sDraw) f cdv A outer s H E).nox ((defBody sDraw).drop 3) { nx := fun _ H' => Q .non H', rt := Q } [some (.ref dk), some (.int b), some (.int fg), cl] Hb := by
      intro m' fg left' cl Hb b1 b2 b3 eb
      refine rx_set 2 (ev_mod (ev_int rfl (by rfl) mi (ev_add (ev_mul (ev_nm 2) ev_i (.inr ⟨by decide, by decide⟩)) ev_i)) ev_i (by decide)) ?_ nd
      refine rx_set 2 (ev_mod (ev_int rfl (by rfl) mi (ev_add (ev_add (ev_mul (ev_nm 2) (ev_nm 2) (.inl ?_)) (ev_mul ev_i (ev_dgetS hu (ev_nm 0) ev_s (by rw [eb, upd_ne ndl]; exact upd_same) (dk_turn _ _ _)) (.inl ⟨by decide, by decide⟩))) ev_i)) ev_i (by decide)) ?_ nd
      · have h1 := Int.emod_nonneg (fg * 69621 + 17) (show (2147483629 : Int) ≠ 0 by decide)
        have h2 := Int.emod_lt_of_pos (fg * 69621 + 17) (show (0 : Int) < 2147483629 by decide)
        exact ⟨by omega, by omega⟩
      refine rx_set 2 (ev_mod (ev_int rfl (by rfl) mi (ev_add (ev_mul (ev_nm 2) ev_i (.inr ⟨by decide, by decide⟩)) ev_i)) ev_i (by decide)) ?_ nd
      refine rx_ret (ev_mod (ev_int rfl (by rfl) mi (ev_div (ev_nm 2) ev_i ⟨by decide, by decide⟩)) (ev_nm 1) (by omega)) fun H1 e1 => ?_
      exact q _ m' (t + 1) left' H1 (Int.emod_nonneg _ (by omega)) (Int.emod_lt_of_pos _ (by omega)) b1 b2 b3 (eb ▸ e1)
    -- if deck['left'] != []
    refine rx_when (tn_neNil (ns := left) (by have := hr.units; exact this) (ev_dgetS hu (ev_nm 0) ev_s hda (dk_left _ _ _)) (sq_of hla)) (fun hne => ?_) fun he => ?_
    · obtain ⟨ys, y, rfl⟩ : ∃ ys y, left = ys ++ [y] := by
        rcases List.eq_nil_or_concat left with z | ⟨ys, y, z⟩
        · rw [z] at hne; cases hne
        · exact ⟨ys, y, by rw [z, List.concat_eq_append]⟩
      have hla' : Ha lf = some (.lst (ys.map V.int ++ [V.int y])) := by rw [hla, List.map_append]; rfl
      rw [List.length_append, List.length_singleton] at hlen
      -- cell = deck['left'].pop()
      refine rx_setM 3 (em_pop (ev_dgetS hu (ev_nm 0) ev_s hda (dk_left _ _ _)) hla' ?_) nd
      generalize eHb : upd Ha lf (.lst (ys.map V.int)) = Hb
      have hdb : Hb dk = some (.dK (dks lf m (t + 1))) := by rw [← eHb, upd_ne ndl]; exact hda
      have hlb : Hb lf = some (.lst (ys.map V.int)) := by rw [← eHb]; exact upd_same
      refine rx_when (tn_ge (ev_nm 3) (ev_pow ev_i ev_i ⟨by decide, by decide, by decide⟩)) (fun hbig => ?_) fun hbig => ?_
      · refine rx_exprM (em_appendV (ev_dgetS hu (ev_nm 0) ev_s hdb (dk_left _ _ _)) (ev_div (ev_nm 3) (ev_max2 rfl (by rfl) mm ev_i (ev_nm 1)) ?_) hlb (by rw [List.length_map]; omega) ?_)
        · refine ⟨?_, ?_⟩
          · split <;> omega
          · split <;> omega
        refine rx_ret (ev_mod (ev_int rfl (by rfl) mi (ev_nm 3)) (ev_nm 1) (by omega)) fun H1 e1 => ?_
        refine q _ m (t + 1) (ys ++ [y.fdiv (if b > 2 then b else 2)]) H1 (Int.emod_nonneg _ (by omega)) (Int.emod_lt_of_pos _ (by omega)) hm0 hm1 (by rw [List.length_append, List.length_singleton]; omega) ?_
        rw [← eHb, ← eH] at e1
        intro a o ha
        refine e1 a o ?_
        rw [← ha, List.map_append]
        by_cases h1 : a = lf
        · subst h1; rw [upd_same, upd_same]; rfl
        · rw [upd_ne h1, upd_ne h1, upd_ne h1]
      · -- deck['mixed'] = ..
        refine rx_dputS hu (ev_mod (ev_int rfl (by rfl) mi (ev_add (ev_add (ev_mul (ev_dgetS hu (ev_nm 0) ev_s hdb (dk_mixed _ _ _)) ev_i (.inr ⟨by decide, by decide⟩)) (ev_mod (ev_int rfl (by rfl) mi (ev_nm 3)) ev_i (by decide))) ev_i)) ev_i (by decide)) (ev_nm 0) ev_s hdb (by show 3 < 100000; decide) ?_
        rw [put_mixed]
        refine rx_set 2 (ev_add (ev_nm 2) (ev_mod (ev_int rfl (by rfl) mi (ev_nm 3)) ev_i (by decide))) ?_ nd
        refine rx_out rfl (tail ((m * 16807 + y % 2147483587 + 3) % 2147483647) _ ys _ _ (Int.emod_nonneg _ (by decide)) (Int.emod_lt_of_pos _ (by decide)) (by omega) ?_)
        rw [← eHb, ← eH]
        funext a
        by_cases h1 : a = lf
        · subst h1; rw [upd_ne (Ne.symm ndl), upd_same, upd_same]
        · rw [upd_ne h1]
          by_cases h2 : a = dk
          · subst h2; rw [upd_same, upd_same]
          · rw [upd_ne h2, upd_ne h1, upd_ne h2, upd_ne h2]
    · obtain rfl : left = [] := by
        cases left with
        | nil => rfl
        | cons x r => cases he
      refine tail m _ [] _ _ hm0 hm1 (Nat.zero_le _) ?_
      funext a
      rw [← eH]
      by_cases h1 : a = lf
      · subst h1; rw [upd_same, upd_ne (Ne.symm ndl)]; exact hl
      · rw [upd_ne h1]
end
end E5
set_option Elab.async false
set_option linter.all false
set_option maxRecDepth 100000
set_option maxHeartbeats 4000000
namespace E5
open PySem PySem.Spec PyProof.Rows L2 Evl Y
/-- the deck seen from outside: something to draw from -/
def phiD (P : Program) (w : World) (dk lf : Addr) : Heap → Prop := fun h => ∃ m t : Int, 0 ≤ m ∧ m < 2147483647 ∧ ObjOk P w (fun _ => none) h dk (.dK (dks lf m t))
def phiL (P : Program) (w : World) (lf : Addr) : Heap → Prop := fun h => ∃ left : List Int, left.length ≤ 63 ∧ ObjOk P w (fun _ => none) h lf (.lst (left.map V.int))
def Deck (P : Program) (w : World) (H : Hp) (dk : Addr) : Prop := ∃ lf, H dk = some (.ext (phiD P w dk lf)) ∧ H lf = some (.ext (phiL P w lf)) ∧ dk ≠ lf
theorem Deck.mono {P : Program} {w : World} {H H' : Hp} {dk : Addr} (h : Deck P w H dk) (e : Ex H H') : Deck P w H' dk := let ⟨lf, a, b, c⟩ := h; ⟨lf, e _ _ a, e _ _ b, c⟩
theorem objOk_dK {P : Program} {w : World} {H H' : Hp} {h : Heap} {a : Addr} {kvs : List (Key × V)} (x : ObjOk P w H h a (.dK kvs)) : ObjOk P w H' h a (.dK kvs) := x
theorem objOk_lst {P : Program} {w : World} {H H' : Hp} {h : Heap} {a : Addr} {xs : List V} (x : ObjOk P w H h a (.lst xs)) : ObjOk P w H' h a (.lst xs) := x
theorem ext_D {P : Program} {w : World} {H H' : Hp} {h : Heap} {dk lf : Addr} {m t : Int} (h0 : 0 ≤ m) (h1 : m < 2147483647) (x : ObjOk P w H h dk (.dK (dks lf m t))) : ObjOk P w H' h dk (.ext (phiD P w dk lf)) := by
  refine ⟨⟨m, t, h0, h1, x⟩, ?_, fun g1 g2 ⟨m', t', a, b, y⟩ k => ⟨m', t', a, b, ?_⟩⟩
  · obtain ⟨_, _, _, _, o, _, _, e, _⟩ := x
    exact ⟨o, e⟩
  · obtain ⟨z, y0, vs, r, ob, es, ep, e, c⟩ := y
    exact ⟨z, y0, vs, r, ob, es, ep, k _ e, c⟩
theorem ext_L {P : Program} {w : World} {H H' : Hp} {h : Heap} {lf : Addr} {left : List Int} (h0 : left.length ≤ 63) (x : ObjOk P w H h lf (.lst (left.map V.int))) : ObjOk P w H' h lf (.ext (phiL P w lf)) := by
  refine ⟨⟨left, h0, x⟩, ?_, fun g1 g2 ⟨l', a, y⟩ k => ⟨l', a, ?_⟩⟩
  · obtain ⟨_, _, _, _, e⟩ := x
    exact ⟨_, e⟩
  · obtain ⟨z, its, n, r, e⟩ := y
    exact ⟨z, its, n, r, k _ e⟩
def spDraw (P : Program) (w : World) : Sp := fun vs H Q _ => ∃ (dk : Addr) (b : Int), vs = [.ref dk, .int b] ∧ Deck P w H dk ∧ 1 ≤ b ∧ b < 1073741824 ∧ ∀ (r : Int) (H' : Hp), 0 ≤ r → r < b → Ex H H' → Q (.int r) H'
section
variable {P : Program} {w : World} {K : PySem.W.Frag} {mg : Str → Option Value} {base : Heap}
/-- two abstract heaps that differ in what they say of tracked things alone -/
theorem hok_swap {H H1 : Hp} {h : Heap} (ok : HOk P w H h) (own : ∀ b y, H b = some (.own y) → H1 b = some (.own y)) (tup : ∀ b xs, H b = some (.tup xs) → H1 b = some (.tup xs)) (k : ∀ b o, H1 b = some o → H b = some o ∨ ObjOk P w H1 h b o) : HOk P w H1 h := fun a o e => by
  rcases k a o e with q | q
  · exact (ok a o q).stay (fun b u _ z => z) (fun b z => own b _ z) tup
  · exact q
theorem draw_ext {f : Addr} {fd : FuncData} {k : Nat} (F : FnOk P w K mg base CX0 k f fd ["_law_deck_here", "_law_below"] spDraw0) : FnOk P w K mg base CX0 k f fd ["_law_deck_here", "_law_below"] (spDraw P w) := by
  refine ⟨fun vs H Q E h => ?_, fun A outer s H args us vs Q E hr e0 hb hv hs => ?_⟩
  · obtain ⟨dk, b, rfl, _⟩ := h
    rfl
  · obtain ⟨dk, b, rfl, ⟨lf, hd, hl, ne⟩, b1, b2, q⟩ := hs
    obtain ⟨⟨m, t, hm0, hm1, od⟩, _, _⟩ := e0.hok dk _ hd
    obtain ⟨⟨left, hlen, ol⟩, _, _⟩ := e0.hok lf _ hl
    have n1 : ∀ a, H a = none → a ≠ dk ∧ a ≠ lf := fun a z => ⟨fun y => (by rw [y, hd] at z; cases z), fun y => (by rw [y, hl] at z; cases z)⟩
    have at1 : ∀ a, a ≠ dk → a ≠ lf → (upd (upd H dk (.dK (dks lf m t))) lf (.lst (left.map V.int))) a = H a := fun a h1 h2 => by rw [upd_ne h2, upd_ne h1]
    have kd : ∀ b o, H b = some o → (∀ φ, o ≠ .ext φ) → b ≠ dk ∧ b ≠ lf := fun b o z no => ⟨fun y => (by rw [y, hd] at z; exact no _ (Option.some.inj z).symm), fun y => (by rw [y, hl] at z; exact no _ (Option.some.inj z).symm)⟩
    have ok1 : HOk P w (upd (upd H dk (.dK (dks lf m t))) lf (.lst (left.map V.int))) s.heap := by
      refine hok_swap e0.hok (fun b y z => ?_) (fun b y z => ?_) fun b o z => ?_
      · obtain ⟨x1, x2⟩ := kd b _ z (fun φ => nofun)
        rw [at1 b x1 x2]; exact z
      · obtain ⟨x1, x2⟩ := kd b _ z (fun φ => nofun)
        rw [at1 b x1 x2]; exact z
      · by_cases x2 : b = lf
        · subst x2; rw [upd_same] at z; cases z; exact .inr ol
        · by_cases x1 : b = dk
          · subst x1; rw [upd_ne x2, upd_same] at z; cases z; exact .inr od
          · rw [at1 b x1 x2] at z; exact .inl z
    have e1 : Env0 P w K mg base A outer s (upd (upd H dk (.dK (dks lf m t))) lf (.lst (left.map V.int))) := ⟨e0.frames, e0.mod, fun b o z => ⟨(e0.bs b o z).1, by rw [at1 b (n1 b (e0.bs b o z).2).1 (n1 b (e0.bs b o z).2).2]; exact (e0.bs b o z).2⟩, e0.bsz, e0.funs, fun b z => by rw [at1 b (n1 b (e0.frf b z)).1 (n1 b (e0.frf b z)).2]; exact e0.frf b z, ok1, e0.bare⟩
    refine codeAny_mono (F.run A outer s _ args us _ (fun v H' => v = v ∧ ∃ r : Int, v = .int r ∧ 0 ≤ r ∧ r < b ∧ ∃ (m' t' : Int) (left' : List Int), 0 ≤ m' ∧ m' < 2147483647 ∧ left'.length ≤ 63 ∧ Ex (upd (upd H dk (.dK (dks lf m' t'))) lf (.lst (left'.map V.int))) H') E hr e1 hb hv
      ⟨dk, lf, m, t, b, left, rfl, by rw [upd_ne ne, upd_same], upd_same, hm0, hm1, hlen, b1, b2, fun r m' t' left' H' r0 r1 a0 a1 a2 ex => ⟨rfl, r, rfl, r0, r1, m', t', left', a0, a1, a2, fun a o z => ex a o ?_⟩⟩) fun r s' hq => ?_
    · by_cases x2 : a = lf
      · subst x2; rw [upd_same] at z ⊢; exact z
      · rw [upd_ne x2] at z ⊢
        by_cases x1 : a = dk
        · subst x1; rw [upd_same] at z ⊢; exact z
        · rw [upd_ne x1] at z ⊢; rw [upd_ne x2, upd_ne x1]; exact z
    · cases r with
      | error e => exact hq
      | ok fl =>
        cases fl with
        | ret u =>
          obtain ⟨v, H', os, bare, un, hok, rv, -, r, rfl, r0, r1, m', t', left', a0, a1, a2, ex⟩ := hq
          have hD := hok dk _ (ex dk _ (by rw [upd_ne ne, upd_same]))
          have hL := hok lf _ (ex lf _ upd_same)
          have at2 : ∀ a, a ≠ dk → a ≠ lf → (upd (upd H' dk (.ext (phiD P w dk lf))) lf (.ext (phiL P w lf))) a = H' a := fun a h1 h2 => by rw [upd_ne h2, upd_ne h1]
          have exH : Ex H (upd (upd H' dk (.ext (phiD P w dk lf))) lf (.ext (phiL P w lf))) := fun a o z => by
            by_cases x2 : a = lf
            · subst x2; rw [upd_same, ← hl]; exact z
            · by_cases x1 : a = dk
              · subst x1; rw [upd_ne x2, upd_same, ← hd]; exact z
              · rw [at2 a x1 x2]; exact ex a o (by rw [upd_ne x2, upd_ne x1]; exact z)
          have kd2 : ∀ b o, H' b = some o → (∀ kvs, o ≠ .dK kvs) → (∀ xs, o ≠ .lst xs) → b ≠ dk ∧ b ≠ lf := fun b o z n1 n2 => ⟨fun y => by rw [y, ex dk _ (by rw [upd_ne ne, upd_same])] at z; exact n1 _ (Option.some.inj z).symm, fun y => by rw [y, ex lf _ upd_same] at z; exact n2 _ (Option.some.inj z).symm⟩
          refine ⟨.int r, _, os, bare, ⟨fun b o z n hb hx => un.keep b o z (by rw [at1 b (n1 b n).1 (n1 b n).2]; exact n) hb hx, fun b o z n hb hx => un.slot b o z (by rw [at1 b (n1 b n).1 (n1 b n).2]; exact n) hb hx,
            fun b o z n hx => by rw [at2 b (n1 b n).1 (n1 b n).2]; exact un.free b o z (by rw [at1 b (n1 b n).1 (n1 b n).2]; exact n) hx, fun b o z hx => un.there b o z hx, fun b xs z => exH b _ z, fun b o u z => exH b _ z, fun b ps z => ⟨#[], by rw [exH b _ z]; simp⟩⟩, ?_, rv, q r _ r0 r1 exH⟩
          refine hok_swap hok (fun b y z => ?_) (fun b y z => ?_) fun b o z => ?_
          · obtain ⟨x1, x2⟩ := kd2 b _ z (fun _ => nofun) (fun _ => nofun)
            rw [at2 b x1 x2]; exact z
          · obtain ⟨x1, x2⟩ := kd2 b _ z (fun _ => nofun) (fun _ => nofun)
            rw [at2 b x1 x2]; exact z
          · by_cases x2 : b = lf
            · subst x2; rw [upd_same] at z; cases z; exact .inr (ext_L a2 hL)
            · by_cases x1 : b = dk
              · subst x1; rw [upd_ne x2, upd_same] at z; cases z; exact .inr (ext_D a0 a1 hD)
              · rw [at2 b x1 x2] at z; exact .inl z
        | next => exact hq
        | brk => exact hq
        | cont => exact hq
end
end E5
set_option Elab.async false
set_option linter.all false
set_option maxRecDepth 100000
set_option maxHeartbeats 4000000
namespace E5
open PySem PySem.Spec PyProof.Rows L2 Evl Y
theorem cut63 {ns : List Int} (h : ns.length ≤ 63) : cutV (ns.map V.int) none (some 63) = ns.map V.int := cutV_all rfl (by
  show min 63 (ns.map V.int).length = _
  rw [List.length_map]; omega)
theorem mk_deck (x1 x2 x3 : V) : mergeK [] [((Sum.inr ("left" : Str) : Key), x1), (Sum.inr "mixed", x2), (Sum.inr "turn", x3)] = [((Sum.inr ("left" : Str) : Key), x1), (Sum.inr "mixed", x2), (Sum.inr "turn", x3)] := by
  have h1 : ¬ ((Sum.inr ("left" : Str) : Key) = (Sum.inr ("mixed" : Str) : Key)) := fun q => lm_ (Sum.inr.inj q)
  have h2 : ¬ ((Sum.inr ("left" : Str) : Key) = (Sum.inr ("turn" : Str) : Key)) := fun q => lt_ (Sum.inr.inj q)
  have h3 : ¬ ((Sum.inr ("mixed" : Str) : Key) = (Sum.inr ("turn" : Str) : Key)) := fun q => mt_ (Sum.inr.inj q)
  simp only [mergeK, List.foldl_cons, List.foldl_nil, putK, List.any_cons, List.any_nil, List.nil_append, List.cons_append, h1, h2, h3, decide_false, Bool.or_false, Bool.false_eq_true, if_false]
section
variable {P : Program} {w : World} {K : PySem.W.Frag} {mg : Str → Option Value} {base : Heap}
def spDeck0 (K : PySem.W.Frag) : Sp := fun vs H Q _ => ∃ (a : Addr) (ns : List Int), vs = [.ref a] ∧ SqL K H a (ns.map V.int) ∧ ns.length ≤ 63 ∧
  ∀ (dk lf : Addr) (m : Int) (left : List Int) (H' : Hp), H dk = none → H lf = none → dk ≠ lf → Ex H H' → H' dk = some (.dK (dks lf m 0)) → H' lf = some (.lst (left.map V.int)) → 0 ≤ m → m < 2147483647 → left.length ≤ 63 → Q (.ref dk) H'
theorem ok_deck0 {f : Addr} {fd : FuncData} {k : Nat} (F : Fun K "_law_deck" "_law_deck" sDeck f fd) (mi : mg "int" = none) : FnOk P w K mg base CX0 (k + 1) f fd ["_law_script"] (spDeck0 K) := by
  refine F.ok scDeck (fun vs H Q E h => ?_) (fun cdv A outer s H vs Q E hr h => ?_)
  · obtain ⟨a, ns, rfl, _⟩ := h
    rfl
  · obtain ⟨a, ns, rfl, hx, hlen, q⟩ := h
    have hu := hu_of hr
    have nd := scDeck.nd
    refine ⟨_, pss_sem, ?_⟩
    suffices G : RX (cxOf CX0 P w K mg base ["_law_script", "_law_mixed", "_law_cell"] "_law_deck" (defScope sDeck) f cdv A outer s H E).nox (defBody sDeck) { nx := fun _ H' => Q .non H', rt := Q } [some (.ref a), none, none] H from G H (Ex.refl H)
    refine rx_set 1 ev_i ?_ nd
    refine rx_forN 2 PassesOwn.never rfl (en_slL (ev_nm 0) hx ov_n (ov_s ev_i)) (fun v H2 e2 hv => ?_) nd
    obtain ⟨r, rfl, hr0, hr1⟩ := hv
    rw [cut63 hlen] at hr1
    refine ⟨r, ns.map V.int, fun n σ' Hb => ∃ (m : Int) (c : Option V), σ' = [some (.ref a), some (.int m), c] ∧ 0 ≤ m ∧ m < 2147483647 ∧ Hb = H2, rfl, sq_of hr1, ⟨1440506, none, rfl, by decide, by decide, rfl⟩, fun n σ' Hb _ ⟨m, c, _, _, _, eb⟩ => eb ▸ sq_of hr1, fun n x σ' Hb hx' ⟨m, c, es, m0, m1, eb⟩ => ?_, fun σ' Hb ⟨m, c, es, m0, m1, eb⟩ => ?_⟩
    · subst es eb
      obtain ⟨u, rfl⟩ : ∃ u, x = V.int u := by
        rw [List.getElem?_map] at hx'
        obtain ⟨u, _, e⟩ := Option.map_eq_some_iff.mp hx'
        exact ⟨u, e.symm⟩
      refine rx_set 1 (ev_mod (ev_int rfl (by rfl) mi (ev_add (ev_add (ev_mul (ev_nm 1) ev_i (.inr ⟨by decide, by decide⟩)) (ev_mod (ev_int rfl (by rfl) mi (ev_nm 2)) ev_i (by decide))) ev_i)) ev_i (by decide)) ?_ nd
      exact rx_up rfl ⟨_, _, rfl, Int.emod_nonneg _ (by decide), Int.emod_lt_of_pos _ (by decide), rfl⟩
    · subst es eb
      have hx2 : SqL K Hb a (ns.map V.int) := ex_l e2 hx
      refine rx_retM (em_disp3 (en_rev (xs := (ns.take (ns.map V.int).length).map V.int) (EN.weak (en_lcL (own := [("_law_cell", 2)]) (xs := ns.map V.int) 2 rfl nd (blkOk_by (N := ["_law_script", "_law_mixed", "_law_cell"]) (sc := defScope sDeck) (by decide +kernel)) ?_ (by rw [List.length_map]; omega) (fun _ _ _ _ _ => pg_name (i := 2) nd rfl (Or.inl rfl)) (fun v => rfl)
        (fun n acc _ => acc = (ns.take n).map V.int) (fun _ _ _ _ _ z => z) rfl (fun n x acc Hc s' H' C cl fp hn ec z => ?_)) ?_)) (ev_nm 1) ev_i mk_deck (fun p x1 x2 x3 Ha Hb' Hc hp ea f1 eb f2 ec f3 H1 e1 => ?_))
      · refine (en_slL (ev_nm 0) hx2 ov_n (ov_s ev_i)).weak fun v H3 e3 ⟨r', er, _, h3⟩ => ⟨r', er, ?_⟩
        rw [cut63 hlen] at h3
        exact sq_of h3
      · obtain ⟨u, rfl⟩ : ∃ u, x = V.int u := by
          rw [List.getElem?_map] at hn
          obtain ⟨u, _, e⟩ := Option.map_eq_some_iff.mp hn
          exact ⟨u, e.symm⟩
        refine (ev_int rfl (by rfl) mi (ev_nm 2)).weak fun v H3 _ ev => ?_
        rw [ev, z]
        rw [List.getElem?_map] at hn
        obtain ⟨u', g, e⟩ := Option.map_eq_some_iff.mp hn
        cases e
        rw [List.take_add_one, g, List.map_append]; rfl
      · intro v H3 e3 ⟨D, acc, ev, hD, h3, _, z⟩
        exact (⟨D, ev, hD, z ▸ h3⟩ : NL Hb ((ns.take (ns.map V.int).length).map V.int) v H3)
      · obtain ⟨lf, rfl, hlf0, hlf⟩ := f1
        subst f2 f3
        have h1 : Hc lf = some (.lst ((ns.take (ns.map V.int).length).map V.int).reverse) := (eb.trans ec) _ _ hlf
        have hpc : Hc p = some (.dK []) := ((ea.trans eb).trans ec) _ _ upd_same
        have npl : p ≠ lf := ne_of hpc h1 (fun z => nomatch z)
        rw [List.length_map, List.take_length, ← List.map_reverse] at h1
        refine q p lf m ns.reverse H1 (fresh_back e2 hp) (fresh_back e2 hlf0) npl ?_ (e1 _ _ upd_same) (e1 _ _ (by rw [upd_ne (Ne.symm npl)]; exact h1)) m0 m1 (by rw [List.length_reverse]; exact hlen)
        intro u o hu'
        refine e1 u o ?_
        have nup : u ≠ p := ne_of_none (e2 _ _ hu') hp
        rw [upd_ne nup]
        exact ((ea.trans eb).trans ec) u o (by rw [upd_ne nup]; exact e2 _ _ hu')
end
end E5
set_option Elab.async false
set_option linter.all false
set_option maxRecDepth 100000
set_option maxHeartbeats 4000000
namespace E5
open PySem PySem.Spec PyProof.Rows L2 Evl Y
abbrev sPick : Stmt := topS 34
theorem scPick : FnScope ["_law_deck_here", "_law_some"] ["_law_deck_here", "_law_some"] (defScope sPick) := ⟨rfl, rfl, rfl, by decide +kernel, rfl, by decide +kernel, by decide +kernel⟩
section
variable {P : Program} {w : World} {K : PySem.W.Frag} {mg : Str → Option Value} {base : Heap}
def spDeck (P : Program) (w : World) (K : PySem.W.Frag) : Sp := fun vs H Q _ => ∃ (a : Addr) (ns : List Int), vs = [.ref a] ∧ SqL K H a (ns.map V.int) ∧ ns.length ≤ 63 ∧ ∀ (dk : Addr) (H' : Hp), Deck P w H' dk → Ex H H' → Q (.ref dk) H'
theorem deck_ext {f : Addr} {fd : FuncData} {k : Nat} (F : FnOk P w K mg base CX0 k f fd ["_law_script"] (spDeck0 K)) : FnOk P w K mg base CX0 k f fd ["_law_script"] (spDeck P w K) := by
  refine ⟨fun vs H Q E h => ?_, fun A outer s H args us vs Q E hr e0 hb hv hs => ?_⟩
  · obtain ⟨a, ns, rfl, _⟩ := h
    rfl
  · obtain ⟨a, ns, rfl, hx, hlen, q⟩ := hs
    refine codeAny_mono (F.run A outer s H args us _ (fun v H' => ∃ (dk lf : Addr) (m : Int) (left : List Int), v = .ref dk ∧ H dk = none ∧ H lf = none ∧ dk ≠ lf ∧ Ex H H' ∧ H' dk = some (.dK (dks lf m 0)) ∧ H' lf = some (.lst (left.map V.int)) ∧ 0 ≤ m ∧ m < 2147483647 ∧ left.length ≤ 63) E hr e0 hb hv
      ⟨a, ns, rfl, hx, hlen, fun dk lf m left H' h1 h2 h3 h4 h5 h6 h7 h8 h9 => ⟨dk, lf, m, left, rfl, h1, h2, h3, h4, h5, h6, h7, h8, h9⟩⟩) fun r s' hq => ?_
    cases r with
    | error e => exact hq
    | ok fl =>
      cases fl with
      | ret u =>
        obtain ⟨v, H', os, bare, un, hok, rv, dk, lf, m, left, rfl, nd, nl, ne, ex, hd, hl, m0, m1, hlen'⟩ := hq
        have at2 : ∀ a, a ≠ dk → a ≠ lf → (upd (upd H' dk (.ext (phiD P w dk lf))) lf (.ext (phiL P w lf))) a = H' a := fun a h1 h2 => by rw [upd_ne h2, upd_ne h1]
        have exH : Ex H (upd (upd H' dk (.ext (phiD P w dk lf))) lf (.ext (phiL P w lf))) := fun a o z => by
          rw [at2 a (ne_of_none z nd) (ne_of_none z nl)]; exact ex a o z
        have kd2 : ∀ b o, H' b = some o → (∀ kvs, o ≠ .dK kvs) → (∀ xs, o ≠ .lst xs) → b ≠ dk ∧ b ≠ lf := fun b o z n1 n2 => ⟨fun y => by rw [y, hd] at z; exact n1 _ (Option.some.inj z).symm, fun y => by rw [y, hl] at z; exact n2 _ (Option.some.inj z).symm⟩
        have frs1 : ∀ b o, s.heap.get? b = some o → H b = none → H' b = none := fun b o z n => un.free b o z n (by simp)
        refine ⟨.ref dk, _, os, bare, ⟨fun b o z n hb hx => un.keep b o z n hb hx, fun b o z n hb hx => un.slot b o z n hb hx,
          fun b o z n hx => ?_, fun b o z hx => un.there b o z hx, fun b xs z => exH b _ z, fun b o u z => exH b _ z, fun b ps z => ⟨#[], by rw [exH b _ z]; simp⟩⟩, ?_, rv, q dk _ ⟨lf, by rw [upd_ne ne, upd_same], upd_same, ne⟩ exH⟩
        · have n2 := un.free b o z n hx
          rw [at2 b (fun y => by rw [y, hd] at n2; cases n2) (fun y => by rw [y, hl] at n2; cases n2)]
          exact n2
        refine hok_swap hok (fun b y z => ?_) (fun b y z => ?_) fun b o z => ?_
        · obtain ⟨x1, x2⟩ := kd2 b _ z (fun _ => nofun) (fun _ => nofun)
          rw [at2 b x1 x2]; exact z
        · obtain ⟨x1, x2⟩ := kd2 b _ z (fun _ => nofun) (fun _ => nofun)
          rw [at2 b x1 x2]; exact z
        · by_cases x2 : b = lf
          · subst x2; rw [upd_same] at z; cases z; exact .inr (ext_L hlen' (hok b _ hl))
          · by_cases x1 : b = dk
            · subst x1; rw [upd_ne x2, upd_same] at z; cases z; exact .inr (ext_D m0 m1 (hok b _ hd))
            · rw [at2 b x1 x2] at z; exact .inl z
      | next => exact hq
      | brk => exact hq
      | cont => exact hq
abbrev psDraw : List Str := ["_law_deck_here", "_law_below"]
abbrev psPick : List Str := ["_law_deck_here", "_law_some"]
theorem own_draw (D : Def K mg "_law_draw" sDraw) (mi : mg "int" = none) (mm : mg "max" = none) : Own P w K mg base "_law_draw" psDraw 1 (spDraw P w) := by
  obtain ⟨f, fd, F, m⟩ := D.ex
  exact ⟨f, fd, draw_ext (ok_draw0 F mi mm), F.kp, F.binds (fun _ _ _ _ _ _ us hl => match us, hl with | [_, _], _ => rfl), m⟩
theorem own_deck (D : Def K mg "_law_deck" sDeck) (mi : mg "int" = none) : Own P w K mg base "_law_deck" ["_law_script"] 1 (spDeck P w K) := by
  obtain ⟨f, fd, F, m⟩ := D.ex
  exact ⟨f, fd, deck_ext (ok_deck0 F mi), F.kp, F.binds (fun _ _ _ _ _ _ us hl => match us, hl with | [_], _ => rfl), m⟩
section
variable {X : Cx} {σ : L2.St} {H : Hp} {a b : Expr} {p q : Pos} {lv : Nat} {dk : Addr} {n : Int} {xs : List V} {φ : V → Hp → Prop}
/-- a draw, as an expression -/
theorem en_draw (O : Own X.prog X.w X.K X.mg X.base "_law_draw" psDraw lv (spDraw X.prog X.w)) (hr : Room lv X.A) (hg : Gl X "_law_draw") (ha : EV X a σ H (.ref dk)) (hn : EV X b σ H (.int n)) (hd : Deck X.prog X.w H dk) (n1 : 1 ≤ n) (n2 : n < 1073741824)
    (he : starEach [a, b] X.env = (false, eval a X.env) :: starEach [b] X.env := by rfl) (he2 : starEach [b] X.env = (false, eval b X.env) :: starEach [] X.env := by rfl) (hpl : (backTo q (starEach [b] X.env)).any (·.1) = false := by rfl) :
    EN X (.Call (.Name "_law_draw" p) [a, b] [] q) σ H fun v _ => ∃ r : Int, v = .int r ∧ 0 ≤ r ∧ r < n :=
  en_own O hr hg (AV.cons ha (AV.cons hn AV.nil he2) he) (fun H1 e1 Q k => ⟨dk, n, rfl, hd.mono e1, n1, n2, fun r H' r0 r1 e2 => k _ _ e2 ⟨r, rfl, r0, r1⟩⟩) (by decide) he hpl
def spPick (P : Program) (w : World) (K : PySem.W.Frag) : Sp := fun vs H Q _ => ∃ (dk l : Addr) (xs : List V), vs = [.ref dk, .ref l] ∧ Deck P w H dk ∧ SqL K H l xs ∧ 1 ≤ xs.length ∧ xs.length < 1000000 ∧ ∀ (v : V) (H' : Hp), v ∈ xs → Ex H H' → Q v H'
theorem own_pick (D : Def K mg "_law_pick" sPick) (OW : Own P w K mg base "_law_draw" psDraw 1 (spDraw P w)) (ml : mg "len" = none) : Own P w K mg base "_law_pick" psPick 2 (spPick P w K) := by
  refine D.own scPick (fun vs H Q E h => ?_) (fun _ _ _ _ _ _ us hl => match us, hl with | [_, _], _ => rfl) ?_
  · obtain ⟨dk, l, xs, rfl, _⟩ := h
    rfl
  · rintro X H vs Q E ⟨f, cdv, A, outer, s, rfl⟩ hr h
    obtain ⟨dk, l, xs, rfl, hd, hx, h1, h2, q⟩ := h
    refine rx_retM (EM.of (pe_ix ix_list pe_sem pe_sem (fun _ _ => rfl)) fun H1 e1 => EV.ev (ev_nm 1 : EV _ _ _ H (.ref l)) H1 e1 _ fun H2 e2 => ?_)
    refine sem_mono ((en_draw (n := (xs.length : Int)) OW hr (by rfl) (ev_nm 0) (ev_len (by rfl) ml (ev_nm 1) (.inl hx)) hd (by omega) (by omega)) H2 (e1.trans e2)) fun v H3 ⟨e3, r, ev, r0, r1⟩ => ?_
    have hi : r.toNat < xs.length := by omega
    refine ⟨l, xs, r, xs[r.toNat], rfl, ev, ex_l ((e1.trans e2).trans e3) hx, ?_, H, (e1.trans e2).trans e3, fun H4 e4 => q _ H4 (List.getElem_mem hi) e4⟩
    have := atI_nat (xs := xs) (j := r.toNat) (List.getElem?_eq_getElem hi)
    rwa [Int.toNat_of_nonneg r0] at this
/-- a pick, as an expression -/
theorem en_pick (O : Own X.prog X.w X.K X.mg X.base "_law_pick" psPick lv (spPick X.prog X.w X.K)) (hr : Room lv X.A) (hg : Gl X "_law_pick") (ha : EV X a σ H (.ref dk)) (hn : EN X b σ H fun v H2 => ∃ r, v = .ref r ∧ SqL X.K H2 r xs) (hd : Deck X.prog X.w H dk) (n1 : 1 ≤ xs.length) (n2 : xs.length < 1000000) (hφ : ∀ v H2, v ∈ xs → Ex H H2 → φ v H2)
    (he : starEach [a, b] X.env = (false, eval a X.env) :: starEach [b] X.env := by rfl) (he2 : starEach [b] X.env = (false, eval b X.env) :: starEach [] X.env := by rfl) (hpl : (backTo q (starEach [b] X.env)).any (·.1) = false := by rfl) :
    EN X (.Call (.Name "_law_pick" p) [a, b] [] q) σ H φ := by
  obtain ⟨g, fd, F, hk, hb, hm⟩ := O.ex
  exact EN.of (pe_call F hr hg hm hk hb .nil pass0 (pa_cons pe_sem (pa_cons pe_sem pa_nil he2) he) (by decide) he hpl) fun H1 e1 => (EV.ev ha) H1 e1 _ fun H2 e2 => sem_mono (hn H2 (e1.trans e2)) fun v H3 ⟨e3, r, ev, hx⟩ =>
    ⟨dk, r, xs, by rw [ev]; rfl, hd.mono ((e1.trans e2).trans e3), hx, n1, n2, fun v H4 hv e4 => ⟨(e2.trans e3).trans e4, hφ v H4 hv (((e1.trans e2).trans e3).trans e4)⟩⟩
end
end
end E5
set_option Elab.async false
set_option linter.all false
set_option maxRecDepth 100000
set_option maxHeartbeats 4000000
namespace E5
open PySem PySem.Spec PyProof.Rows L2 Evl Y
abbrev sName : Stmt := topS 35
abbrev psName : List Str := ["_law_deck_here", "_law_found"]
abbrev nName : List Str := ["_law_deck_here", "_law_found", "_law_signs", "_law_turn", "_law_name_here"]
theorem scName : FnScope nName psName (defScope sName) := ⟨rfl, rfl, rfl, by decide +kernel, rfl, by decide +kernel, by decide +kernel⟩
section
variable {P : Program} {w : World} {K : PySem.W.Frag} {mg : Str → Option Value} {base : Heap}
def spName (P : Program) (w : World) (K : PySem.W.Frag) : Sp := fun vs H Q _ => ∃ (dk l : Addr) (fs : List Str), vs = [.ref dk, .ref l] ∧ Deck P w H dk ∧ SqL K H l (fs.map V.str) ∧ fs.length ≤ 500 ∧ ∀ (s : Str) (H' : Hp), Wd s → s ∉ fs → Ex H H' → Q (.str s) H'
theorem in_strs {s : Str} {fs : List Str} : inV (.str s) (fs.map V.str) = decide (s ∈ fs) := by
  induction fs with
  | nil => rfl
  | cons x r ih =>
    show (eqV (.str x) (.str s) || inV (.str s) (r.map V.str)) = _
    rw [ih]
    show (x == s || _) = _
    by_cases h : x = s
    · subst h; simp
    · have : ¬ s = x := fun e => h e.symm
      simp [h, this, List.mem_cons]
theorem flat_strs (fs : List Str) : (fs.map V.str).all flatV = true := by
  rw [List.all_eq_true]
  intro x hx
  obtain ⟨s, _, rfl⟩ := List.mem_map.mp hx
  rfl
theorem join2 (cs : List Nat) : Txt.join (Str.ofString "") (cs.map fun c => (⟨#[c]⟩ : Str)) = ofCs cs := by
  show PySem.Builtin.Str.glued (Str.ofString "") _ = _
  rw [PySem.StrLaws.glued_eq_join, show Str.ofString "" = (⟨#[]⟩ : Str) by decide +kernel]
  exact join1 cs
theorem fdiv26 (t : Nat) : ((t : Int)).fdiv 26 = ((t / 26 : Nat) : Int) := by
  rw [Int.fdiv_eq_ediv_of_nonneg _ (by omega)]; omega
theorem own_name (D : Def K mg "_law_name" sName) (OW : Own P w K mg base "_law_draw" psDraw 1 (spDraw P w)) (OP : Own P w K mg base "_law_pick" psPick 2 (spPick P w K)) (ml : mg "len" = none) (mi : mg "int" = none) (mr : mg "range" = none) : Own P w K mg base "_law_name" psName 3 (spName P w K) := by
  refine D.own scName (fun vs H Q E h => ?_) (fun _ _ _ _ _ _ us hl => match us, hl with | [_, _], _ => rfl) ?_
  · obtain ⟨dk, l, xs, rfl, _⟩ := h
    rfl
  · rintro X H vs Q E ⟨f, cdv, A, outer, s, rfl⟩ hr h
    obtain ⟨dk, l, fs, rfl, hd, hx, hlen, q⟩ := h
    have nd := scName.nd
    have hr1 : Room 1 _ := hr.mono (by decide)
    refine rx_set 2 ev_s ?_ nd
    refine rx_setM 4 (EM.en (en_join (φ := fun v _ => ∃ cs : List Nat, v = .str (ofCs cs) ∧ 1 ≤ cs.length ∧ cs.length ≤ 10 ∧ ∀ c ∈ cs, 97 ≤ c ∧ c ≤ 122) ev_s
      (EN.weak (en_lcR (own := [("_law_turn", 3)]) (ψ := fun n => 1 ≤ n ∧ n ≤ 10) 3 rfl nd (blkOk_by (N := nName) (sc := defScope sName) (by decide +kernel)) (by rfl) mr ?_ (fun _ _ _ _ _ => pg_name (i := 3) nd rfl (Or.inl rfl)) (fun v => rfl)
        (fun n acc _ => ∃ cs : List Nat, acc = cs.map (fun c => V.str ⟨#[c]⟩) ∧ cs.length = n ∧ ∀ c ∈ cs, 97 ≤ c ∧ c ≤ 122) (fun _ _ _ _ _ z => z) ⟨[], rfl, rfl, fun _ z => nomatch z⟩ ?_) ?_) (fun _ _ _ _ z => z)) ?_) nd
    · -- 1 + pick(deck, [0, 0, 1, 2, 3, 9])
      refine en_addN ev_i (en_pick (xs := [.int 0, .int 0, .int 1, .int 2, .int 3, .int 9]) (φ := fun v _ => ∃ n : Int, v = .int n ∧ 0 ≤ n ∧ n ≤ 9) OP hr (by rfl) (ev_nm 0)
        ((en_lstV (AV.cons ev_i (AV.cons ev_i (AV.cons ev_i (AV.cons ev_i (AV.cons ev_i (AV.cons ev_i AV.nil)))))) (by show 6 ≤ 100000; decide)).weak fun v H2 _ ⟨p, ev, _, hp⟩ => ⟨p, ev, sq_of hp⟩) hd (by decide) (by decide) (fun v H2 hv _ => ?_)) (fun v H2 _ ⟨m, ev, m0, m1⟩ => ⟨m, ev, 1 + m, rfl, by omega, by omega, by omega, by omega⟩)
      simp only [List.mem_cons, List.not_mem_nil, or_false] at hv
      rcases hv with rfl | rfl | rfl | rfl | rfl | rfl <;> exact ⟨_, rfl, by decide, by decide⟩
    · -- signs[draw(deck, 26)]
      intro n acc Hb s' H' C cl fp _ eb ⟨cs, ea, el, ec⟩
      refine en_ixSN (ev_nm 2) (by rw [abc_len]; decide) (en_draw (n := 26) OW hr1 (by rfl) (ev_nm 0) ev_i (hd.mono eb) (by decide) (by decide)) fun v H3 e3 ⟨r, ev, r0, r1⟩ => ?_
      have hi : r.toNat < 26 := by omega
      refine ⟨r, r.toNat + 97, ev, atI_of r0 (abc_at hi), cs ++ [r.toNat + 97], by rw [ea, List.map_append]; rfl, by rw [List.length_append, el]; rfl, fun c hc => ?_⟩
      rcases List.mem_append.mp hc with h | h
      · exact ec c h
      · rw [List.mem_singleton] at h; omega
    · -- the join
      intro v H2 e2 ⟨Dl, acc, n, ev, _, hD, _, _, ⟨n1, n2⟩, cs, ea, el, ec⟩
      have en : n ≤ 10 := by omega
      refine ⟨Dl, cs.map fun c => ⟨#[c]⟩, ev, by rw [hD, ea, List.map_map]; rfl, ?_, cs, ?_, by omega, by omega, ec⟩
      · have h1 : ∀ l : List Nat, ((l.map fun c => (⟨#[c]⟩ : Str)).map (·.length)).sum = l.length := fun l => by
          induction l with
          | nil => rfl
          | cons x r ih =>
            rw [List.map_cons, List.map_cons, List.sum_cons, ih, List.length_cons]
            show 1 + r.length = r.length + 1
            omega
        rw [h1, List.length_map]
        show cs.length + cs.length * 0 ≤ 16777216
        omega
      · rw [show Txt.join (Str.ofString "") (cs.map fun c => (⟨#[c]⟩ : Str)) = ofCs cs from join2 cs]
    · -- the loop
      intro v H2 e2 ⟨cs, ev, c1, c2, c3⟩
      subst ev
      obtain ⟨c0, r0, rfl⟩ : ∃ c0 r0, cs = c0 :: r0 := by
        cases cs with
        | nil => simp at c1
        | cons a b => exact ⟨a, b, rfl⟩
      have hc0 := c3 c0 List.mem_cons_self
      have hx2 : SqL K H2 l (fs.map V.str) := ex_l e2 hx
      have hlen2 : ((fs.map V.str).length : Int) = (fs.length : Int) := by rw [List.length_map]
      refine rx_forR 3 PassesOwn.never rfl (by rfl) mr (ev_add (ev_len (by rfl) ml (ev_nm 1) (.inl hx2)) ev_i) (by rw [hlen2]; omega)
        (fun t σ' Hb => ∃ (sg : Str) (tv : Option V) (tl : List Nat), σ' = [some (.ref dk), some (.ref l), some (.str "abcdefghijklmnopqrstuvwxyz"), tv, some (.str sg)] ∧ Hb = H2 ∧ sg = ofCs (c0 :: tl) ∧ Wd sg ∧ (sg ∈ fs → ∀ i, i < t → cand c0 i ∈ fs))
        ⟨ofCs (c0 :: r0), none, r0, rfl, rfl, rfl, ⟨by rw [ofCs_len]; exact c1, by rw [ofCs_len]; exact c2, fun c hc => c3 c (by rwa [ofCs_toList] at hc)⟩, fun _ i hi => absurd hi (Nat.not_lt_zero i)⟩ ?_ ?_ nd
      · rintro t σ' Hb ht ⟨sg, tv, tl, rfl, rfl, es, hw, hi⟩
        rw [hlen2] at ht
        have hcut : cutS sg none (some 1) = ⟨#[c0]⟩ := by
          rw [es]; show (⟨(((ofCs (c0 :: tl)).cps.toList.drop 0).take (min 1 (ofCs (c0 :: tl)).length - 0)).toArray⟩ : Str) = _
          rw [ofCs_toList, ofCs_len, List.length_cons, Nat.min_eq_left (by omega)]
          rfl
        by_cases hm : sg ∈ fs
        · refine rx_set 4 (ev_if (tn_in (ev_nm 4) (ev_nm 1) (.inl hx2) rfl (flat_strs fs)) (v := .str (cand c0 t)) (fun _ => ?_) (fun z => ?_)) ?_ nd
          · refine EV.is (ev_addS (ev_addS (ev_slS (ev_nm 4) (Nat.le_trans hw.2.1 (by decide)) ov_n (ov_s ev_i)) (ev_ixS (c := t / 26 + 97) (ev_nm 2) (ev_div (ev_nm 3) ev_i ⟨by decide, by decide⟩) (by rw [abc_len]; decide) ?_) ?_) (ev_ixS (c := t % 26 + 97) (ev_nm 2) (ev_mod (ev_int rfl (by rfl) mi (ev_nm 3)) ev_i (by decide)) (by rw [abc_len]; decide) ?_) ?_) ?_
            · rw [fdiv26]; exact atI_nat (abc_at (by omega))
            · rw [hcut]; show 1 + 1 ≤ sizeLine; decide
            · have e6 : (t : Int) % 26 = ((t % 26 : Nat) : Int) := by omega
              rw [e6]; exact atI_nat (abc_at (by omega))
            · rw [hcut]; show 2 + 1 ≤ sizeLine; decide
            · rw [hcut]; rfl
          · rw [in_strs, decide_eq_true hm] at z; cases z
          · exact rx_up rfl ⟨cand c0 t, _, _, rfl, rfl, rfl, cand_wd hc0 (by omega), fun hm2 i hi2 => (Nat.lt_succ_iff_lt_or_eq.mp hi2).elim (fun h => hi hm i h) (fun h => h ▸ hm2)⟩
        · refine rx_set 4 (ev_if (tn_in (ev_nm 4) (ev_nm 1) (.inl hx2) rfl (flat_strs fs)) (v := .str sg) (fun z => ?_) (fun _ => ev_nm 4)) ?_ nd
          · rw [in_strs, decide_eq_false hm] at z; cases z
          · exact rx_up rfl ⟨sg, _, tl, rfl, rfl, es, hw, fun h => absurd h hm⟩
      · rintro σ' Hb ⟨sg, tv, tl, rfl, rfl, es, hw, hi⟩
        refine rx_ret (ev_nm 4) fun H3 e3 => q sg H3 hw (fun hm => cand_free (c0 := c0) (fs := fs) fun i hi2 => hi hm i (by rw [hlen2]; omega)) (e2.trans e3)
end
end E5
set_option Elab.async false
set_option linter.all false
set_option maxRecDepth 100000
set_option maxHeartbeats 4000000
namespace E5
open PySem PySem.Spec PyProof.Rows L2 Evl Y
abbrev sTable : Stmt := topS 36
abbrev psTable : List Str := ["_law_deck_here", "_law_sizes"]
abbrev nTable : List Str := ["_law_deck_here", "_law_sizes", "_law_names", "_law_pairs", "_law_turn", "_law_few", "_law_at", "_law_name_here", "_law_other"]
theorem scTable : FnScope nTable psTable (defScope sTable) := ⟨rfl, rfl, rfl, by decide +kernel, rfl, by decide +kernel, by decide +kernel⟩
/-- a pair of texts as a value; a table -/
def PairV (H : Hp) (v : V) (p : Str × Str) : Prop := ∃ a, v = .ref a ∧ H a = some (.tup [.str p.1, .str p.2])
def TabAt (H : Hp) (r : Addr) (kinds : List Str) (pairs : List (Str × Str)) : Prop := ∃ k c as, H r = some (.tup [.ref k, .ref c]) ∧ H k = some (.tup (kinds.map V.str)) ∧ H c = some (.tup as) ∧ All2 (PairV H) as pairs
theorem PairV.tx {H H' : Hp} (e : Tx H H') {v : V} {p : Str × Str} (h : PairV H v p) : PairV H' v p := let ⟨a, x, y⟩ := h; ⟨a, x, e _ _ y⟩
theorem TabAt.tx {H H' : Hp} {r : Addr} {kinds : List Str} {pairs : List (Str × Str)} (h : TabAt H r kinds pairs) (e : Tx H H') : TabAt H' r kinds pairs := let ⟨k, c, as, a, b, d, g⟩ := h; ⟨k, c, as, e _ _ a, e _ _ b, e _ _ d, g.imp fun _ _ => PairV.tx e⟩
section
variable {P : Program} {w : World} {K : PySem.W.Frag} {mg : Str → Option Value} {base : Heap}
def spTable (P : Program) (w : World) (K : PySem.W.Frag) : Sp := fun vs H Q _ => ∃ (dk l : Addr) (ns : List Int), vs = [.ref dk, .ref l] ∧ Deck P w H dk ∧ SqL K H l (ns.map V.int) ∧ 1 ≤ ns.length ∧ ns.length ≤ 1000 ∧ (∀ n ∈ ns, 0 ≤ n ∧ n ≤ 12) ∧
  ∀ (kinds : List Str) (pairs : List (Str × Str)) (r : Addr) (H' : Hp), TableOk kinds pairs → (kinds.length : Int) ∈ ns → TabAt H' r kinds pairs → Ex H H' → Q (.ref r) H'
theorem own_table (D : Def K mg "_law_table" sTable) (OW : Own P w K mg base "_law_draw" psDraw 1 (spDraw P w)) (OP : Own P w K mg base "_law_pick" psPick 2 (spPick P w K)) (ON : Own P w K mg base "_law_name" psName 3 (spName P w K))
    (mr : mg "range" = none) (ms : mg "sorted" = none) (me : mg "enumerate" = none) (mt : mg "tuple" = none) : Own P w K mg base "_law_table" psTable 4 (spTable P w K) := by
  refine D.own scTable (fun vs H Q E h => ?_) (fun _ _ _ _ _ _ us hl => match us, hl with | [_, _], _ => rfl) ?_
  · obtain ⟨dk, l, xs, rfl, _⟩ := h
    rfl
  · rintro X H vs Q E ⟨f, cdv, A, outer, s, rfl⟩ hr h
    obtain ⟨dk, l, ns, rfl, hd, hx, hn1, hn2, hns, q⟩ := h
    have nd := scTable.nd
    have hr1 : Room 1 _ := hr.mono (by decide)
    have hr2 : Room 2 _ := hr.mono (by decide)
    -- names, pairs = ([], [])
    refine rx_par 2 3 (AM.cons (em_lstV AV.nil (Nat.zero_le _) fun pn hpn => AM.cons (em_lstV AV.nil (Nat.zero_le _) fun pp hpp => AM.nil ⟨_, _, rfl, ?_⟩))) rfl nd (by decide)
    generalize eA : upd (upd H pn (.lst [])) pp (.lst []) = HA
    have npp : pn ≠ pp := fun z => by rw [← z, upd_same] at hpp; cases hpp
    have eHA : Ex H HA := by rw [← eA]; exact (Ex.new hpn).trans (Ex.new hpp)
    have hAn : HA pn = some (.lst []) := by rw [← eA, upd_ne npp, upd_same]
    have hAp : HA pp = some (.lst []) := by rw [← eA, upd_same]
    have hpp0 : H pp = none := by rw [upd_ne (Ne.symm npp)] at hpp; exact hpp
    -- for turn in range(pick(deck, sizes)): names.append(name(deck, names))
    refine rx_forRN 4 PassesOwn.never rfl (by rfl) mr (en_pick (xs := ns.map V.int) (φ := fun v _ => ∃ n, v = .int n ∧ n ∈ ns) OP hr2 (by rfl) (ev_nm 0) (srcL (ev_nm 1) (ex_l eHA hx)) (hd.mono eHA) (by rw [List.length_map]; exact hn1) (by rw [List.length_map]; omega) (fun v H2 hv _ => by
      obtain ⟨n, hn, e⟩ := List.mem_map.mp hv
      exact ⟨n, e.symm, hn⟩)) (fun v H2 e2 ⟨n, ev, hn⟩ => ⟨n, fun t σ' Hb => ∃ (fs : List Str) (tv : Option V), σ' = [some (.ref dk), some (.ref l), some (.ref pn), some (.ref pp), tv, none, none, none, none] ∧ Ex H Hb ∧ Hb pn = some (.lst (fs.map V.str)) ∧ Hb pp = some (.lst []) ∧ fs.length = t ∧ fs.Nodup ∧ ∀ s ∈ fs, Wd s, ev, (hns n hn).1, by have := (hns n hn).2; omega,
        ⟨[], none, rfl, eHA.trans e2, e2 _ _ hAn, e2 _ _ hAp, rfl, List.nodup_nil, fun _ z => nomatch z⟩, ?_, ?_⟩) nd
    · rintro t σ' Hb ht ⟨fs, tv, rfl, eb, hbn, hbp, hl, hnod, hwd⟩
      have h12 := (hns n hn).2
      refine rx_exprM (em_append (ev_nm 2) (EM.en (en_own (φ := fun v _ => ∃ s, v = .str s ∧ Wd s ∧ s ∉ fs) ON hr (by rfl) (AV.cons (ev_nm 0) (AV.cons (ev_nm 2) AV.nil)) fun H3 e3 Q k => ⟨dk, pn, fs, rfl, hd.mono (eb.trans e3), sq_of (e3 _ _ hbn), by omega, fun s H4 hw hs e4 => k _ _ e4 ⟨s, rfl, hw, hs⟩⟩) fun v H3 e3 ⟨s, ev, hw, hs⟩ => ?_) hbn)
      subst ev
      refine ⟨_, e3 _ _ hbn, by rw [List.length_map]; omega, rx_up rfl ⟨fs ++ [s], _, rfl, Ex.mut (eb.trans e3) hpn, by rw [List.map_append]; exact upd_same, by rw [upd_ne (Ne.symm npp)]; exact e3 _ _ hbp, by rw [List.length_append, hl]; rfl, ?_, ?_⟩⟩
      · rw [List.nodup_append]
        exact ⟨hnod, List.pairwise_singleton _ s, fun a ha b hb e => hs (by rw [List.mem_singleton] at hb; rw [← hb, ← e]; exact ha)⟩
      · intro u hu
        rcases List.mem_append.mp hu with h | h
        · exact hwd u h
        · rw [List.mem_singleton] at h; rw [h]; exact hw
    · rintro σ' Hb ⟨fs, tv, rfl, eb, hbn, hbp, hl, hnod, hwd⟩
      have h12 := hns n hn
      -- names, few = (sorted(names), pick(deck, [0, 1, 2, 3, 3, 4, 6]))
      refine rx_tup2 2 5 (em_tup (AM.cons (EM.en (en_sortedS (by rfl) ms (ev_nm 2) (sq_of hbn) (by omega)) fun v H3 e3 ⟨sn, ys, ev, hsn, hs, hperm, hsrt⟩ => ?_))) rfl nd
      subst ev
      have hasc := asc_of_sorted hperm hsrt hnod
      refine AM.cons (EM.en (en_pick (xs := [.int 0, .int 1, .int 2, .int 3, .int 3, .int 4, .int 6]) (φ := fun v _ => ∃ n : Int, v = .int n) OP hr2 (by rfl) (ev_nm 0)
        ((en_lstV (AV.cons ev_i (AV.cons ev_i (AV.cons ev_i (AV.cons ev_i (AV.cons ev_i (AV.cons ev_i (AV.cons ev_i AV.nil))))))) (by show 7 ≤ 100000; decide)).weak fun v H2 _ ⟨p, ev, _, hp⟩ => ⟨p, ev, sq_of hp⟩) (hd.mono (eb.trans e3)) (by decide) (by decide) (fun v H2 hv _ => by
          simp only [List.mem_cons, List.not_mem_nil, or_false] at hv
          rcases hv with rfl | rfl | rfl | rfl | rfl | rfl | rfl <;> exact ⟨_, rfl⟩)) fun v H4 e4 ⟨few, ev⟩ => AM.nil ⟨by show 2 ≤ 100000; decide, fun tp htp => ⟨tp, _, _, rfl, .inl (.inl upd_same), ?_⟩⟩)
      subst ev
      have hs4 : (upd H4 tp (.tup [.ref sn, .int few])) sn = some (.lst (ys.map V.str)) := (e4.trans (Ex.new htp)) _ _ hs
      have e34 := (e3.trans e4).trans (Ex.new (o := .tup [.ref sn, .int few]) htp)
      generalize upd H4 tp (.tup [.ref sn, .int few]) = HB at e34 hs4
      have hBp : HB pp = some (.lst []) := e34 _ _ hbp
      have eHB : Ex H HB := eb.trans e34
      have nsp : sn ≠ pp := fun z => by rw [z] at hsn; rw [hsn] at hbp; cases hbp
      have hylen : ys.length ≤ 12 := by rw [hperm.length_eq]; omega
      -- for at, name in enumerate(names): pairs.extend([.. if draw(deck, 6) < few])
      refine rx_forE 6 7 PassesOwn.never rfl (by rfl) me (ev_nm 2) (sq_of hs4) (fun n' σ' Hc => ∃ (a1 a2 : Option V) (as : List V) (ps : List (Str × Str)), σ' = [some (.ref dk), some (.ref l), some (.ref sn), some (.ref pp), tv, some (.int few), a1, a2, none] ∧ Ex H Hc ∧ Hc sn = some (.lst (ys.map V.str)) ∧ Hc pp = some (.lst as) ∧ All2 (PairV Hc) as ps ∧ (ps ++ allP (ys.drop n')).Sublist (allP ys))
        ⟨none, none, [], [], rfl, eHB, hs4, hBp, True.intro, List.Sublist.refl _⟩ (fun n' σ' Hc _ ⟨_, _, _, _, _, _, h, _⟩ => sq_of h) ?_ ?_ nd
      · rintro n' x σ' Hc hx' ⟨a1, a2, as, ps, rfl, ec, hcs, hcp, hall, hsub⟩
        rw [List.getElem?_map] at hx'
        obtain ⟨nm, hnm, rfl⟩ := Option.map_eq_some_iff.mp hx'
        have hlt : n' < ys.length := (List.getElem?_eq_some_iff.mp hnm).1
        have hdrop : ys.drop n' = nm :: ys.drop (n' + 1) := by
          rw [List.drop_eq_getElem_cons hlt]
          congr 1
          exact (List.getElem?_eq_some_iff.mp hnm).2
        have hcut : cutV (ys.map V.str) (some (n' : Int)) none = (ys.drop n').map V.str := by
          show ((ys.map V.str).drop (HT.sIx _ 0 (some (n' : Int)))).take _ = _
          rw [HT.sIx_nat, List.length_map, Nat.min_eq_left (by omega), HT.sIx_none, ← List.map_drop]
          rw [List.take_of_length_le (by rw [List.length_map, List.length_drop]; exact Nat.le_refl _)]
        refine rx_exprM (em_extend (ev_nm 3) (en_lcLt (own := [("_law_other", 8)]) (xs := (ys.drop n').map V.str) 8 rfl nd (blkOk_by (N := nTable) (sc := defScope sTable) (by decide +kernel)) ?_ (by rw [List.length_map, List.length_drop]; omega) (fun _ _ _ _ _ => pg_name (i := 8) nd rfl (Or.inl rfl)) (fun v => rfl)
          (fun t acc Hd => ∃ sel : List Str, sel.Sublist ((ys.drop n').take t) ∧ All2 (PairV Hd) acc (sel.map fun y => (nm, y))) (fun t acc H1 H2 e ⟨sel, z1, z2⟩ => ⟨sel, z1, z2.imp fun _ _ => PairV.tx e⟩) ⟨[], List.Sublist.refl _, True.intro⟩ ?_) hcp ?_)
        · refine (en_slL (lv := some (n' : Int)) (hv := none) (ev_nm 2) (sq_of hcs) (ov_s (ev_nm 6)) ov_n).weak fun v H5 e5 ⟨r, ev, _, h5⟩ => ⟨r, ev, ?_⟩
          rw [hcut] at h5
          exact sq_of h5
        · intro t x acc Hd s' H' C cl fp hxt ed ⟨sel, z1, z2⟩
          rw [List.getElem?_map] at hxt
          obtain ⟨ot, hot, rfl⟩ := Option.map_eq_some_iff.mp hxt
          have htk : (ys.drop n').take (t + 1) = (ys.drop n').take t ++ [ot] := by rw [List.take_add_one, hot]; rfl
          refine td_ltN (en_draw (n := 6) OW hr1 (by rfl) (ev_nm 0) ev_i (hd.mono (ec.trans ed)) (by decide) (by decide)) (ev_nm 5) fun v H5 e5 ⟨r, ev, _, _⟩ => ⟨r, ev, fun H6 e6 => ?_⟩
          by_cases hb : r < few
          · rw [decide_eq_true hb]
            refine iteT fun s'' H'' C' cl' fp' => EN.weak (en_tupV (vs := [.str nm, .str ot]) (AV.cons (ev_nm 7) (AV.cons (ev_nm 8) AV.nil)) (by show 2 ≤ 100000; decide)) fun v H7 e7 ⟨p, ev, _, hp⟩ => ⟨sel ++ [ot], ?_, ?_⟩
            · rw [htk]; exact z1.append (List.Sublist.refl _)
            · rw [List.map_append]
              exact (z2.imp fun _ _ => PairV.tx ((e5.trans e6).trans e7).tx).app (All2.one ⟨p, ev, hp⟩)
          · rw [decide_eq_false hb]
            refine iteF ⟨sel, ?_, z2.imp fun _ _ => PairV.tx (e5.trans e6).tx⟩
            rw [htk]; exact z1.trans (List.sublist_append_left _ _)
        · intro v H5 e5 ⟨Dl, acc, ev, hD0, hD, hacc, sel, z1, z2⟩
          have hsel : (sel.map fun y => (nm, y)).Sublist ((ys.drop n').map fun y => (nm, y)) := (z1.trans (List.take_sublist _ _)).map _
          have hsub2 : ((ps ++ sel.map fun y => (nm, y)) ++ allP (ys.drop (n' + 1))).Sublist (allP ys) := by
            refine List.Sublist.trans ?_ hsub
            rw [List.append_assoc]
            refine (List.Sublist.refl ps).append ?_
            rw [hdrop] at hsel ⊢
            exact hsel.append (List.Sublist.refl _)
          have hbound : (ps ++ sel.map fun y => (nm, y)).length ≤ 78 := by
            have h1 := ((List.sublist_append_left (ps ++ sel.map fun y => (nm, y)) (allP (ys.drop (n' + 1)))).trans hsub2).length_le
            have h2 := allP_len ys
            have h3 : ys.length * (ys.length + 1) ≤ 12 * 13 := Nat.mul_le_mul hylen (Nat.succ_le_succ hylen)
            omega
          have hall5 : All2 (PairV H5) (as ++ acc) (ps ++ sel.map fun y => (nm, y)) := (hall.imp fun _ _ => PairV.tx e5.tx).app z2
          refine ⟨Dl, acc, ev, hD, ?_, ?_⟩
          · have := hall5.len
            rw [List.length_append] at this; omega
          · refine rx_up rfl ⟨_, _, _, _, rfl, Ex.mut (ec.trans e5) hpp0, by rw [upd_ne nsp]; exact e5 _ _ hcs, upd_same, hall5.imp fun _ _ => PairV.tx (Tx.lst (e5 _ _ hcp)), hsub2⟩
      · rintro σ' Hc ⟨a1, a2, as, ps, rfl, ec, hcs, hcp, hall, hsub⟩
        rw [List.length_map, List.drop_of_length_le (Nat.le_refl _), allP, List.append_nil] at hsub
        -- return (tuple(names), tuple(pairs))
        refine rx_retM (em_tup (AM.cons (EM.en (en_tuple (by rfl) mt (ev_nm 2) (sq_of hcs)) fun v H5 e5 ⟨tk, ev, _, h5⟩ => AM.cons (EM.en (en_tuple (by rfl) mt (ev_nm 3) (sq_of (e5 _ _ hcp))) fun v' H6 e6 ⟨tc, ev', _, h6⟩ => AM.nil ⟨by show 2 ≤ 100000; decide, fun r hr H7 e7 => ?_⟩))))
        subst ev ev'
        have eN := (Ex.new (o := .tup [.ref tk, .ref tc]) hr).trans e7
        refine q ys ps r H7 ⟨fun k hk => hwd k (hperm.mem_iff.mp hk), hasc, hsub, hylen⟩ ?_ ⟨tk, tc, as, e7 _ _ upd_same, (e6.trans eN) _ _ h5, eN _ _ h6, hall.imp fun _ _ => PairV.tx ((e5.trans e6).trans eN).tx⟩ (((ec.trans e5).trans e6).trans eN)
        rw [hperm.length_eq, hl, Int.toNat_of_nonneg h12.1]; exact hn
end
end E5
set_option Elab.async false
set_option linter.all false
set_option maxRecDepth 100000
set_option maxHeartbeats 4000000
namespace E5
open PySem PySem.Spec PyProof.Rows L2 Evl Y
abbrev sIsInt : Stmt := topS 4
abbrev sIsNat : Stmt := topS 5
abbrev sIsWord : Stmt := topS 6
abbrev sIsAsc : Stmt := topS 7
abbrev sIsTable : Stmt := topS 14
abbrev sAreKinds : Stmt := topS 15
abbrev sAreConf : Stmt := topS 16
abbrev sIsPair : Stmt := topS 17
abbrev sCheck : Stmt := topS 18
theorem scIsInt : FnScope ["thing"] ["thing"] (defScope sIsInt) := ⟨rfl, rfl, rfl, by decide +kernel, rfl, by decide +kernel, by decide +kernel⟩
theorem scIsNat : FnScope ["thing"] ["thing"] (defScope sIsNat) := ⟨rfl, rfl, rfl, by decide +kernel, rfl, by decide +kernel, by decide +kernel⟩
theorem scIsWord : FnScope ["thing", "letter"] ["thing"] (defScope sIsWord) := ⟨rfl, rfl, rfl, by decide +kernel, rfl, by decide +kernel, by decide +kernel⟩
theorem scIsAsc : FnScope ["things", "one", "other"] ["things"] (defScope sIsAsc) := ⟨rfl, rfl, rfl, by decide +kernel, rfl, by decide +kernel, by decide +kernel⟩
theorem scIsTable : FnScope ["thing", "kinds", "conflicts"] ["thing"] (defScope sIsTable) := ⟨rfl, rfl, rfl, by decide +kernel, rfl, by decide +kernel, by decide +kernel⟩
theorem scAreKinds : FnScope ["thing", "kind"] ["thing"] (defScope sAreKinds) := ⟨rfl, rfl, rfl, by decide +kernel, rfl, by decide +kernel, by decide +kernel⟩
theorem scAreConf : FnScope ["kinds", "thing", "pair"] ["kinds", "thing"] (defScope sAreConf) := ⟨rfl, rfl, rfl, by decide +kernel, rfl, by decide +kernel, by decide +kernel⟩
theorem scIsPair : FnScope ["kinds", "thing", "one", "other"] ["kinds", "thing"] (defScope sIsPair) := ⟨rfl, rfl, rfl, by decide +kernel, rfl, by decide +kernel, by decide +kernel⟩
theorem scCheck : FnScope ["table"] ["table"] (defScope sCheck) := ⟨rfl, rfl, rfl, by decide +kernel, rfl, by decide +kernel, by decide +kernel⟩
/-- what the built-in names are -/
structure Blt (mg : Str → Option Value) : Prop where
  isi : mg "isinstance" = none
  int : mg "int" = none
  bool : mg "bool" = none
  str : mg "str" = none
  tuple : mg "tuple" = none
  len : mg "len" = none
  all : mg "all" = none
  zip : mg "zip" = none
section
variable {P : Program} {w : World} {K : PySem.W.Frag} {mg : Str → Option Value} {base : Heap}
/-- is_integer of an int (and of what is none: a text, a tuple) -/
def spIsInt : Sp := fun vs H Q _ => ∃ (i : Int), vs = [.int i] ∧ ∀ H', Ex H H' → Q (.bl true) H'
theorem own_isint (D : Def K mg "is_integer" sIsInt) (B : Blt mg) : Own P w K mg base "is_integer" ["thing"] 1 spIsInt := by
  refine D.own scIsInt (fun vs H Q E h => ?_) (fun _ _ _ _ _ _ us hl => match us, hl with | [_], _ => rfl) ?_
  · obtain ⟨i, rfl, _⟩ := h
    rfl
  · rintro X H vs Q E ⟨f, cdv, A, outer, s, rfl⟩ hr h
    obtain ⟨i, rfl, q⟩ := h
    refine rx_ret (ev_and (bb := true) (cc := true) (ev_isi (T := "int") (t := .type "int") (by rfl) B.isi (ev_nm 0) (ev_tyName (by rfl) B.int (by decide +kernel)) (fun _ _ => .base (.int i)) (kit_ty (by decide +kernel)))
      fun _ => ev_and1 (EV.is (ev_not (ev_isi (T := "bool") (t := .type "int") (bb := false) (by rfl) B.isi (ev_nm 0) (ev_tyName (by rfl) B.bool (by decide +kernel)) (fun _ _ => .base (.int i)) (kit_ty (by decide +kernel)))) rfl)) fun H1 e1 => q H1 e1
def spIsNat : Sp := fun vs H Q _ => ∃ (i : Int), vs = [.int i] ∧ ∀ H', Ex H H' → Q (.bl (decide (0 ≤ i))) H'
theorem own_isnat (D : Def K mg "is_natural" sIsNat) (O : Own P w K mg base "is_integer" ["thing"] 1 spIsInt) : Own P w K mg base "is_natural" ["thing"] 2 spIsNat := by
  refine D.own scIsNat (fun vs H Q E h => ?_) (fun _ _ _ _ _ _ us hl => match us, hl with | [_], _ => rfl) ?_
  · obtain ⟨i, rfl, _⟩ := h
    rfl
  · rintro X H vs Q E ⟨f, cdv, A, outer, s, rfl⟩ hr h
    obtain ⟨i, rfl, q⟩ := h
    refine rx_ret (ev_and (bb := true) (en_own O hr (by rfl) (AV.cons (ev_nm 0) AV.nil) fun H1 _ Q k => ⟨i, rfl, fun H2 e2 => k _ _ e2 rfl⟩) fun _ => ev_and1 (ev_ge (ev_nm 0) ev_i)) fun H1 e1 => ?_
    rw [Bool.true_and]
    exact q H1 e1
/-- is_plain_word of a word -/
def spIsWord : Sp := fun vs H Q _ => ∃ (t : Str), vs = [.str t] ∧ Wd t ∧ ∀ H', Ex H H' → Q (.bl true) H'
theorem wd_abc {t : Str} (h : Wd t) {c : Nat} (hc : c ∈ t.cps.toList) : c ∈ (Str.ofString "abcdefghijklmnopqrstuvwxyz").cps.toList := by
  have := h.2.2 c hc
  rw [abc, List.mem_map]
  exact ⟨c - 97, List.mem_range.mpr (by omega), by omega⟩
theorem all_true {n : Nat} : (List.replicate n true).all id = true := by
  rw [List.all_eq_true]
  intro x hx
  rw [List.eq_of_mem_replicate hx]; rfl
theorem rep_map {n : Nat} : List.replicate n (V.bl true) = (List.replicate n true).map V.bl := by rw [List.map_replicate]
theorem rep_snoc {n : Nat} : List.replicate n (V.bl true) ++ [V.bl true] = List.replicate (n + 1) (V.bl true) := by
  rw [List.replicate_succ']
theorem own_isword (D : Def K mg "is_plain_word" sIsWord) (B : Blt mg) {m10 mabc : Value} (hm : mg "MOST_LETTERS" = some m10) (r10 : RelV (.int 10) m10) (ha : mg "LETTERS" = some mabc) (rabc : RelV (.str "abcdefghijklmnopqrstuvwxyz") mabc) : Own P w K mg base "is_plain_word" ["thing"] 1 spIsWord := by
  refine D.own scIsWord (fun vs H Q E h => ?_) (fun _ _ _ _ _ _ us hl => match us, hl with | [_], _ => rfl) ?_
  · obtain ⟨i, rfl, _⟩ := h
    rfl
  · rintro X H vs Q E ⟨f, cdv, A, outer, s, rfl⟩ hr h
    obtain ⟨t, rfl, hw, q⟩ := h
    have nd := scIsWord.nd
    have hz : t.length ≤ sizeLine := Nat.le_trans hw.2.1 (by decide)
    refine rx_when (bb := false) (TN.is (tn_or (tn_not (tn_v (ev_isi (bb := true) (T := "str") (t := .type "str") (by rfl) B.isi (ev_nm 0) (ev_tyName (by rfl) B.str (by decide +kernel)) (fun _ _ => .base (.str t)) (kit_ty (by decide +kernel))))) fun _ => tn_not (tn_chain ev_i (ev_lenS (by rfl) B.len (ev_nm 0) hz) (ev_glob (by rfl) hm r10))) ?_) (fun z => by cases z) fun _ => ?_
    · rw [decide_eq_true (show (1 : Int) ≤ (t.length : Int) by have := hw.1; omega), decide_eq_true (show (t.length : Int) ≤ 10 by have := hw.2.1; omega)]; rfl
    · refine rx_retM (EM.en (en_all (φ := fun v _ => v = .bl true) rfl (by rfl) B.all (EN.weak (en_lcS (own := [("letter", 1)]) 1 rfl nd (blkOk_by (N := ["thing", "letter"]) (sc := defScope sIsWord) (by decide +kernel)) (ev_nm 0) (Nat.le_trans hw.2.1 (by decide)) (fun _ _ _ _ _ => pg_name (i := 1) nd rfl (Or.inl rfl)) (fun v => rfl)
        (fun n acc _ => acc = List.replicate n (.bl true)) (fun _ _ _ _ _ z => z) rfl ?_) fun v H2 _ ⟨Dl, acc, ev, _, hD, _, ea⟩ => ⟨Dl, List.replicate t.cps.size true, ev, by rw [hD, ea, rep_map], by rw [all_true]⟩)) fun v H2 e2 ev H3 e3 => by rw [ev]; exact q H3 (e2.trans e3))
      intro n c acc Hb s' H' C cl fp hc _ ea
      refine EN.weak (ev_inSign (ev_nm 1) (ev_glob (by rfl) ha rabc)) fun v H2 _ ev => ?_
      have hmem : c ∈ t.cps.toList := by
        rw [← Array.getElem?_toList] at hc
        exact List.mem_of_getElem? hc
      rw [ev, ea, decide_eq_true (wd_abc hw hmem), rep_snoc]
/-- is_ascending of ascending texts, or of ascending pairs of texts -/
def spIsAsc (K : PySem.W.Frag) : Sp := fun vs H Q _ => (∃ (r : Addr) (ss : List Str), vs = [.ref r] ∧ SqT K H r (ss.map V.str) ∧ ss.length ≤ 1000 ∧ ss.Pairwise ltS ∧ ∀ H', Ex H H' → Q (.bl true) H') ∨
  ∃ (r : Addr) (as : List V) (ps : List (Str × Str)), vs = [.ref r] ∧ SqT K H r as ∧ All2 (PairV H) as ps ∧ ps.length ≤ 1000 ∧ ps.Pairwise ltP ∧ ∀ H', Ex H H' → Q (.bl true) H'
theorem drop1 (xs : List V) : cutV xs (some 1) none = xs.drop 1 := by
  unfold cutV
  rw [show HT.sIx xs.length 0 (some 1) = min 1 xs.length from HT.sIx_nat xs.length 0 1, HT.sIx_none]
  cases xs with
  | nil => rfl
  | cons x r =>
    rw [List.length_cons, Nat.min_eq_left (by omega)]
    exact List.take_of_length_le (by rw [List.length_drop, List.length_cons]; omega)
theorem asc_next {α : Type} {R : α → α → Prop} {l : List α} (h : l.Pairwise R) {n : Nat} {x y : α} (hx : l[n]? = some x) (hy : l[n + 1]? = some y) : R x y := by
  obtain ⟨h1, e1⟩ := List.getElem?_eq_some_iff.mp hx
  obtain ⟨h2, e2⟩ := List.getElem?_eq_some_iff.mp hy
  have := List.pairwise_iff_getElem.mp h n (n + 1) h1 h2 (Nat.lt_succ_self n)
  rwa [e1, e2] at this
theorem ltPair_of {p q : Str × Str} (h : ltP p q) : ltPair p q = true := by
  unfold ltPair
  rcases h with h | ⟨e, h⟩
  · have : ¬ p.1 = q.1 := fun e => ltS_irrefl _ (e ▸ h)
    rw [if_neg this]; exact decide_eq_true h
  · rw [if_pos e]; exact decide_eq_true h
theorem own_isasc (D : Def K mg "is_ascending" sIsAsc) (B : Blt mg) : Own P w K mg base "is_ascending" ["things"] 1 (spIsAsc K) := by
  refine D.own scIsAsc (fun vs H Q E h => ?_) (fun _ _ _ _ _ _ us hl => match us, hl with | [_], _ => rfl) ?_
  · rcases h with ⟨_, _, rfl, _⟩ | ⟨_, _, _, rfl, _⟩ <;> rfl
  · rintro X H vs Q E ⟨f, cdv, A, outer, s, rfl⟩ hr h
    have nd := scIsAsc.nd
    have core : ∀ (r : Addr) (xs : List V), vs = [.ref r] → SqT K H r xs → xs.length ≤ 1000 → (∀ H', Ex H H' → Q (.bl true) H') →
        (∀ (n : Nat) (x y : V) (Hb : Hp) (X' : Cx), xs[n]? = some x → xs[n + 1]? = some y → Ex H Hb → X'.K = K → X'.A = (cxOf CX0 P w K mg base ["things", "one", "other"] "is_ascending" (defScope sIsAsc) f cdv A outer s H E).nox.A → ∀ (σ' : L2.St) (a b : Expr) (pos : Pos), EV X' a σ' Hb x → EV X' b σ' Hb y → EV X' (.Compare a [.Lt] [b] pos) σ' Hb (.bl true)) →
        RX (cxOf CX0 P w K mg base ["things", "one", "other"] "is_ascending" (defScope sIsAsc) f cdv A outer s H E).nox (defBody sIsAsc) { nx := fun _ H' => Q .non H', rt := Q } (start ["things", "one", "other"] vs) H := by
      intro r xs ev hx hz q hlt
      subst ev
      refine rx_retM (EM.en (en_all (φ := fun v _ => v = .bl true) rfl (by rfl) B.all (EN.weak (en_lcZ (own := [("one", 1), ("other", 2)]) (xs := xs) (ys := xs.drop 1) 1 2 rfl nd (blkOk_by (N := ["things", "one", "other"]) (sc := defScope sIsAsc) (by decide +kernel)) (by rfl) B.zip (ev_nm 0) hx ?_ (by omega)
        (fun _ _ _ _ _ => pg_tup rfl (pgs_cons (pg_name (i := 1) nd rfl (Or.inl rfl)) (pgs_cons (pg_name (i := 2) nd rfl (Or.inl rfl)) pgs_nil))) (fun v v' => rfl)
        (fun n acc _ => acc = List.replicate n (.bl true)) (fun _ _ _ _ _ z => z) rfl ?_) fun v H2 _ ⟨Dl, acc, ev, _, hD, _, ea⟩ => ⟨Dl, List.replicate (min xs.length (xs.drop 1).length) true, ev, by rw [hD, ea, rep_map], by rw [all_true]⟩)) fun v H2 e2 ev H3 e3 => by rw [ev]; exact q H3 (e2.trans e3))
      · refine EN.weak (en_slT (lv := some 1) (hv := none) (ev_nm 0) hx (ov_s ev_i) ov_n) fun v H2 _ ⟨r', ev, h2⟩ => ⟨r', ev, ?_⟩
        rw [drop1] at h2; exact h2
      · intro n x y acc Hb s' H' C cl fp hx' hy' eb ea
        rw [List.getElem?_drop, Nat.add_comm] at hy'
        refine EN.weak (hlt n x y Hb _ hx' hy' eb ?_ ?_ _ _ _ _ (ev_nm 1) (ev_nm 2)) fun v H2 _ ev => ?_
        · rfl
        · rfl
        · rw [ev, ea, rep_snoc]
    rcases h with ⟨r, ss, ev, hx, hz, hasc, q⟩ | ⟨r, as, ps, ev, hx, hall, hz, hasc, q⟩
    · refine core r _ ev hx (by rw [List.length_map]; exact hz) q fun n x y Hb X' hx' hy' eb eK eA σ' a b pos ha hb => ?_
      rw [List.getElem?_map] at hx' hy'
      obtain ⟨s1, g1, rfl⟩ := Option.map_eq_some_iff.mp hx'
      obtain ⟨s2, g2, rfl⟩ := Option.map_eq_some_iff.mp hy'
      exact EN.of (pe_cmpR op_lt_str pe_sem pe_sem (nomark _)) fun H1 e1 => EV.ev ha H1 e1 _ fun H2 e2 => EV.ev hb H2 (e1.trans e2) _ fun H3 e3 => ⟨s1, s2, rfl, rfl, e2.trans e3, congrArg V.bl (decide_eq_true (asc_next hasc g1 g2))⟩
    · refine core r _ ev hx (by rw [hall.len]; exact hz) q fun n x y Hb X' hx' hy' eb eK eA σ' a b pos ha hb => ?_
      obtain ⟨p1, g1, a1, rfl, h1⟩ := hall.at hx'
      obtain ⟨p2, g2, a2, rfl, h2⟩ := hall.at hy'
      exact EN.of (pe_cmpR (op_ltPair (by rw [eA]; exact hr.units0)) pe_sem pe_sem (nomark _)) fun H1 e1 => EV.ev ha H1 e1 _ fun H2 e2 => EV.ev hb H2 (e1.trans e2) _ fun H3 e3 =>
        ⟨a1, a2, p1, p2, rfl, rfl, st_of ((((eb.trans e1).trans e2).trans e3) _ _ h1), st_of ((((eb.trans e1).trans e2).trans e3) _ _ h2), e2.trans e3, congrArg V.bl (ltPair_of (asc_next hasc g1 g2))⟩
end
end E5
set_option Elab.async false
set_option linter.all false
set_option maxRecDepth 100000
set_option maxHeartbeats 4000000
namespace E5
open PySem PySem.Spec PyProof.Rows L2 Evl Y
section
variable {X : Cx} {σ : L2.St} {H : Hp} {a b : Expr} {q1 q2 : Pos} {r : Addr} {xs : List V}
/-- isinstance(x, tuple) of a tuple -/
theorem ev_isTup (B : Blt X.mg) (hg : Gl X "isinstance") (hg2 : Gl X "tuple") {pos : Pos} (ha : EV X a σ H (.ref r)) (h : H r = some (.tup xs)) (he : starEach [a, .Name "tuple" pos] X.env = (false, eval a X.env) :: starEach [.Name "tuple" pos] X.env := by rfl) (he2 : starEach [.Name "tuple" pos] X.env = (false, eval (.Name "tuple" pos) X.env) :: starEach [] X.env := by rfl) (hpl : (backTo q2 (starEach [.Name "tuple" pos] X.env)).any (·.1) = false := by rfl) :
    EV X (.Call (.Name "isinstance" q1) [a, .Name "tuple" pos] [] q2) σ H (.bl true) :=
  ev_isi (T := "tuple") (t := .type "tuple") hg B.isi ha (ev_tyName hg2 B.tuple (by decide +kernel)) (fun H1 e1 => .base (.tup (e1 _ _ h))) (kit_ty (by decide +kernel)) he he2 hpl
end
section
variable {P : Program} {w : World} {K : PySem.W.Frag} {mg : Str → Option Value} {base : Heap}
def spAreKinds : Sp := fun vs H Q _ => ∃ (r : Addr) (ss : List Str), vs = [.ref r] ∧ H r = some (.tup (ss.map V.str)) ∧ ss.length ≤ 12 ∧ (∀ s ∈ ss, Wd s) ∧ ss.Pairwise ltS ∧ ∀ H', Ex H H' → Q (.bl true) H'
theorem own_arekinds (D : Def K mg "are_kinds" sAreKinds) (B : Blt mg) (OW : Own P w K mg base "is_plain_word" ["thing"] 1 spIsWord) (OA : Own P w K mg base "is_ascending" ["things"] 1 (spIsAsc K)) : Own P w K mg base "are_kinds" ["thing"] 2 spAreKinds := by
  refine D.own scAreKinds (fun vs H Q E h => ?_) (fun _ _ _ _ _ _ us hl => match us, hl with | [_], _ => rfl) ?_
  · obtain ⟨r, ss, rfl, _⟩ := h
    rfl
  · rintro X H vs Q E ⟨f, cdv, A, outer, s, rfl⟩ hr h
    obtain ⟨r, ss, rfl, hx, hz, hw, hasc, q⟩ := h
    have nd := scAreKinds.nd
    refine rx_when (bb := false) (tn_not (tn_v (ev_isTup B (by rfl) (by rfl) (ev_nm 0) hx))) (fun z => by cases z) fun _ => ?_
    refine rx_ret (ev_and (bb := true) (cc := true) (en_all (φ := fun v _ => v = .bl true) rfl (by rfl) B.all (EN.weak (en_lcT (own := [("kind", 1)]) 1 rfl nd (blkOk_by (N := ["thing", "kind"]) (sc := defScope sAreKinds) (by decide +kernel)) (ev_nm 0) (st_of hx) (by rw [List.length_map]; omega) (fun _ _ _ _ _ => pg_name (i := 1) nd rfl (Or.inl rfl)) (fun v => rfl)
        (fun n acc _ => acc = List.replicate n (.bl true)) (fun _ _ _ _ _ z => z) rfl ?_) fun v H2 _ ⟨Dl, acc, ev, _, hD, _, ea⟩ => ⟨Dl, List.replicate (ss.map V.str).length true, ev, by rw [hD, ea, rep_map], by rw [all_true]⟩))
      fun _ => ev_and1 (en_own OA (hr.mono (by decide)) (by rfl) (AV.cons (ev_nm 0) AV.nil) fun H1 e1 Q k => .inl ⟨r, ss, rfl, st_of (e1 _ _ hx), by omega, hasc, fun H2 e2 => k _ _ e2 rfl⟩)) q
    intro n x acc Hb s' H' C cl fp hx' _ ea
    rw [List.getElem?_map] at hx'
    obtain ⟨t, g, rfl⟩ := Option.map_eq_some_iff.mp hx'
    refine EN.weak (en_own (φ := fun v _ => v = .bl true) OW (hr.mono (by decide)) (by rfl) (AV.cons (ev_nm 1) AV.nil) fun H1 _ Q k => ⟨t, rfl, hw t (List.mem_of_getElem? g), fun H2 e2 => k _ _ e2 rfl⟩) fun v H2 _ ev => ?_
    rw [ev, ea, rep_snoc]
def spIsPair : Sp := fun vs H Q _ => ∃ (r : Addr) (v : V) (ss : List Str) (p : Str × Str), vs = [.ref r, v] ∧ H r = some (.tup (ss.map V.str)) ∧ PairV H v p ∧ p.1 ∈ ss ∧ p.2 ∈ ss ∧ ¬ ltS p.2 p.1 ∧ ∀ H', Ex H H' → Q (.bl true) H'
theorem own_ispair (D : Def K mg "is_pair" sIsPair) (B : Blt mg) : Own P w K mg base "is_pair" ["kinds", "thing"] 1 spIsPair := by
  refine D.own scIsPair (fun vs H Q E h => ?_) (fun _ _ _ _ _ _ us hl => match us, hl with | [_, _], _ => rfl) ?_
  · obtain ⟨r, v, ss, p, rfl, _⟩ := h
    rfl
  · rintro X H vs Q E ⟨f, cdv, A, outer, s, rfl⟩ hr h
    obtain ⟨r, v, ss, p, rfl, hx, ⟨a, rfl, ha⟩, h1, h2, h3, q⟩ := h
    have nd := scIsPair.nd
    refine rx_when (bb := false) (TN.is (tn_or (tn_not (tn_v (ev_isTup B (by rfl) (by rfl) (ev_nm 1) ha))) fun _ => tn_ne (ev_len (by rfl) B.len (ev_nm 1) (.inr (st_of ha))) ev_i (by rfl)) (by rfl)) (fun z => by cases z) fun _ => ?_
    refine rx_tup2 2 3 (EM.ev (ev_nm 1) ⟨a, _, _, rfl, st_of ha, ?_⟩) rfl nd
    refine rx_ret (EV.is (ev_and (ev_in (ev_nm 2) (ev_nm 0) (.inr (st_of hx)) (by rfl) (flat_strs ss)) fun _ => ev_and (ev_in (ev_nm 3) (ev_nm 0) (.inr (st_of hx)) (by rfl) (flat_strs ss)) fun _ => ev_and1 (ev_leS (ev_nm 2) (ev_nm 3))) ?_) q
    rw [in_strs, in_strs, decide_eq_true h1, decide_eq_true h2, decide_eq_false (show ¬ (p.2.cps.toList < p.1.cps.toList) from h3)]
    rfl
def spAreConf : Sp := fun vs H Q _ => ∃ (r c : Addr) (ss : List Str) (as : List V) (ps : List (Str × Str)), vs = [.ref r, .ref c] ∧ H r = some (.tup (ss.map V.str)) ∧ H c = some (.tup as) ∧ All2 (PairV H) as ps ∧ ps.length ≤ 1000 ∧ (∀ p ∈ ps, p.1 ∈ ss ∧ p.2 ∈ ss ∧ ¬ ltS p.2 p.1) ∧ ps.Pairwise ltP ∧ ∀ H', Ex H H' → Q (.bl true) H'
theorem own_areconf (D : Def K mg "are_conflicts" sAreConf) (B : Blt mg) (OW : Own P w K mg base "is_pair" ["kinds", "thing"] 1 spIsPair) (OA : Own P w K mg base "is_ascending" ["things"] 1 (spIsAsc K)) : Own P w K mg base "are_conflicts" ["kinds", "thing"] 2 spAreConf := by
  refine D.own scAreConf (fun vs H Q E h => ?_) (fun _ _ _ _ _ _ us hl => match us, hl with | [_, _], _ => rfl) ?_
  · obtain ⟨r, c, ss, as, ps, rfl, _⟩ := h
    rfl
  · rintro X H vs Q E ⟨f, cdv, A, outer, s, rfl⟩ hr h
    obtain ⟨r, c, ss, as, ps, rfl, hx, hc, hall, hz, hp, hasc, q⟩ := h
    have nd := scAreConf.nd
    refine rx_when (bb := false) (tn_not (tn_v (ev_isTup B (by rfl) (by rfl) (ev_nm 1) hc))) (fun z => by cases z) fun _ => ?_
    refine rx_ret (ev_and (bb := true) (cc := true) (en_all (φ := fun v _ => v = .bl true) rfl (by rfl) B.all (EN.weak (en_lcT (own := [("pair", 2)]) 2 rfl nd (blkOk_by (N := ["kinds", "thing", "pair"]) (sc := defScope sAreConf) (by decide +kernel)) (ev_nm 1) (st_of hc) (by rw [hall.len]; omega) (fun _ _ _ _ _ => pg_name (i := 2) nd rfl (Or.inl rfl)) (fun v => rfl)
        (fun n acc _ => acc = List.replicate n (.bl true)) (fun _ _ _ _ _ z => z) rfl ?_) fun v H2 _ ⟨Dl, acc, ev, _, hD, _, ea⟩ => ⟨Dl, List.replicate as.length true, ev, by rw [hD, ea, rep_map], by rw [all_true]⟩))
      fun _ => ev_and1 (en_own OA (hr.mono (by decide)) (by rfl) (AV.cons (ev_nm 1) AV.nil) fun H1 e1 Q k => .inr ⟨c, as, ps, rfl, st_of (e1 _ _ hc), hall.imp fun _ _ => PairV.tx e1.tx, hz, hasc, fun H2 e2 => k _ _ e2 rfl⟩)) q
    intro n x acc Hb s' H' C cl fp hx' eb ea
    obtain ⟨p, g, hpv⟩ := hall.at hx'
    obtain ⟨h1, h2, h3⟩ := hp p (List.mem_of_getElem? g)
    refine EN.weak (en_own (φ := fun v _ => v = .bl true) OW (hr.mono (by decide)) (by rfl) (AV.cons (ev_nm 0) (AV.cons (ev_nm 2) AV.nil)) fun H1 e1 Q k => ⟨r, x, ss, p, rfl, (eb.trans e1) _ _ hx, hpv.tx (eb.trans e1).tx, h1, h2, h3, fun H2 e2 => k _ _ e2 rfl⟩) fun v H2 _ ev => ?_
    rw [ev, ea, rep_snoc]
/-- of a table -/
def spIsTable : Sp := fun vs H Q _ => ∃ (r : Addr) (kinds : List Str) (pairs : List (Str × Str)), vs = [.ref r] ∧ TabAt H r kinds pairs ∧ TableOk kinds pairs ∧ ∀ H', Ex H H' → Q (.bl true) H'
theorem own_istable (D : Def K mg "is_table" sIsTable) (B : Blt mg) (OK : Own P w K mg base "are_kinds" ["thing"] 2 spAreKinds) (OC : Own P w K mg base "are_conflicts" ["kinds", "thing"] 2 spAreConf) : Own P w K mg base "is_table" ["thing"] 3 spIsTable := by
  refine D.own scIsTable (fun vs H Q E h => ?_) (fun _ _ _ _ _ _ us hl => match us, hl with | [_], _ => rfl) ?_
  · obtain ⟨r, kinds, pairs, rfl, _⟩ := h
    rfl
  · rintro X H vs Q E ⟨f, cdv, A, outer, s, rfl⟩ hr h
    obtain ⟨r, kinds, pairs, rfl, ⟨k, c, as, hx, hk, hc, hall⟩, ok, q⟩ := h
    have nd := scIsTable.nd
    refine rx_when (bb := false) (TN.is (tn_or (tn_not (tn_v (ev_isTup B (by rfl) (by rfl) (ev_nm 0) hx))) fun _ => tn_ne (ev_len (by rfl) B.len (ev_nm 0) (.inr (st_of hx))) ev_i (by rfl)) (by rfl)) (fun z => by cases z) fun _ => ?_
    refine rx_tup2 1 2 (EM.ev (ev_nm 0) ⟨r, _, _, rfl, st_of hx, ?_⟩) rfl nd
    refine rx_ret (ev_and (bb := true) (cc := true) (en_own OK (hr.mono (by decide)) (by rfl) (AV.cons (ev_nm 1) AV.nil) fun H1 e1 Q k' => ⟨k, kinds, rfl, e1 _ _ hk, ok.few, ok.wd, ok.asc, fun H2 e2 => k' _ _ e2 rfl⟩)
      fun _ => ev_and1 (en_own OC (hr.mono (by decide)) (by rfl) (AV.cons (ev_nm 1) (AV.cons (ev_nm 2) AV.nil)) fun H1 e1 Q k' => ⟨k, c, kinds, as, pairs, rfl, e1 _ _ hk, e1 _ _ hc, hall.imp fun _ _ => PairV.tx e1.tx, by have := ok.plen; omega, fun p hp => ok.pmem hp, ok.pasc, fun H2 e2 => k' _ _ e2 rfl⟩)) q
def spCheck : Sp := fun vs H Q _ => ∃ (r : Addr) (kinds : List Str) (pairs : List (Str × Str)), vs = [.ref r] ∧ TabAt H r kinds pairs ∧ TableOk kinds pairs ∧ ∀ H', Ex H H' → Q .non H'
theorem own_check (D : Def K mg "check_table" sCheck) (O : Own P w K mg base "is_table" ["thing"] 3 spIsTable) : Own P w K mg base "check_table" ["table"] 4 spCheck := by
  refine D.own scCheck (fun vs H Q E h => ?_) (fun _ _ _ _ _ _ us hl => match us, hl with | [_], _ => rfl) ?_
  · obtain ⟨r, kinds, pairs, rfl, _⟩ := h
    rfl
  · rintro X H vs Q E ⟨f, cdv, A, outer, s, rfl⟩ hr h
    obtain ⟨r, kinds, pairs, rfl, ht, ok, q⟩ := h
    refine rx_when (bb := false) (tn_not (tn_v (bb := true) (en_own O hr (by rfl) (AV.cons (ev_nm 0) AV.nil) fun H1 e1 Q k => ⟨r, kinds, pairs, rfl, ht.tx e1.tx, ok, fun H2 e2 => k _ _ e2 rfl⟩))) (fun z => by cases z) fun _ => ?_
    exact rx_end q
end
end E5
set_option Elab.async false
set_option linter.all false
set_option maxRecDepth 100000
set_option maxHeartbeats 4000000
namespace E5
open PySem PySem.Spec PyProof.Rows L2 Evl Y
/-! events, records and their heap -/
def finS (b : Bool) : Str := if b then "keep" else "drop"
def endV (b : Bool) : V := .str (finS b)
def Ev.vals : Ev → List V
  | .doo t k => [.str "do", .int t, .str k]
  | .back t i => [.str "back", .int t, .int i]
  | .fin t b => [.str (finS b), .int t]
def EvAt (H : Hp) (v : V) (e : Ev) : Prop := ∃ p, v = .ref p ∧ H p = some (.tup e.vals)
theorem EvAt.tx {H H' : Hp} (x : Tx H H') {v : V} {e : Ev} (h : EvAt H v e) : EvAt H' v e := let ⟨p, a, b⟩ := h; ⟨p, a, x _ _ b⟩
def rF (kv : Addr) (n : Nat) (dw ds de dt : Addr) : List (Str × V) := [("kinds", .ref kv), ("length", .int (n : Int)), ("owners", .ref dw), ("steps", .ref ds), ("ends", .ref de), ("taken", .ref dt)]
section
variable {kv dw ds de dt : Addr} {n : Nat}
theorem rF_kinds : (rF kv n dw ds de dt).lookup ("kinds" : Str) = some (.ref kv) := lk_here
theorem rF_length : (rF kv n dw ds de dt).lookup ("length" : Str) = some (.int (n : Int)) := (lk_past (by decide +kernel)).trans lk_here
theorem rF_owners : (rF kv n dw ds de dt).lookup ("owners" : Str) = some (.ref dw) := (lk_past (by decide +kernel)).trans ((lk_past (by decide +kernel)).trans lk_here)
theorem rF_steps : (rF kv n dw ds de dt).lookup ("steps" : Str) = some (.ref ds) := (lk_past (by decide +kernel)).trans ((lk_past (by decide +kernel)).trans ((lk_past (by decide +kernel)).trans lk_here))
theorem rF_ends : (rF kv n dw ds de dt).lookup ("ends" : Str) = some (.ref de) := (lk_past (by decide +kernel)).trans ((lk_past (by decide +kernel)).trans ((lk_past (by decide +kernel)).trans ((lk_past (by decide +kernel)).trans lk_here)))
theorem rF_taken : (rF kv n dw ds de dt).lookup ("taken" : Str) = some (.ref dt) := (lk_past (by decide +kernel)).trans ((lk_past (by decide +kernel)).trans ((lk_past (by decide +kernel)).trans ((lk_past (by decide +kernel)).trans ((lk_past (by decide +kernel)).trans lk_here))))
theorem rF_no {m : Str} (h1 : (m == ("kinds" : Str)) = false) (h2 : (m == ("length" : Str)) = false) (h3 : (m == ("steps" : Str)) = false) (h4 : (m == ("ends" : Str)) = false) (h5 : (m == ("taken" : Str)) = false) (h6 : (m == ("owners" : Str)) = false) : (rF kv n dw ds de dt).lookup m = none :=
  (lk_past h1).trans ((lk_past h2).trans ((lk_past h6).trans ((lk_past h3).trans ((lk_past h4).trans ((lk_past h5).trans rfl)))))
theorem rF_put (m : Int) (h : m = ((n + 1 : Nat) : Int)) : putF "length" (.int m) (rF kv n dw ds de dt) = rF kv (n + 1) dw ds de dt := by
  subst h
  exact (put_past (by decide +kernel)).trans (congrArg _ put_here)
end
theorem rF_new (kv d0 d1 d2 d3 : Addr) : putF ("taken" : Str) (V.ref d3) (putF ("ends" : Str) (V.ref d2) (putF ("steps" : Str) (V.ref d1) (putF ("owners" : Str) (V.ref d0) (putF ("length" : Str) (V.int 0) (putF ("kinds" : Str) (V.ref kv) []))))) = rF kv 0 d0 d1 d2 d3 := by
  have n1 : ¬ ("kinds" : Str) = "length" := by decide +kernel
  have n2 : ¬ ("kinds" : Str) = "steps" := by decide +kernel
  have n3 : ¬ ("kinds" : Str) = "ends" := by decide +kernel
  have n4 : ¬ ("kinds" : Str) = "taken" := by decide +kernel
  have n5 : ¬ ("length" : Str) = "steps" := by decide +kernel
  have n6 : ¬ ("length" : Str) = "ends" := by decide +kernel
  have n7 : ¬ ("length" : Str) = "taken" := by decide +kernel
  have n8 : ¬ ("steps" : Str) = "ends" := by decide +kernel
  have n9 : ¬ ("steps" : Str) = "taken" := by decide +kernel
  have n10 : ¬ ("ends" : Str) = "taken" := by decide +kernel
  have m1 : ¬ ("kinds" : Str) = "owners" := by decide +kernel
  have m2 : ¬ ("length" : Str) = "owners" := by decide +kernel
  have m3 : ¬ ("owners" : Str) = "steps" := by decide +kernel
  have m4 : ¬ ("owners" : Str) = "ends" := by decide +kernel
  have m5 : ¬ ("owners" : Str) = "taken" := by decide +kernel
  simp only [putF, n1, n2, n3, n4, n5, n6, n7, n8, n9, n10, m1, m2, m3, m4, m5, if_false]
  rfl
/-- the class -/
structure RecT (K : PySem.W.Frag) (C : Addr) : Prop where
  cl : Cls K C
  nK : NoAttr K C "kinds"
  nL : NoAttr K C "length"
  nO : NoAttr K C "owners"
  nS : NoAttr K C "steps"
  nE : NoAttr K C "ends"
  nT : NoAttr K C "taken"
/-- the owners -/
def owL (ow : List (Int × Int)) : List (Key × V) := ow.map fun p => (Sum.inl p.1, .int p.2)
/-- its parts: where the steps of each transaction are -/
structure RecP (F : Addr → Prop) (H : Hp) (s : S) (ow : List (Int × Int)) (dw ds de dt : Addr) (ls : Int → Addr) : Prop where
  hs : ∃ sk, H ds = some (.dK sk) ∧ (∀ t, valV sk (.inl t) = if s.steps t = [] then none else some (.ref (ls t))) ∧ sk.length ≤ s.n
  he : ∃ ek, H de = some (.dK ek) ∧ (∀ t, valV ek (.inl t) = (s.ends t).map endV) ∧ ek.length ≤ s.n
  ht : ∃ tk, H dt = some (.dK tk) ∧ (∀ i t, i ∈ s.taken t → ∃ x : Int, valV tk (.inl i) = some (.int x)) ∧ (∀ i, (∀ t, i ∉ s.taken t) → valV tk (.inl i) = none) ∧ tk.length ≤ s.n
  ne : ds ≠ de ∧ ds ≠ dt ∧ de ≠ dt
  fp : F ds ∧ F de ∧ F dt
  hl : ∀ t, s.steps t ≠ [] → F (ls t) ∧ H (ls t) = some (.lst ((s.steps t).map V.int))
  inj : ∀ t u, s.steps t ≠ [] → s.steps u ≠ [] → ls t = ls u → t = u
  hs2 : ∃ ts : List Int, H ds = some (.dK (ts.map fun t => (Sum.inl t, .ref (ls t)))) ∧ ts.Nodup
  he2 : H de = some (.dK (s.fs.map fun p => (Sum.inl p.1, endV p.2)))
  ho : H dw = some (.dK (owL ow))
  nw : dw ≠ ds ∧ dw ≠ de ∧ dw ≠ dt
  fw : F dw
def RecAt (C : Addr) (F : Addr → Prop) (H : Hp) (r kv : Addr) (s : S) : Prop := ∃ dx dw ds de dt ls, H r = some (.ins C dx (rF kv s.n dw ds de dt)) ∧ F r ∧ RecP F H s s.os dw ds de dt ls
theorem RecP.mono {F : Addr → Prop} {H H' : Hp} {s : S} {ow : List (Int × Int)} {dw ds de dt : Addr} {ls : Int → Addr} (h : RecP F H s ow dw ds de dt ls) (e : Ex H H') : RecP F H' s ow dw ds de dt ls :=
  ⟨let ⟨k, a, b⟩ := h.hs; ⟨k, e _ _ a, b⟩, let ⟨k, a, b⟩ := h.he; ⟨k, e _ _ a, b⟩, let ⟨k, a, b⟩ := h.ht; ⟨k, e _ _ a, b⟩, h.ne, h.fp, fun t ht => ⟨(h.hl t ht).1, e _ _ (h.hl t ht).2⟩, h.inj, let ⟨ts, a, b⟩ := h.hs2; ⟨ts, e _ _ a, b⟩, e _ _ h.he2, e _ _ h.ho, h.nw, h.fw⟩
theorem RecAt.mono {C : Addr} {F : Addr → Prop} {H H' : Hp} {r kv : Addr} {s : S} (h : RecAt C F H r kv s) (e : Ex H H') : RecAt C F H' r kv s := let ⟨dx, dw, ds, de, dt, ls, a, b, c⟩ := h; ⟨dx, dw, ds, de, dt, ls, e _ _ a, b, c.mono e⟩
/-- what is outside stands -/
def Kp (F : Addr → Prop) (H H' : Hp) : Prop := ∀ a o, ¬ F a → H a = some o → H' a = some o
theorem Kp.trans {F : Addr → Prop} {H H1 H2 : Hp} (a : Kp F H H1) (b : Kp F H1 H2) : Kp F H H2 := fun x o n h => b x o n (a x o n h)
theorem Kp.upd {F : Addr → Prop} {H : Hp} {p : Addr} {o : HO} (h : F p) : Kp F H (upd H p o) := fun a u n z => by
  rw [upd_ne (fun e => n (by rw [e]; exact h))]; exact z
theorem _root_.Evl.Ex.kp {F : Addr → Prop} {H H1 : Hp} (e : Ex H H1) : Kp F H H1 := fun a o _ h => e a o h
abbrev sRec : Stmt := topS 20
abbrev sRInit : Stmt := inClass sRec 0
abbrev sRAllows : Stmt := inClass sRec 1
abbrev sREnd : Stmt := inClass sRec 2
abbrev sRBack : Stmt := inClass sRec 3
abbrev sRNote : Stmt := inClass sRec 4
abbrev sRState : Stmt := inClass sRec 5
theorem scRInit : FnScope ["self", "kinds"] ["self", "kinds"] (defScope sRInit) := ⟨rfl, rfl, rfl, by decide +kernel, rfl, by decide +kernel, by decide +kernel⟩
theorem scRAllows : FnScope ["self", "thing", "word", "t", "rest"] ["self", "thing"] (defScope sRAllows) := ⟨rfl, rfl, rfl, by decide +kernel, rfl, by decide +kernel, by decide +kernel⟩
theorem scREnd : FnScope ["self", "word", "t"] ["self", "word", "t"] (defScope sREnd) := ⟨rfl, rfl, rfl, by decide +kernel, rfl, by decide +kernel, by decide +kernel⟩
theorem scRBack : FnScope ["self", "t", "i"] ["self", "t", "i"] (defScope sRBack) := ⟨rfl, rfl, rfl, by decide +kernel, rfl, by decide +kernel, by decide +kernel⟩
theorem scRNote : FnScope ["self", "event", "word", "t"] ["self", "event"] (defScope sRNote) := ⟨rfl, rfl, rfl, by decide +kernel, rfl, by decide +kernel, by decide +kernel⟩
section
variable {P : Program} {w : World} {K : PySem.W.Frag} {mg : Str → Option Value} {base : Heap} {C : Addr}
theorem in_ints {i : Int} {l : List Int} : inV (.int i) (l.map V.int) = decide (i ∈ l) := by
  induction l with
  | nil => rfl
  | cons x r ih =>
    show (eqV (.int x) (.int i) || inV (.int i) (r.map V.int)) = _
    rw [ih]
    show (x == i || _) = _
    by_cases h : x = i
    · subst h; simp
    · have : ¬ i = x := fun e => h e.symm
      simp [h, this, List.mem_cons]
theorem flat_ints (l : List Int) : (l.map V.int).all flatV = true := by
  rw [List.all_eq_true]
  intro x hx
  obtain ⟨s, _, rfl⟩ := List.mem_map.mp hx
  rfl
/-- __init__ -/
def spRInit (C : Addr) : Sp := fun vs H Q _ => ∃ (p dx kv : Addr) (F : Addr → Prop), vs = [.ref p, .ref kv] ∧ H p = some (.ins C dx []) ∧ F p ∧ (∀ a, H a = none → F a) ∧
  ∀ H' : Hp, Kp F H H' → RecAt C F H' p kv S.zero → Q .non H'
theorem own_rinit {nm : Str} (D : DefI K mg nm "Record.__init__" C sRInit) (T : RecT K C) : OwnI P w K mg base nm C ["self", "kinds"] 1 (spRInit C) := by
  refine D.own scRInit (fun vs H Q E h => ?_) (fun _ _ _ _ _ _ us hl => match us, hl with | [_, _], _ => rfl) ?_
  · obtain ⟨p, dx, kv, F, rfl, _⟩ := h
    rfl
  · rintro X H vs Q E ⟨f, cdv, A, outer, s, rfl⟩ hr h
    obtain ⟨p, dx, kv, F, rfl, hp, fp, fn, q⟩ := h
    have nd := scRInit.nd
    refine rx_fldV (ev_nm 1) (ev_nm 0) hp T.cl T.nK (by show 0 < 1000; decide) ?_
    refine rx_fldV ev_i (ev_nm 0) upd_same T.cl T.nL (by show 1 < 1000; decide) ?_
    generalize eH1 : upd (upd H p (.ins C dx (putF "kinds" (.ref kv) []))) p (.ins C dx (putF "length" (.int 0) (putF "kinds" (.ref kv) []))) = H1
    have k1 : Kp F H H1 := by rw [← eH1]; exact (Kp.upd fp).trans (Kp.upd fp)
    have p1 : H1 p = some (.ins C dx (putF "length" (.int 0) (putF "kinds" (.ref kv) []))) := by rw [← eH1]; exact upd_same
    have f1 : ∀ a, H1 a = none → F a := fun a ha => fn a (by
      rw [← eH1] at ha
      by_cases e : a = p
      · rw [e, upd_same] at ha; cases ha
      · rwa [upd_ne e, upd_ne e] at ha)
    refine rx_fld (em_dict0 fun d0 n0 => ⟨p, C, dx, _, ev_nm 0, by rw [upd_ne (ne_of_none p1 n0)]; exact p1, T.cl, T.nO, by show 2 < 1000; decide, ?_⟩)
    generalize eH2 : upd (upd H1 d0 (.dK [])) p (.ins C dx (putF "owners" (.ref d0) (putF "length" (.int 0) (putF "kinds" (.ref kv) [])))) = H2
    have hd0 : d0 ≠ p := fun e => by rw [e, p1] at n0; cases n0
    have k2 : Kp F H H2 := by rw [← eH2]; exact (k1.trans (Kp.upd (f1 d0 n0))).trans (Kp.upd fp)
    have p2 : H2 p = some (.ins C dx (putF "owners" (.ref d0) (putF "length" (.int 0) (putF "kinds" (.ref kv) [])))) := by rw [← eH2]; exact upd_same
    have d02 : H2 d0 = some (.dK []) := by rw [← eH2, upd_ne hd0, upd_same]
    have f2 : ∀ a, H2 a = none → F a := fun a ha => f1 a (by
      rw [← eH2] at ha
      by_cases e : a = p
      · rw [e, upd_same] at ha; cases ha
      · rw [upd_ne e] at ha
        by_cases e' : a = d0
        · rw [e', upd_same] at ha; cases ha
        · rwa [upd_ne e'] at ha)
    refine rx_fld (em_dict0 fun d1 n1 => ⟨p, C, dx, _, ev_nm 0, by rw [upd_ne (ne_of_none p2 n1)]; exact p2, T.cl, T.nS, by show 3 < 1000; decide, ?_⟩)
    generalize eH3 : upd (upd H2 d1 (.dK [])) p (.ins C dx (putF "steps" (.ref d1) (putF "owners" (.ref d0) (putF "length" (.int 0) (putF "kinds" (.ref kv) []))))) = H3
    have hd1 : d1 ≠ p := fun e => by rw [e, p2] at n1; cases n1
    have hd01 : d0 ≠ d1 := fun e => by rw [← e, d02] at n1; cases n1
    have k3 : Kp F H H3 := by rw [← eH3]; exact (k2.trans (Kp.upd (f2 d1 n1))).trans (Kp.upd fp)
    have p3 : H3 p = some (.ins C dx (putF "steps" (.ref d1) (putF "owners" (.ref d0) (putF "length" (.int 0) (putF "kinds" (.ref kv) []))))) := by rw [← eH3]; exact upd_same
    have d03 : H3 d0 = some (.dK []) := by rw [← eH3, upd_ne hd0, upd_ne hd01]; exact d02
    have d13 : H3 d1 = some (.dK []) := by rw [← eH3, upd_ne hd1, upd_same]
    have f3 : ∀ a, H3 a = none → F a := fun a ha => f2 a (by
      rw [← eH3] at ha
      by_cases e : a = p
      · rw [e, upd_same] at ha; cases ha
      · rw [upd_ne e] at ha
        by_cases e' : a = d1
        · rw [e', upd_same] at ha; cases ha
        · rwa [upd_ne e'] at ha)
    refine rx_fld (em_dict0 fun d2 n2 => ⟨p, C, dx, _, ev_nm 0, by rw [upd_ne (ne_of_none p3 n2)]; exact p3, T.cl, T.nE, by show 4 < 1000; decide, ?_⟩)
    generalize eH4 : upd (upd H3 d2 (.dK [])) p (.ins C dx (putF "ends" (.ref d2) (putF "steps" (.ref d1) (putF "owners" (.ref d0) (putF "length" (.int 0) (putF "kinds" (.ref kv) [])))))) = H4
    have hd2 : d2 ≠ p := fun e => by rw [e, p3] at n2; cases n2
    have hd02 : d0 ≠ d2 := fun e => by rw [← e, d03] at n2; cases n2
    have hd12 : d1 ≠ d2 := fun e => by rw [← e, d13] at n2; cases n2
    have k4 : Kp F H H4 := by rw [← eH4]; exact (k3.trans (Kp.upd (f3 d2 n2))).trans (Kp.upd fp)
    have p4 : H4 p = some (.ins C dx (putF "ends" (.ref d2) (putF "steps" (.ref d1) (putF "owners" (.ref d0) (putF "length" (.int 0) (putF "kinds" (.ref kv) [])))))) := by rw [← eH4]; exact upd_same
    have d04 : H4 d0 = some (.dK []) := by rw [← eH4, upd_ne hd0, upd_ne hd02]; exact d03
    have d14 : H4 d1 = some (.dK []) := by rw [← eH4, upd_ne hd1, upd_ne hd12]; exact d13
    have d24 : H4 d2 = some (.dK []) := by rw [← eH4, upd_ne hd2, upd_same]
    have f4 : ∀ a, H4 a = none → F a := fun a ha => f3 a (by
      rw [← eH4] at ha
      by_cases e : a = p
      · rw [e, upd_same] at ha; cases ha
      · rw [upd_ne e] at ha
        by_cases e' : a = d2
        · rw [e', upd_same] at ha; cases ha
        · rwa [upd_ne e'] at ha)
    refine rx_fld (em_dict0 fun d3 n3 => ⟨p, C, dx, _, ev_nm 0, by rw [upd_ne (ne_of_none p4 n3)]; exact p4, T.cl, T.nT, by show 5 < 1000; decide, ?_⟩)
    have hd3 : d3 ≠ p := fun e => by rw [e, p4] at n3; cases n3
    have hd03 : d0 ≠ d3 := fun e => by rw [← e, d04] at n3; cases n3
    have hd13 : d1 ≠ d3 := fun e => by rw [← e, d14] at n3; cases n3
    have hd23 : d2 ≠ d3 := fun e => by rw [← e, d24] at n3; cases n3
    have g0 : upd (upd H4 d3 (.dK [])) p (.ins C dx (putF "taken" (.ref d3) (putF "ends" (.ref d2) (putF "steps" (.ref d1) (putF "owners" (.ref d0) (putF "length" (.int 0) (putF "kinds" (.ref kv) []))))))) d0 = some (.dK []) := by rw [upd_ne hd0, upd_ne hd03]; exact d04
    have g1 : upd (upd H4 d3 (.dK [])) p (.ins C dx (putF "taken" (.ref d3) (putF "ends" (.ref d2) (putF "steps" (.ref d1) (putF "owners" (.ref d0) (putF "length" (.int 0) (putF "kinds" (.ref kv) []))))))) d1 = some (.dK []) := by rw [upd_ne hd1, upd_ne hd13]; exact d14
    have g2 : upd (upd H4 d3 (.dK [])) p (.ins C dx (putF "taken" (.ref d3) (putF "ends" (.ref d2) (putF "steps" (.ref d1) (putF "owners" (.ref d0) (putF "length" (.int 0) (putF "kinds" (.ref kv) []))))))) d2 = some (.dK []) := by rw [upd_ne hd2, upd_ne hd23]; exact d24
    have g3 : upd (upd H4 d3 (.dK [])) p (.ins C dx (putF "taken" (.ref d3) (putF "ends" (.ref d2) (putF "steps" (.ref d1) (putF "owners" (.ref d0) (putF "length" (.int 0) (putF "kinds" (.ref kv) []))))))) d3 = some (.dK []) := by rw [upd_ne hd3, upd_same]
    refine rx_end fun H5 e5 => q H5 (((k4.trans (Kp.upd (f4 d3 n3))).trans (Kp.upd fp)).trans e5.kp) ⟨dx, d0, d1, d2, d3, fun _ => d1, e5 _ _ (upd_same.trans (congrArg (fun z => some (HO.ins C dx z)) ?_)), fp,
      ⟨⟨[], e5 _ _ g1, fun _ => rfl, Nat.le_refl _⟩, ⟨[], e5 _ _ g2, fun _ => rfl, Nat.le_refl _⟩, ⟨[], e5 _ _ g3, fun _ _ h => (nomatch h), fun _ _ => rfl, Nat.le_refl _⟩,
        ⟨hd12, hd13, hd23⟩, ⟨f2 d1 n1, f3 d2 n2, f4 d3 n3⟩, fun _ h => absurd rfl h, fun _ _ h => absurd rfl h, ⟨[], e5 _ _ g1, List.nodup_nil⟩, e5 _ _ g2, e5 _ _ g0, ⟨hd01, hd02, hd03⟩, f1 d0 n0⟩⟩
    exact rF_new kv d0 d1 d2 d3
end
end E5
set_option Elab.async false
set_option linter.all false
set_option maxRecDepth 100000
set_option maxHeartbeats 4000000
namespace E5
open PySem PySem.Spec PyProof.Rows L2 Evl Y
section
variable {P : Program} {w : World} {K : PySem.W.Frag} {mg : Str → Option Value} {base : Heap} {C : Addr}
theorem ite_isSome {p : Prop} [Decidable p] {v : V} : (if p then none else some v : Option V).isSome = !decide p := by
  by_cases h : p
  · rw [if_pos h, decide_eq_true h]; rfl
  · rw [if_neg h, decide_eq_false h]; rfl
theorem valV_pair {κ : Type} [DecidableEq κ] {k : κ} {v : V} : ∀ {kvs : List (κ × V)}, valV kvs k = some v → (k, v) ∈ kvs
  | [], h => nomatch h
  | (a, b) :: r, h => by
    by_cases e : a = k
    · rw [valV_pos e] at h
      cases h
      rw [← e]; exact List.mem_cons_self
    · rw [valV_neg e] at h
      exact List.mem_cons_of_mem _ (valV_pair h)
theorem owL_val {s : S} (g : Good s) {i t : Int} (h : i ∈ s.steps t) : valV (owL s.os) (.inl i) = some (.int t) := by
  have hm := (g.own i t).mpr h
  cases e : valV (owL s.os) (.inl i) with
  | none => exact absurd (List.mem_map.mpr ⟨_, List.mem_map.mpr ⟨(i, t), hm, rfl⟩, rfl⟩) (valV_not e)
  | some v =>
    obtain ⟨⟨j, u⟩, hj, ej⟩ := List.mem_map.mp (valV_pair e)
    cases ej
    rw [g.inj t u j h ((g.own j u).mp hj)]
theorem owL_none {s : S} (g : Good s) {i : Int} (h : ∀ t, i ∉ s.steps t) : valV (owL s.os) (.inl i) = none := by
  cases e : valV (owL s.os) (.inl i) with
  | none => rfl
  | some v =>
    obtain ⟨⟨j, u⟩, hj, ej⟩ := List.mem_map.mp (valV_pair e)
    cases ej
    exact absurd ((g.own j u).mp hj) (h u)
theorem owL_len {s : S} (g : Good s) : (owL s.os).length ≤ s.n := by
  have h1 : (s.os.map (·.1)).Nodup := (List.pairwise_map.mpr g.osp).imp (fun h => Int.ne_of_lt h)
  have h2 := nodup_le h1 (b := (List.range s.n).map fun (n : Nat) => (n : Int)) fun x hx => by
    obtain ⟨⟨i, t⟩, hm, rfl⟩ := List.mem_map.mp hx
    obtain ⟨z1, z2⟩ := g.lt t i ((g.own i t).mp hm)
    have z1 : 0 ≤ i := z1
    have z2 : i < (s.n : Int) := z2
    exact List.mem_map.mpr ⟨i.toNat, List.mem_range.mpr (by omega), show ((i.toNat : Nat) : Int) = i by omega⟩
  rw [List.length_map, List.length_map, List.length_range] at h2
  rw [owL, List.length_map]; exact h2
theorem map_isSome {o : Option Bool} : (!(o.map endV).isSome) = o.isNone := by cases o <;> rfl
def spREnd (C : Addr) : Sp := fun vs H Q _ => ∃ (r kv : Addr) (F : Addr → Prop) (s : S) (t : Int) (b : Bool), vs = [.ref r, .str (finS b), .int t] ∧ RecAt C F H r kv s ∧ ∀ H', Ex H H' → Q (.bl (s.may [] (.fin t b))) H'
theorem own_rend (D : DefM K C "allows_end" "Record.allows_end" sREnd) (T : RecT K C) : OwnM P w K mg base C "allows_end" ["self", "word", "t"] 1 (spREnd C) := by
  refine D.own scREnd (fun vs H Q E h => ?_) (fun _ _ _ _ _ _ us hl => match us, hl with | [_, _, _], _ => rfl) ?_
  · obtain ⟨r, kv, F, s, t, b, rfl, _⟩ := h
    rfl
  · rintro X H vs Q E ⟨f, cdv, A, outer, st, rfl⟩ hr h
    obtain ⟨r, kv, F, s, t, b, rfl, ⟨dx, dw, ds, de, dt, ls, hR, fR, hP⟩, q⟩ := h
    obtain ⟨sk, hsk, vsk, _⟩ := hP.hs
    obtain ⟨ek, hek, vek, _⟩ := hP.he
    refine rx_ret (EV.is (ev_and (ev_inU (ev_nm 1) (en_tupV (AV.cons ev_s (AV.cons ev_s AV.nil)) (by show 2 ≤ 100000; decide)) (by rfl) (by rfl)) fun _ =>
      ev_and (ev_din (ky := Sum.inl t) (hu_of hr) (ev_nm 2) (ev_fld (ev_nm 0) hR T.cl T.nS rF_steps) hsk) fun _ => ev_and1 (ev_dnotin (ky := Sum.inl t) (hu_of hr) (ev_nm 2) (ev_fld (ev_nm 0) hR T.cl T.nE rF_ends) hek)) ?_) q
    rw [vsk, vek, ite_isSome, map_isSome, show inV (.str (finS b)) [.str "keep", .str "drop"] = true by cases b <;> decide +kernel]
    rfl
def spRBack (C : Addr) : Sp := fun vs H Q _ => ∃ (r kv : Addr) (F : Addr → Prop) (s : S) (t i : Int), vs = [.ref r, .int t, .int i] ∧ RecAt C F H r kv s ∧ Good s ∧ ∀ H', Ex H H' → Q (.bl (s.may [] (.back t i))) H'
theorem own_rback (D : DefM K C "allows_back" "Record.allows_back" sRBack) (T : RecT K C) (OI : Own P w K mg base "is_integer" ["thing"] 1 spIsInt) : OwnM P w K mg base C "allows_back" ["self", "t", "i"] 2 (spRBack C) := by
  refine D.own scRBack (fun vs H Q E h => ?_) (fun _ _ _ _ _ _ us hl => match us, hl with | [_, _, _], _ => rfl) ?_
  · obtain ⟨r, kv, F, s, t, i, rfl, _⟩ := h
    rfl
  · rintro X H vs Q E ⟨f, cdv, A, outer, st, rfl⟩ hr h
    obtain ⟨r, kv, F, s, t, i, rfl, ⟨dx, dw, ds, de, dt, ls, hR, fR, hP⟩, g, q⟩ := h
    obtain ⟨sk, hsk, vsk, _⟩ := hP.hs
    obtain ⟨ek, hek, vek, _⟩ := hP.he
    obtain ⟨tk, htk, vtk, vtn, _⟩ := hP.ht
    have he : (!decide (((valV ek (Sum.inl t)).getD .non) = V.str "drop")) = !decide (s.ends t = some false) := by
      rw [vek]
      cases s.ends t with
      | none => rfl
      | some b => cases b <;> decide +kernel
    refine rx_when (bb := !decide (s.ends t = some false)) (TN.is (tn_or (tn_not (tn_v (bb := true) (en_own OI (hr.mono (by decide)) (by rfl) (AV.cons (ev_nm 2) AV.nil) fun H1 _ Q k => ⟨i, rfl, fun H2 e2 => k _ _ e2 rfl⟩)))
      fun _ => tn_ne (ev_get1 (ky := Sum.inl t) (hu_of hr) (ev_fld (ev_nm 0) hR T.cl T.nE rF_ends) (ev_nm 1) hek) ev_s (by rw [vek]; cases s.ends t <;> rfl)) ?_) (fun hb => ?_) fun hb => ?_
    · rw [he]; rfl
    · rw [Bool.not_eq_true', decide_eq_false_iff_not] at hb
      refine rx_ret ev_b fun H1 e1 => ?_
      have : s.may [] (.back t i) = false := by rw [S.may, decide_eq_false hb]; rfl
      rw [← this]
      exact q H1 e1
    · rw [Bool.not_eq_false', decide_eq_true_eq] at hb
      have hne : s.steps t ≠ [] := fun z => by rw [g.ends t z] at hb; cases hb
      have hw := hP.ho
      rcases Classical.em (∃ u, i ∈ s.steps u) with ⟨u, hi⟩ | hno
      · have hv := owL_val g hi
        refine rx_ret (EV.is (ev_and (ev_din (ky := Sum.inl i) (hu_of hr) (ev_nm 2) (ev_fld (ev_nm 0) hR T.cl T.nO rF_owners) hw) fun _ => ev_and (ev_eq (ev_dgetI (hu_of hr) (ev_fld (ev_nm 0) hR T.cl T.nO rF_owners) (ev_nm 2) hw hv) (ev_nm 1) (by rfl)) fun _ => ev_and1 (ev_dnotin (ky := Sum.inl i) (hu_of hr) (ev_nm 2) (ev_fld (ev_nm 0) hR T.cl T.nT rF_taken) htk)) ?_) q
        rw [hv, S.may, decide_eq_true hb, Bool.true_and]
        by_cases hj : i ∈ s.taken t
        · obtain ⟨x, hx⟩ := vtk i t hj
          rw [hx, decide_eq_true hj, g.inj u t i hi (g.sub t i hj)]; simp
        · by_cases e : u = t
          · subst e
            rw [decide_eq_false hj, vtn i fun u' hu => hj (by rw [g.inj u u' i hi (g.sub u' i hu)]; exact hu), decide_eq_true hi]; simp
          · have hni : i ∉ s.steps t := fun z => e (g.inj u t i hi z)
            rw [decide_eq_false hni]
            have : ¬ (V.int u = V.int t) := fun z => e (V.int.inj z)
            simp [this]
      · have hno : ∀ u, i ∉ s.steps u := fun u hu => hno ⟨u, hu⟩
        refine rx_ret (EV.is (ev_and (bb := false) (cc := false) (EV.is (ev_din (ky := Sum.inl i) (hu_of hr) (ev_nm 2) (ev_fld (ev_nm 0) hR T.cl T.nO rF_owners) hw) (by rw [owL_none g hno]; rfl)) fun z => by cases z) ?_) q
        rw [S.may, decide_eq_false (hno t)]; simp
def spRAllows (C : Addr) : Sp := fun vs H Q _ => ∃ (r kv : Addr) (F : Addr → Prop) (s : S) (ks : List Str) (v : V) (e : Ev), vs = [.ref r, v] ∧ RecAt C F H r kv s ∧ Good s ∧ H kv = some (.tup (ks.map V.str)) ∧ EvAt H v e ∧ e.ok ∧ ∀ H', Ex H H' → Q (.bl (s.may ks e)) H'
theorem own_rallows (D : DefM K C "allows" "Record.allows" sRAllows) (T : RecT K C) (B : Blt mg) (ON : Own P w K mg base "is_natural" ["thing"] 2 spIsNat) (OE : OwnM P w K mg base C "allows_end" ["self", "word", "t"] 1 (spREnd C)) (OB : OwnM P w K mg base C "allows_back" ["self", "t", "i"] 2 (spRBack C)) : OwnM P w K mg base C "allows" ["self", "thing"] 3 (spRAllows C) := by
  refine D.own scRAllows (fun vs H Q E h => ?_) (fun _ _ _ _ _ _ us hl => match us, hl with | [_, _], _ => rfl) ?_
  · obtain ⟨r, kv, F, s, ks, v, e, rfl, _⟩ := h
    rfl
  · rintro X H vs Q E ⟨f, cdv, A, outer, st, rfl⟩ hr h
    obtain ⟨r, kv, F, s, ks, v, e, rfl, hRec, g, hk, ⟨p, rfl, hp⟩, ho, q⟩ := h
    have hRec' := hRec
    obtain ⟨dx, dw, ds, de, dt, ls, hR, fR, hP⟩ := hRec'
    obtain ⟨ek, hek, vek, _⟩ := hP.he
    have nd := scRAllows.nd
    have hr1 : Room 1 _ := hr.mono (by decide)
    have hr2 : Room 2 _ := hr.mono (by decide)
    have hnat : ∀ (σ : L2.St) (H' : Hp) (a : Expr) (q1 q2 : Pos) (n : Int), 0 ≤ n → EV (cxOf CX0 P w K mg base ["self", "thing", "word", "t", "rest"] "Record.allows" (defScope sRAllows) f cdv A outer st H E).nox a σ H' (.int n) → starEach [a] (cxOf CX0 P w K mg base ["self", "thing", "word", "t", "rest"] "Record.allows" (defScope sRAllows) f cdv A outer st H E).nox.env = (false, eval a (cxOf CX0 P w K mg base ["self", "thing", "word", "t", "rest"] "Record.allows" (defScope sRAllows) f cdv A outer st H E).nox.env) :: starEach [] (cxOf CX0 P w K mg base ["self", "thing", "word", "t", "rest"] "Record.allows" (defScope sRAllows) f cdv A outer st H E).nox.env →
        EV (cxOf CX0 P w K mg base ["self", "thing", "word", "t", "rest"] "Record.allows" (defScope sRAllows) f cdv A outer st H E).nox (.Call (.Name "is_natural" q1) [a] [] q2) σ H' (.bl true) := fun σ H' a q1 q2 n hn ha hs =>
      en_own ON hr2 (by rfl) (AV.cons ha AV.nil hs) (fun H1 _ Q k => ⟨n, rfl, fun H2 e2 => k _ _ e2 (by rw [decide_eq_true hn])⟩) (by decide) hs
    refine rx_when (bb := false) (TN.is (tn_or (tn_not (tn_v (ev_isTup B (by rfl) (by rfl) (ev_nm 1) hp))) fun _ => tn_notInU (ev_len (by rfl) B.len (ev_nm 1) (.inr (st_of hp))) (en_tupV (AV.cons ev_i (AV.cons ev_i AV.nil)) (by show 2 ≤ 100000; decide)) (by rfl) (by rfl)) ?_) (fun z => by cases z) fun _ => ?_
    · cases e <;> rfl
    · cases e with
      | fin t b =>
        refine rx_star (x := .str (finS b)) (y := .int t) (xs := []) 2 3 4 (ev_nm 1) (st_of hp) (Nat.zero_le _) (fun rr hrr => ?_) rfl nd
        refine rx_when (bb := false) (tn_not (tn_v (hnat _ _ _ _ _ t ho (ev_nm 3) rfl))) (fun z => by cases z) fun _ => ?_
        refine rx_when (bb := true) (tn_not (tn_truL (ev_nm 4) (sq_of upd_same))) (fun _ => ?_) fun z => by cases z
        exact rx_ret (en_meth (φ := fun v _ => v = .bl (s.may ks (.fin t b))) OE T.cl hr1 (ev_nm 0) ((Ex.new hrr) _ _ hR) (rF_no (by decide +kernel) (by decide +kernel) (by decide +kernel) (by decide +kernel) (by decide +kernel) (by decide +kernel)) (AV.cons (ev_nm 2) (AV.cons (ev_nm 3) AV.nil)) fun H1 e1 Q' k => ⟨r, kv, F, s, t, b, rfl, hRec.mono ((Ex.new hrr).trans e1), fun H2 e2 => k _ _ e2 rfl⟩) fun H1 e1 => q H1 ((Ex.new hrr).trans e1)
      | doo t k =>
        refine rx_star (x := .str "do") (y := .int t) (xs := [.str k]) 2 3 4 (ev_nm 1) (st_of hp) (by show 1 ≤ 1000; decide) (fun rr hrr => ?_) rfl nd
        have eN := Ex.new (o := .lst [.str k]) hrr
        refine rx_when (bb := false) (tn_not (tn_v (hnat _ _ _ _ _ t ho (ev_nm 3) rfl))) (fun z => by cases z) fun _ => ?_
        refine rx_when (bb := false) (tn_not (tn_truL (ev_nm 4) (sq_of upd_same))) (fun z => by cases z) fun _ => ?_
        refine rx_when (bb := true) (TN.is (tn_eq (ev_nm 2) ev_s (by rfl)) (by decide +kernel)) (fun _ => ?_) fun z => by cases z
        refine rx_ret (EV.is (ev_and (ev_in (ev_ixL (ev_nm 4) ev_i (sq_of upd_same) (show atI [V.str k] 0 = some (.str k) from rfl)) (ev_fld (ev_nm 0) (eN _ _ hR) T.cl T.nK rF_kinds) (.inr (st_of (eN _ _ hk))) (by rfl) (flat_strs ks)) fun _ => ev_and1 (ev_dnotin (ky := Sum.inl t) (hu_of hr) (ev_nm 3) (ev_fld (ev_nm 0) (eN _ _ hR) T.cl T.nE rF_ends) (eN _ _ hek))) ?_) fun H1 e1 => q H1 (eN.trans e1)
        rw [in_strs, vek, map_isSome]; rfl
      | back t i =>
        refine rx_star (x := .str "back") (y := .int t) (xs := [.int i]) 2 3 4 (ev_nm 1) (st_of hp) (by show 1 ≤ 1000; decide) (fun rr hrr => ?_) rfl nd
        have eN := Ex.new (o := .lst [.int i]) hrr
        refine rx_when (bb := false) (tn_not (tn_v (hnat _ _ _ _ _ t ho.1 (ev_nm 3) rfl))) (fun z => by cases z) fun _ => ?_
        refine rx_when (bb := false) (tn_not (tn_truL (ev_nm 4) (sq_of upd_same))) (fun z => by cases z) fun _ => ?_
        refine rx_when (bb := false) (TN.is (tn_eq (ev_nm 2) ev_s (by rfl)) (by decide +kernel)) (fun z => by cases z) fun _ => ?_
        refine rx_ret (EV.is (ev_and (bb := true) (cc := s.may ks (.back t i)) (EV.is (ev_eq (ev_nm 2) ev_s (by rfl)) (by decide +kernel)) fun _ => ev_and1 (en_meth (φ := fun v _ => v = .bl (s.may ks (.back t i))) OB T.cl hr2 (ev_nm 0) (eN _ _ hR) (rF_no (by decide +kernel) (by decide +kernel) (by decide +kernel) (by decide +kernel) (by decide +kernel) (by decide +kernel)) (AV.cons (ev_nm 3) (AV.cons (ev_ixL (ev_nm 4) ev_i (sq_of upd_same) (show atI [V.int i] 0 = some (.int i) from rfl)) AV.nil)) fun H1 e1 Q' k => ⟨r, kv, F, s, t, i, rfl, hRec.mono (eN.trans e1), g, fun H2 e2 => k _ _ e2 rfl⟩)) rfl) fun H1 e1 => q H1 (eN.trans e1)
end
end E5
set_option Elab.async false
set_option linter.all false
set_option maxRecDepth 100000
set_option maxHeartbeats 4000000
namespace E5
open PySem PySem.Spec PyProof.Rows L2 Evl Y
section
variable {P : Program} {w : World} {K : PySem.W.Frag} {mg : Str → Option Value} {base : Heap} {C : Addr}
theorem putK_len {κ : Type} [DecidableEq κ] (kvs : List (κ × V)) (k : κ) (v : V) : (putK kvs k v).length ≤ kvs.length + 1 := by
  unfold putK
  split
  · rw [List.length_map]; omega
  · rw [List.length_append]; exact Nat.le_refl _
theorem putK_new {κ : Type} [DecidableEq κ] {kvs : List (κ × V)} {k : κ} {v : V} (h : valV kvs k = none) : putK kvs k v = kvs ++ [(k, v)] := by
  unfold putK
  rw [if_neg]
  rw [valV_any, h]
  exact Bool.false_ne_true
theorem Tx.of_dK {H : Hp} {D : Addr} {xs : List (Key × V)} {o : HO} (h : H D = some (.dK xs)) : Tx H (upd H D o) := fun a zs q => by
  rw [upd_ne (ne_of q h (fun z => nomatch z))]; exact q
theorem Tx.of_lst {H : Hp} {D : Addr} {xs : List V} {o : HO} (h : H D = some (.lst xs)) : Tx H (upd H D o) := fun a zs q => by
  rw [upd_ne (ne_of q h (fun z => nomatch z))]; exact q
theorem Tx.of_ins {H : Hp} {D C dx : Addr} {fs : List (Str × V)} {o : HO} (h : H D = some (.ins C dx fs)) : Tx H (upd H D o) := fun a zs q => by
  rw [upd_ne (ne_of q h (fun z => nomatch z))]; exact q
theorem RecP.updR {F : Addr → Prop} {H : Hp} {s : S} {ow : List (Int × Int)} {dw ds de dt r C dx : Addr} {ls : Int → Addr} {fs : List (Str × V)} {o : HO} (h : RecP F H s ow dw ds de dt ls) (hr : H r = some (.ins C dx fs)) : RecP F (upd H r o) s ow dw ds de dt ls := by
  obtain ⟨sk, a1, a2⟩ := h.hs
  obtain ⟨ek, b1, b2⟩ := h.he
  obtain ⟨tk, c1, c2⟩ := h.ht
  obtain ⟨ts, s1, s2⟩ := h.hs2
  have f1 := h.he2
  have w1 := h.ho
  refine ⟨⟨sk, ?_, a2⟩, ⟨ek, ?_, b2⟩, ⟨tk, ?_, c2⟩, h.ne, h.fp, fun t ht => ⟨(h.hl t ht).1, ?_⟩, h.inj, ⟨ts, by rw [upd_ne (ne_of s1 hr (fun z => nomatch z))]; exact s1, s2⟩, by rw [upd_ne (ne_of f1 hr (fun z => nomatch z))]; exact f1, by rw [upd_ne (ne_of w1 hr (fun z => nomatch z))]; exact w1, h.nw, h.fw⟩
  · rw [upd_ne (ne_of a1 hr (fun z => nomatch z))]; exact a1
  · rw [upd_ne (ne_of b1 hr (fun z => nomatch z))]; exact b1
  · rw [upd_ne (ne_of c1 hr (fun z => nomatch z))]; exact c1
  · rw [upd_ne (ne_of (h.hl t ht).2 hr (fun z => nomatch z))]; exact (h.hl t ht).2
/-- a step more of a transaction that has some -/
theorem RecP.doo1 {F : Addr → Prop} {H : Hp} {s : S} {ow : List (Int × Int)} {dw ds de dt : Addr} {ls : Int → Addr} {t : Int} {k : Str} (h : RecP F H s ow dw ds de dt ls) (hne : s.steps t ≠ []) :
    RecP F (upd H (ls t) (.lst ((s.steps t).map V.int ++ [.int (s.n : Int)]))) (s.note (.doo t k)) ow dw ds de dt ls := by
  obtain ⟨sk, a1, a2, a3⟩ := h.hs
  obtain ⟨ek, b1, b2, b3⟩ := h.he
  obtain ⟨tk, c1, c2, c3, c4⟩ := h.ht
  obtain ⟨ts, s1, s2⟩ := h.hs2
  have f1 := h.he2
  have w1 := h.ho
  have hl := (h.hl t hne).2
  have nil : ∀ u, (s.note (.doo t k)).steps u = [] ↔ s.steps u = [] := fun u => by
    show (if u = t then s.steps u ++ [(s.n : Int)] else s.steps u) = [] ↔ _
    by_cases e : u = t
    · subst e
      rw [if_pos rfl]
      exact ⟨fun z => absurd z (by simp), fun z => absurd z hne⟩
    · rw [if_neg e]
  refine ⟨⟨sk, ?_, fun u => ?_, Nat.le_succ_of_le a3⟩, ⟨ek, ?_, b2, Nat.le_succ_of_le b3⟩, ⟨tk, ?_, c2, c3, Nat.le_succ_of_le c4⟩, h.ne, h.fp, fun u hu => ?_, fun u v hu hv => h.inj u v (fun z => hu ((nil u).mpr z)) (fun z => hv ((nil v).mpr z)), ⟨ts, by rw [upd_ne (ne_of s1 hl (fun z => nomatch z))]; exact s1, s2⟩, by rw [upd_ne (ne_of f1 hl (fun z => nomatch z))]; exact f1, by rw [upd_ne (ne_of w1 hl (fun z => nomatch z))]; exact w1, h.nw, h.fw⟩
  · rw [upd_ne (ne_of a1 hl (fun z => nomatch z))]; exact a1
  · rw [a2 u]
    by_cases e : s.steps u = []
    · rw [if_pos e, if_pos ((nil u).mpr e)]
    · rw [if_neg e, if_neg fun z => e ((nil u).mp z)]
  · rw [upd_ne (ne_of b1 hl (fun z => nomatch z))]; exact b1
  · rw [upd_ne (ne_of c1 hl (fun z => nomatch z))]; exact c1
  · have hu' : s.steps u ≠ [] := fun z => hu ((nil u).mpr z)
    refine ⟨(h.hl u hu').1, ?_⟩
    show _ = some (HO.lst ((if u = t then s.steps u ++ [(s.n : Int)] else s.steps u).map V.int))
    by_cases e : u = t
    · subst e
      rw [upd_same, if_pos rfl, List.map_append]; rfl
    · rw [upd_ne fun z => e (h.inj u t hu' hne z), if_neg e]
      exact (h.hl u hu').2
/-- the first one -/
theorem RecP.doo2 {F : Addr → Prop} {H : Hp} {s : S} {ow : List (Int × Int)} {dw ds de dt q : Addr} {ls : Int → Addr} {t : Int} {k : Str} {sk : List (Key × V)} (h : RecP F H s ow dw ds de dt ls) (hsk : H ds = some (.dK sk)) (hn : s.steps t = []) (hq : H q = none) (fq : F q) :
    ∃ ls', RecP F (upd (upd (upd H q (.lst [])) ds (.dK (putK sk (Sum.inl t) (.ref q)))) q (.lst ([] ++ [.int (s.n : Int)]))) (s.note (.doo t k)) ow dw ds de dt ls' := by
  obtain ⟨sk', a1, a2, a3⟩ := h.hs
  rw [hsk] at a1
  cases a1
  obtain ⟨ek, b1, b2, b3⟩ := h.he
  obtain ⟨tk, c1, c2, c3, c4⟩ := h.ht
  have nds : ds ≠ q := ne_of_none hsk hq
  have nde : de ≠ q := ne_of_none b1 hq
  have ndt : dt ≠ q := ne_of_none c1 hq
  have st : ∀ u, (s.note (.doo t k)).steps u = if u = t then [(s.n : Int)] else s.steps u := fun u => by
    show (if u = t then s.steps u ++ [(s.n : Int)] else s.steps u) = _
    by_cases e : u = t
    · subst e
      rw [if_pos rfl, if_pos rfl, hn]; rfl
    · rw [if_neg e, if_neg e]
  have hlq : ∀ u, s.steps u ≠ [] → ls u ≠ q := fun u hu => ne_of_none (h.hl u hu).2 hq
  obtain ⟨ts, s1, s2⟩ := h.hs2
  have f1 := h.he2
  have w1 := h.ho
  have hts : t ∉ ts := fun z => by
    have hv := a2 t
    rw [if_pos hn] at hv
    rw [hsk] at s1
    have s1 := HO.dK.inj (Option.some.inj s1)
    have hm : (Sum.inl t, V.ref (ls t)) ∈ sk := by rw [s1]; exact List.mem_map.mpr ⟨t, z, rfl⟩
    exact valV_not hv (List.mem_map.mpr ⟨_, hm, rfl⟩)
  refine ⟨fun u => if u = t then q else ls u, ⟨⟨putK sk (Sum.inl t) (.ref q), ?_, fun u => ?_, Nat.le_trans (putK_len _ _ _) (Nat.succ_le_succ a3)⟩, ⟨ek, ?_, b2, Nat.le_succ_of_le b3⟩, ⟨tk, ?_, c2, c3, Nat.le_succ_of_le c4⟩, h.ne, h.fp, fun u hu => ?_, fun u v hu hv => ?_, ⟨ts ++ [t], ?_, ?_⟩, ?_, ?_, h.nw, h.fw⟩⟩
  · rw [upd_ne nds, upd_same]
  · rw [valV_put, st u]
    by_cases e : u = t
    · subst e
      rw [if_pos rfl, if_pos rfl, if_neg (by simp), if_pos rfl]
    · rw [if_neg fun z => e (Sum.inl.inj z), if_neg e, if_neg e, a2 u]
  · rw [upd_ne nde, upd_ne (Ne.symm h.ne.1), upd_ne nde]; exact b1
  · rw [upd_ne ndt, upd_ne (Ne.symm h.ne.2.1), upd_ne ndt]; exact c1
  · rw [st u] at hu ⊢
    by_cases e : u = t
    · subst e
      rw [if_pos rfl, if_pos rfl]
      exact ⟨fq, upd_same⟩
    · rw [if_neg e] at hu
      rw [if_neg e, if_neg e]
      refine ⟨(h.hl u hu).1, ?_⟩
      rw [upd_ne (hlq u hu), upd_ne (ne_of (h.hl u hu).2 hsk (fun z => nomatch z)), upd_ne (hlq u hu)]
      exact (h.hl u hu).2
  · rw [st u] at hu
    rw [st v] at hv
    by_cases e : u = t
    · by_cases e' : v = t
      · exact fun _ => e.trans e'.symm
      · rw [if_neg e'] at hv
        rw [if_pos e, if_neg e']
        exact fun z => absurd z.symm (hlq v hv)
    · rw [if_neg e] at hu
      by_cases e' : v = t
      · rw [if_neg e, if_pos e']
        exact fun z => absurd z (hlq u hu)
      · rw [if_neg e'] at hv
        rw [if_neg e, if_neg e']
        exact h.inj u v hu hv
  · rw [upd_ne nds, upd_same]
    rw [hsk] at s1
    have s1 := HO.dK.inj (Option.some.inj s1)
    have hv := a2 t
    rw [if_pos hn] at hv
    rw [putK_new hv, s1, List.map_append]
    refine congrArg (fun z => some (HO.dK z)) (congr (congrArg _ (List.map_congr_left fun u hu => ?_)) ?_)
    · rw [if_neg (show ¬ u = t from fun z => hts (by rw [← z]; exact hu))]
    · show _ = [(Sum.inl t, V.ref (if t = t then q else ls t))]
      rw [if_pos rfl]
  · exact nodup_snoc s2 hts
  · rw [upd_ne nde, upd_ne (Ne.symm h.ne.1), upd_ne nde]; exact f1
  · have nwq : dw ≠ q := ne_of_none w1 hq
    rw [upd_ne nwq, upd_ne h.nw.1, upd_ne nwq]; exact w1
/-- the owner of a step more -/
theorem RecP.own {F : Addr → Prop} {H : Hp} {s : S} {ow : List (Int × Int)} {dw ds de dt : Addr} {ls : Int → Addr} (ow' : List (Int × Int)) (h : RecP F H s ow dw ds de dt ls) :
    RecP F (upd H dw (.dK (owL ow'))) s ow' dw ds de dt ls := by
  obtain ⟨sk, a1, a2⟩ := h.hs
  obtain ⟨ek, b1, b2⟩ := h.he
  obtain ⟨tk, c1, c2⟩ := h.ht
  obtain ⟨ts, s1, s2⟩ := h.hs2
  refine ⟨⟨sk, ?_, a2⟩, ⟨ek, ?_, b2⟩, ⟨tk, ?_, c2⟩, h.ne, h.fp, fun t ht => ⟨(h.hl t ht).1, ?_⟩, h.inj, ⟨ts, ?_, s2⟩, ?_, upd_same, h.nw, h.fw⟩
  · rw [upd_ne (Ne.symm h.nw.1)]; exact a1
  · rw [upd_ne (Ne.symm h.nw.2.1)]; exact b1
  · rw [upd_ne (Ne.symm h.nw.2.2)]; exact c1
  · rw [upd_ne (ne_of (h.hl t ht).2 h.ho (fun z => nomatch z))]; exact (h.hl t ht).2
  · rw [upd_ne (Ne.symm h.nw.1)]; exact s1
  · rw [upd_ne (Ne.symm h.nw.2.1)]; exact h.he2
theorem owL_snoc {s : S} (g : Good s) (t : Int) : putK (owL s.os) (Sum.inl (s.n : Int)) (.int t) = owL (s.os ++ [((s.n : Int), t)]) := by
  rw [putK_new (owL_none g fun u hu => by have := (g.lt u _ hu).2; omega)]
  unfold owL
  rw [List.map_append]; rfl
theorem RecP.fin {F : Addr → Prop} {H : Hp} {s : S} {ow : List (Int × Int)} {dw ds de dt : Addr} {ls : Int → Addr} {t : Int} {b : Bool} {ek : List (Key × V)} (h : RecP F H s ow dw ds de dt ls) (hek : H de = some (.dK ek)) (hn : s.ends t = none) :
    RecP F (upd H de (.dK (putK ek (Sum.inl t) (endV b)))) (s.note (.fin t b)) ow dw ds de dt ls := by
  obtain ⟨sk, a1, a2, a3⟩ := h.hs
  obtain ⟨ts, s1, s2⟩ := h.hs2
  have f1 := h.he2
  have w1 := h.ho
  obtain ⟨ek', b1, b2, b3⟩ := h.he
  rw [hek] at b1
  cases b1
  obtain ⟨tk, c1, c2, c3, c4⟩ := h.ht
  refine ⟨⟨sk, ?_, a2, Nat.le_succ_of_le a3⟩, ⟨_, upd_same, fun u => ?_, Nat.le_trans (putK_len _ _ _) (Nat.succ_le_succ b3)⟩, ⟨tk, ?_, c2, c3, Nat.le_succ_of_le c4⟩, h.ne, h.fp, fun u hu => ⟨(h.hl u hu).1, ?_⟩, h.inj, ⟨ts, by rw [upd_ne h.ne.1]; exact s1, s2⟩, ?_, by rw [upd_ne h.nw.2.1]; exact w1, h.nw, h.fw⟩
  · rw [upd_ne h.ne.1]; exact a1
  · rw [valV_put]
    show _ = (if u = t then some b else s.ends u).map endV
    by_cases e : u = t
    · subst e
      rw [if_pos rfl, if_pos rfl]; rfl
    · rw [if_neg fun z => e (Sum.inl.inj z), if_neg e, b2 u]
  · rw [upd_ne (Ne.symm h.ne.2.2)]; exact c1
  · rw [upd_ne (ne_of (h.hl u hu).2 hek (fun z => nomatch z))]; exact (h.hl u hu).2
  · rw [upd_same]
    rw [hek] at f1
    have f1 := HO.dK.inj (Option.some.inj f1)
    have hv := b2 t
    rw [hn] at hv
    rw [putK_new hv, f1]
    show _ = some (HO.dK ((s.fs ++ [(t, b)]).map _))
    rw [List.map_append]; rfl
theorem RecP.back {F : Addr → Prop} {H : Hp} {s : S} {ow : List (Int × Int)} {dw ds de dt : Addr} {ls : Int → Addr} {t i : Int} {x : Int} {tk : List (Key × V)} (h : RecP F H s ow dw ds de dt ls) (htk : H dt = some (.dK tk)) :
    RecP F (upd H dt (.dK (putK tk (Sum.inl i) (.int x)))) (s.note (.back t i)) ow dw ds de dt ls := by
  obtain ⟨sk, a1, a2, a3⟩ := h.hs
  obtain ⟨ek, b1, b2, b3⟩ := h.he
  obtain ⟨ts, s1, s2⟩ := h.hs2
  have f1 := h.he2
  have w1 := h.ho
  obtain ⟨tk', c1, c2, c3, c4⟩ := h.ht
  rw [htk] at c1
  cases c1
  have tn : ∀ u j, j ∈ (s.note (.back t i)).taken u ↔ j ∈ s.taken u ∨ (u = t ∧ j = i) := fun u j => by
    show j ∈ (if u = t then s.taken u ++ [i] else s.taken u) ↔ j ∈ s.taken u ∨ (u = t ∧ j = i)
    by_cases e : u = t
    · rw [if_pos e, List.mem_append, List.mem_singleton]
      exact ⟨fun z => z.imp id fun y => ⟨e, y⟩, fun z => z.imp id fun y => y.2⟩
    · rw [if_neg e]
      exact ⟨Or.inl, fun z => z.elim id fun y => absurd y.1 e⟩
  refine ⟨⟨sk, ?_, a2, Nat.le_succ_of_le a3⟩, ⟨ek, ?_, b2, Nat.le_succ_of_le b3⟩, ⟨_, upd_same, fun j u hj => ?_, fun j hj => ?_, Nat.le_trans (putK_len _ _ _) (Nat.succ_le_succ c4)⟩, h.ne, h.fp, fun u hu => ⟨(h.hl u hu).1, ?_⟩, h.inj, ⟨ts, by rw [upd_ne h.ne.2.1]; exact s1, s2⟩, by rw [upd_ne h.ne.2.2]; exact f1, by rw [upd_ne h.nw.2.2]; exact w1, h.nw, h.fw⟩
  · rw [upd_ne h.ne.2.1]; exact a1
  · rw [upd_ne h.ne.2.2]; exact b1
  · rw [valV_put]
    by_cases e : j = i
    · rw [if_pos (congrArg Sum.inl e)]
      exact ⟨x, rfl⟩
    · rw [if_neg fun z => e (Sum.inl.inj z)]
      rcases (tn u j).mp hj with z | ⟨_, z⟩
      · exact c2 j u z
      · exact absurd z e
  · rw [valV_put, if_neg fun z => hj t ((tn t j).mpr (.inr ⟨rfl, Sum.inl.inj z⟩))]
    exact c3 j fun u hu => hj u ((tn u j).mpr (.inl hu))
  · rw [upd_ne (ne_of (h.hl u hu).2 htk (fun z => nomatch z))]; exact (h.hl u hu).2
end
end E5
set_option Elab.async false
set_option linter.all false
set_option maxRecDepth 100000
set_option maxHeartbeats 4000000
namespace Y
open PySem PySem.Spec PyProof.Rows L2 Evl
section
variable {X : Cx} {σ : L2.St} {H H' : Hp} {i j k : Nat} {pos spos px py : Pos} {D : Ends} {rest : List Stmt} {r : Addr} {xs : List V} {elt l tst : Expr} {xn y : Str} {scope : Scope} {own : List (Str × Nat)}
theorem td_of {e : Expr} {bb : Bool} {ψ : Bool → Hp → Prop} (h : TN X e σ H bb) (k : ∀ H2, Ex H H2 → ψ bb H2) : TD X e σ H ψ := ⟨fun H1 e1 => semT_mono (h H1 e1) fun b' H2 ⟨e2, q⟩ => ⟨e2, by subst q; exact k H2 (e1.trans e2)⟩⟩
/-- y = [.. for x in list if ..] on one line -/
theorem rx_setLt (i j : Nat) (hc : X.calm = true) (hN : X.N.Nodup) (ok : BlkOk X.N X.env.scope scope own) (hl : EN X l σ H fun v H2 => ∃ r, v = .ref r ∧ SqL X.K H2 r xs) (hz : xs.length ≤ 100000)
    (hg : ∀ (s : Shared) (H : Hp) (C : Addr) (cl : List (Str × Addr)) (fp : List Addr), PG (X.blk s H scope (compEnvC scope cl C X.env) fp) (.Name xn px) (gName j))
    (hw : ∀ v, wipe ((wipe σ (own.map (·.2))).set j (some v)) (own.map (·.2)) = wipe σ (own.map (·.2)))
    (P : Nat → List V → Hp → Prop) (hP : ∀ n acc H1 H2, Tx H1 H2 → P n acc H1 → P n acc H2) (h0 : P 0 [] H)
    (hs : ∀ n x acc Hb (s : Shared) (H' : Hp) (C : Addr) (cl : List (Str × Addr)) (fp : List Addr), xs[n]? = some x → Ex H Hb → P n acc Hb →
      TD (X.blk s H' scope (compEnvC scope cl C X.env) fp) tst ((wipe σ (own.map (·.2))).set j (some x)) Hb fun b H3 => if b = true then
        ∀ (s : Shared) (H' : Hp) (C : Addr) (cl : List (Str × Addr)) (fp : List Addr), EN (X.blk s H' scope (compEnvC scope cl C X.env) fp) elt ((wipe σ (own.map (·.2))).set j (some x)) H3 fun v H2 => P (n + 1) (acc ++ [v]) H2 else P (n + 1) acc H3)
    (k : ∀ (D' : Addr) (acc : List V) (H2 : Hp), Ex H H2 → H D' = none → H2 D' = some (.lst acc) → acc.length ≤ xs.length → P xs.length acc H2 → RX X rest D (σ.set i (some (.ref D'))) H2)
    (hi : X.N[i]? = some y := by rfl) (hyl : X.env.scope.names.lookup y = some .local := by rfl) (hsw : swapsWith (.ListComp elt [⟨.Name xn px, l, [tst], 0⟩] scope pos) (some (.Name y py)) spos.line X.env = pure true := by rfl)
    (hfo : ∀ x, foldedSetIterable l X.env x = pure x := by intro _; rfl) :
    RX X (.Assign [.Name y py] (.ListComp elt [⟨.Name xn px, l, [tst], 0⟩] scope pos) spos :: rest) D σ H :=
  rx_of (ps_setLc hc hN hi hyl hsw (pi_list pe_sem) ok hg (fun s H' C cl fp => pts_one (pt_blk s H' C cl fp)) (fun s H' C cl fp => pe_blk s H' C cl fp) hfo) fun H1 e1 => sem_mono (hl H1 e1) fun v H2 ⟨e2, r, er, hx⟩ => ⟨r, er, ⟨xs, hx⟩, fun D hD =>
    lc_list (xs := xs) (LcW H2 D P) ⟨[], Nat.le_refl _, hD, Ex.new hD, upd_same, hP _ _ _ _ (Tx.trans (e1.trans e2).tx (Ex.new hD).tx) h0⟩ (fun i H' _ p => let ⟨_, _, _, e, _, _⟩ := p; ex_l e hx)
      (fun i x H' hi ⟨acc, q1, q2, q3, q4, q5⟩ => ⟨hw x, fun s H'' C cl fp => semT_mono (hs i x acc H' s H'' C cl fp hi ((e1.trans e2).trans q3) q5 H' (Ex.refl H')) fun b H3 ⟨e3, q6⟩ => by
        cases b with
        | true =>
          rw [if_pos rfl] at q6 ⊢
          exact fun s H'' C cl fp => sem_mono (q6 s H'' C cl fp H3 (Ex.refl H3)) fun v H4 ⟨e4, q7⟩ =>
            LcW.push hP q1 q2 ((q3.trans e3).trans e4) ((e3.trans e4) D _ q4) (by have := (List.getElem?_eq_some_iff.mp hi).1; omega) q7
        | false =>
          rw [if_neg Bool.false_ne_true] at q6 ⊢
          exact ⟨acc, Nat.le_succ_of_le q1, q2, q3.trans e3, e3 D _ q4, q6⟩⟩)
      (fun H' ⟨acc, q1, q2, q3, q4, q5⟩ => k D acc H' ((e1.trans e2).trans q3) (fresh_back (e1.trans e2) q2) q4 q1 q5 H' (Ex.refl H'))⟩
variable {e a b c f o : Expr} {φ ψ : V → Hp → Prop} {p C : Addr} {m : Str} {ps : List Str} {lv : Nat} {sp : Sp} {es : List Expr} {us : List V} {apos : Pos}
/-- e is not None, e something -/
theorem en_isnotN {j} {q : Pos} (ha : EN X a σ H fun v _ => v ≠ .non) : EN X (.Compare a [.IsNot] [.Constant .none j q] pos) σ H fun v _ => v = .bl true :=
  EN.of (pe_cmpR op_notN pe_sem pe_non (nomark _)) fun H1 e1 => sem_mono (ha H1 e1) fun v H2 ⟨e2, q⟩ => ⟨rfl, e2, by rw [decide_eq_false q]; rfl⟩
/-- e.m(..), the object made by e -/
theorem en_methN {pl : Sem Bool} (O : OwnM X.prog X.w X.K X.mg X.base C m ps lv sp) (c : Cls X.K C) (hr : Room lv X.A) (ho : EN X o σ H φ) (ha : AV X (e :: es) σ H us)
    (h : ∀ v H2, Ex H H2 → φ v H2 → ∃ p dx fs, v = .ref p ∧ H2 p = some (.ins C dx fs) ∧ fs.lookup m = none ∧ ∀ H1, Ex H2 H1 → ∀ Q : VK, (∀ v H3, Ex H1 H3 → ψ v H3 → Q v H3) → sp (.ref p :: us) H1 Q (fun _ _ _ => False))
    (hst : starEach (e :: es) X.env = (false, eval e X.env) :: starEach es X.env := by rfl) (hpl : (backTo pos (starEach es X.env)).any (·.1) = false := by rfl)
    (ht : eval (.Call (.Attribute o m apos) (e :: es) [] pos) X.env = (do
      let ov ← eval o X.env
      standAt apos.atName
      let (f, first) ← holding [ov] (getMethod ov m pl)
      callWith pos f first (backTo pos (starEach (e :: es) X.env)) (backToKw pos (keywordEach [] X.env))) := by rfl) : EN X (.Call (.Attribute o m apos) (e :: es) [] pos) σ H ψ := by
  obtain ⟨g, fd, F, M, hb⟩ := O.ex
  exact EN.of (pe_meth pe_sem c M F hr hb .nil pass0 pa_sem hst hpl ht) fun H1 e1 => sem_mono (ho H1 e1) fun v H2 ⟨e2, q⟩ => by
    obtain ⟨p, dx, fs, rfl, hp, hm, k⟩ := h v H2 (e1.trans e2) q
    exact ⟨p, dx, fs, rfl, hp, hm, semA_mono (ha H2 (e1.trans e2)) fun vs H3 ⟨e3, kk⟩ => by
      subst kk
      rw [List.append_nil]
      exact k H3 e3 _ fun v H4 e4 q => ⟨(e2.trans e3).trans e4, q⟩⟩
end
end Y
set_option Elab.async false
set_option linter.all false
set_option maxRecDepth 100000
set_option maxHeartbeats 4000000
namespace Y
open PySem PySem.Spec PyProof.Rows L2 Evl
section
variable {X : Cx} {σ : L2.St} {H H' : Hp} {v w x y z : V} {e a b c f o : Expr} {i j k : Nat} {K : PySem.W.Frag} {n m : Int} {pos pos' apos cpos p1 p2 p3 q1 q2 px py pt : Pos} {D : Ends} {rest : List Stmt} {R : V → Hp → Prop} {l p r C dx : Addr} {xs ys : List V} {φ ψ : V → Hp → Prop} {nm : Str}
/-- (a, b), a told by what is true of it -/
theorem en_tup2N {x1} (ha : EN X a σ H φ) (hb : EV X b σ H w) (he : starEach [a, b] X.env = (false, eval a X.env) :: starEach [b] X.env := by rfl) (he2 : starEach [b] X.env = (false, eval b X.env) :: starEach [] X.env := by rfl) :
    EN X (.Tuple [a, b] x1 pos) σ H fun v H2 => ∃ (p : Addr) (u : V) (H3 : Hp), v = .ref p ∧ H2 p = some (.tup [u, w]) ∧ φ u H3 ∧ Ex H3 H2 :=
  EN.of (pe_tup (pa_cons pe_sem (pa_cons pe_sem pa_nil he2) he)) fun H1 e1 => sem_mono (ha H1 e1) fun u H2 ⟨e2, q⟩ => EV.ev hb H2 (e1.trans e2) _ fun H3 e3 => ⟨by show 2 ≤ sizeLine; decide, fun p hp => ⟨(e2.trans e3).trans (Ex.new hp), p, u, H2, rfl, upd_same, q, e3.trans (Ex.new hp)⟩⟩
/-- [f(x)] of described values -/
theorem en_ixTN {α : V → Hp → Prop} (ha : EN X a σ H φ) (hb : EV X b σ H (.int n)) (k : ∀ v H2, Ex H H2 → φ v H2 → ∃ r xs c, v = .ref r ∧ (SqL X.K H2 r xs ∨ SqT X.K H2 r xs) ∧ atI xs n = some c ∧ ∀ H3, Ex H2 H3 → α c H3) (hs : PlainIx b := by exact fun _ _ => rfl) : EN X (.Subscript a b pos) σ H α := by
  refine EN.of (pe_ix (IxR.or ix_list ix_tup) pe_sem pe_sem hs) fun H1 e1 => sem_mono (ha H1 e1) fun v H2 ⟨e2, q⟩ => ?_
  obtain ⟨r, xs, c, ev, h, g, kk⟩ := k v H2 (e1.trans e2) q
  refine EV.ev hb H2 (e1.trans e2) _ fun H3 e3 => ?_
  rcases h with h | h
  · exact .inl ⟨r, xs, n, c, ev, rfl, ex_l e3 h, g, e2.trans e3, kk H3 e3⟩
  · exact .inr ⟨r, xs, n, c, ev, rfl, ex_t e3 h, g, e2.trans e3, kk H3 e3⟩
/-- {'..': a, '..': b, '..': c}, one behind the other -/
theorem em_disp3N {s1 s2 s3 : Str} {j1 j2 j3} {q1 q2 q3 : Pos} {v1 v2 v3 : Expr}
    (hk : ∀ x1 x2 x3 : V, mergeK [] [(Sum.inr s1, x1), (Sum.inr s2, x2), (Sum.inr s3, x3)] = [(Sum.inr s1, x1), (Sum.inr s2, x2), (Sum.inr s3, x3)])
    (h : ∀ p, H p = none → EN X v1 σ (upd H p (.dK [])) fun x1 Ha => EN X v2 σ Ha fun x2 Hb => EN X v3 σ Hb fun x3 Hc => Hc p = some (.dK []) → R (.ref p) (upd Hc p (.dK [(Sum.inr s1, x1), (Sum.inr s2, x2), (Sum.inr s3, x3)]))) :
    EM X (.Dict [some (.Constant (.str s1) j1 q1), some (.Constant (.str s2) j2 q2), some (.Constant (.str s3) j3 q3)] [v1, v2, v3] pos) σ H R :=
  EM.of (pe_disp (pps_cons pe_str pe_sem (pps_cons pe_str pe_sem (pps_cons pe_str pe_sem pps_nil))) (by rfl) (by rfl) (fun z => by cases z) (by show 3 ≤ 15; decide)) fun H1 e1 p hp => by
    have hn := fresh_back e1 hp
    refine sem_mono (h p hn _ (ex_upd e1)) fun x1 Ha ⟨ea, f1⟩ => sem_mono (f1 Ha (Ex.refl _)) fun x2 Hb ⟨eb, f2⟩ => sem_mono (f2 Hb (Ex.refl _)) fun x3 Hc ⟨ec, f3⟩ => ?_
    have hc : Hc p = some (.dK []) := ((ea.trans eb).trans ec) _ _ upd_same
    refine ⟨hc, [(Sum.inr s1, x1), (Sum.inr s2, x2), (Sum.inr s3, x3)], rfl, by show 3 ≤ 15; decide, ?_⟩
    rw [hk]
    exact ⟨_, Ex.refl _, f3 hc⟩
end
end Y
set_option Elab.async false
set_option linter.all false
set_option maxRecDepth 100000
set_option maxHeartbeats 4000000
namespace Y
open PySem PySem.Spec PyProof.Rows L2 Evl
section
variable {X : Cx} {σ : L2.St} {H H' : Hp} {v w x y z : V} {e a b c f o : Expr} {i j k : Nat} {K : PySem.W.Frag} {n m : Int} {pos pos' apos cpos p1 p2 p3 q1 q2 px py pz pt : Pos} {D : Ends} {rest : List Stmt} {R : V → Hp → Prop} {l p r C dx : Addr} {xs ys : List V} {φ ψ : V → Hp → Prop} {nx ny nz : Str}
theorem flat_dp : ∀ xs : List V, (∀ x ∈ xs, (∃ i, x = V.int i) ∨ ∃ t, x = V.str t ∧ PyData.strOk t = true) → ∃ ds, (∀ K H, DpAll K H xs ds) ∧ PyData.canLayAll0 ds = true ∧ PyData.depthAll ds ≤ 1 ∧ ds.isEmpty = xs.isEmpty
  | [], _ => ⟨[], fun _ _ => .nil, rfl, by simp [PyData.depthAll], rfl⟩
  | x :: xs, h => by
    obtain ⟨ds, h1, h2, h3, h4⟩ := flat_dp xs fun y hy => h y (List.mem_cons_of_mem _ hy)
    rcases h x List.mem_cons_self with ⟨i, rfl⟩ | ⟨t, rfl, ht⟩
    · refine ⟨.int i :: ds, fun K H => .cons (.int i) (h1 K H), ?_, ?_, rfl⟩
      · simp only [PyData.canLayAll0, PyData.canLay0, Bool.true_and]; exact h2
      · simp only [PyData.depthAll, PyData.depth]; omega
    · refine ⟨.str t :: ds, fun K H => .cons (.str t) (h1 K H), ?_, ?_, rfl⟩
      · simp only [PyData.canLayAll0, PyData.canLay0, ht, Bool.true_and]; exact h2
      · simp only [PyData.depthAll, PyData.depth]; omega
theorem shaped_tup {ds : List PyData} (h : PyData.canLayAll0 ds = true) (d : PyData.depthAll ds ≤ 1) : SeqAt.shaped (.tuple ds) = true := by
  unfold SeqAt.shaped
  rw [Bool.and_eq_true]
  refine ⟨by rw [PyData.canLay0]; exact h, decide_eq_true ?_⟩
  rw [PyData.depth]
  omega
theorem eqv_unit (ds : List PyData) : PyData.eqv (.tuple ds) (.tuple []) = ds.isEmpty := by
  cases ds <;> simp [PyData.eqv, PyData.eqvAll]
/-- t != () -/
theorem tn_neUnit {kt : Nat} (hu : X.A.units + 64 < cLine) (ha : EV X a σ H (.ref p)) (h : SqT X.K H p xs) (hf : ∀ x ∈ xs, (∃ i, x = V.int i) ∨ ∃ t, x = V.str t ∧ PyData.strOk t = true) : TN X (.Compare a [.NotEq] [.Tuple [] kt pos'] pos) σ H (!xs.isEmpty) := ⟨fun H1 e1 => by
  obtain ⟨ds, h1, h2, h3, h4⟩ := flat_dp xs hf
  exact semT_of (pt_cmpR (op_neD hu) pe_sem (pe_tup pa_nil) (nomark _)) (EV.ev ha H1 e1 _ fun H2 e2 => ⟨Nat.zero_le _, fun r hr => ⟨_, _, .tup (ex_t ((e1.trans e2).trans (Ex.new hr)) h) (h1 _ _), .tup (.inl (.inl upd_same)) .nil, shaped_tup h2 h3, shaped_tup rfl (by simp [PyData.depthAll]), _, rfl, e2.trans (Ex.new hr), by rw [eqv_unit, h4]⟩⟩)⟩
/-- (a, b, e), e told -/
theorem en_tup3N {x1} (ha : EV X a σ H v) (hb : EV X b σ H w) (hc : EN X c σ H φ) (he : starEach [a, b, c] X.env = (false, eval a X.env) :: starEach [b, c] X.env := by rfl) (he2 : starEach [b, c] X.env = (false, eval b X.env) :: starEach [c] X.env := by rfl) (he3 : starEach [c] X.env = (false, eval c X.env) :: starEach [] X.env := by rfl) :
    EN X (.Tuple [a, b, c] x1 pos) σ H fun u H2 => ∃ (p : Addr) (z : V) (H3 : Hp), u = .ref p ∧ H2 p = some (.tup [v, w, z]) ∧ φ z H3 ∧ Ex H3 H2 :=
  EN.of (pe_tup (pa_cons pe_sem (pa_cons pe_sem (pa_cons pe_sem pa_nil he3) he2) he)) fun H1 e1 => EV.ev ha H1 e1 _ fun H2 e2 => EV.ev hb H2 (e1.trans e2) _ fun H3 e3 => sem_mono (hc H3 ((e1.trans e2).trans e3)) fun z H4 ⟨e4, q⟩ =>
    ⟨by show 3 ≤ sizeLine; decide, fun p hp => ⟨((e2.trans e3).trans e4).trans (Ex.new hp), p, z, H4, rfl, upd_same, q, Ex.new hp⟩⟩
/-- x, y, z = a, b, c: all plain locals -/
theorem rx_par3 {kt k2 : Nat} {pt2 : Pos} (i j k : Nat) (h : AM X [a, b, c] σ H fun vs Hb => ∃ u v w, vs = [u, v, w] ∧ RX X rest D (((σ.set i (some u)).set j (some v)).set k (some w)) Hb) (hc : X.calm = true) (hN : X.N.Nodup) (hij : i ≠ j) (hik : i ≠ k) (hjk : j ≠ k) (hi : X.N[i]? = some nx := by rfl) (hj : X.N[j]? = some ny := by rfl) (hk : X.N[k]? = some nz := by rfl)
    (hx : X.env.scope.names.lookup nx = some .local := by rfl) (hy : X.env.scope.names.lookup ny = some .local := by rfl) (hz : X.env.scope.names.lookup nz = some .local := by rfl)
    (hw : swappedStores [.Tuple [.Name nx px, .Name ny py, .Name nz pz] kt pt] (.Tuple [a, b, c] k2 pt2) X.env = pure (some [nx, ny, nz]) := by rfl) (hs : swapsWithSole [.Tuple [.Name nx px, .Name ny py, .Name nz pz] kt pt] (.Tuple [a, b, c] k2 pt2) pos.line X.env = pure false := by rfl) :
    RX X (.Assign [.Tuple [.Name nx px, .Name ny py, .Name nz pz] kt pt] (.Tuple [a, b, c] k2 pt2) pos :: rest) D σ H :=
  rx_of (ps_par3 hc hN hi hj hk hij hik hjk hx hy hz pa_sem hw hs) fun H1 e1 => semA_mono (h H1 e1) fun vs H2 ⟨Hb, e2, u, v, w, ev, k⟩ => ⟨u, v, w, ev, k H2 e2⟩
end
end Y
set_option Elab.async false
set_option linter.all false
set_option maxRecDepth 100000
set_option maxHeartbeats 4000000
namespace Y
open PySem PySem.Spec PyProof.Rows L2 Evl
section
variable {X : Cx} {σ : L2.St} {H H' : Hp} {v w x y z : V} {e a b c f o : Expr} {i j k : Nat} {K : PySem.W.Frag} {n m : Int} {pos pos' apos cpos p1 p2 p3 q1 q2 px py pz pt : Pos} {D : Ends} {rest : List Stmt} {R : V → Hp → Prop} {l p r C dx : Addr} {xs ys : List V} {φ ψ : V → Hp → Prop} {es : List Expr} {Φ : List V → Hp → Prop}
/-- arguments that are told, the known heap only extended -/
structure AN (X : Cx) (es : List Expr) (σ : L2.St) (H : Hp) (Φ : List V → Hp → Prop) : Prop where
  run : ∀ H1, Ex H H1 → semA X es σ H1 fun us H2 => Ex H1 H2 ∧ Φ us H2
theorem AN.nil (h : ∀ H1, Ex H H1 → Φ [] H1) : AN X [] σ H Φ := ⟨fun H1 e1 => semA_of pa_nil ⟨Ex.refl H1, h H1 e1⟩⟩
theorem AN.cons (h : EN X e σ H φ) (r : ∀ v H2, Ex H H2 → φ v H2 → AN X es σ H2 fun vs H3 => Φ (v :: vs) H3) (hs : starEach (e :: es) X.env = (false, eval e X.env) :: starEach es X.env := by rfl) : AN X (e :: es) σ H Φ :=
  ⟨fun H1 e1 => semA_of (pa_cons pe_sem pa_sem hs) (sem_mono (h H1 e1) fun v H2 ⟨e2, q⟩ => semA_mono ((r v H2 (e1.trans e2) q).run H2 (Ex.refl _)) fun vs H3 ⟨e3, q3⟩ => ⟨e2.trans e3, q3⟩)⟩
theorem en_lstA (h : AN X es σ H Φ) (hl : ∀ vs H2, Φ vs H2 → vs.length ≤ 100000) : EN X (.List es pos) σ H fun v H2 => ∃ p vs H3, v = .ref p ∧ H2 p = some (.lst vs) ∧ Φ vs H3 ∧ Ex H3 H2 := EN.of (pe_lst pa_sem) fun H1 e1 => semA_mono (h.run H1 e1) fun us H2 ⟨e2, q⟩ =>
  ⟨sz_of (hl us H2 q), fun p hp => ⟨e2.trans (Ex.new hp), p, us, H2, rfl, upd_same, q, Ex.new hp⟩⟩
theorem cutV_mem {xs : List V} {lo hi : Option Int} {y : V} (h : y ∈ cutV xs lo hi) : y ∈ xs := by
  unfold cutV at h
  exact List.mem_of_mem_drop (List.mem_of_mem_take h)
end
end Y
set_option Elab.async false
set_option linter.all false
set_option maxRecDepth 100000
set_option maxHeartbeats 4000000
namespace Y
open PySem PySem.Spec PyProof.Rows L2 Evl
section
variable {X : Cx} {σ : L2.St} {H H' : Hp} {v w x y z : V} {e a b c f o : Expr} {i j k : Nat} {K : PySem.W.Frag} {n m : Int} {pos pos' apos cpos p1 p2 p3 q1 q2 px py pz pt : Pos} {D : Ends} {rest : List Stmt} {R : V → Hp → Prop} {l p r C dx : Addr} {xs ys : List V} {φ ψ : V → Hp → Prop} {es : List Expr} {Φ : List V → Hp → Prop} {nm : Str} {ps : List Str} {lv : Nat} {sp : Sp}
/-- a slice of a tuple of the heap -/
theorem en_slTt {lo hi : Option Expr} {lv hv : Option Int} (h : EV X e σ H (.ref p)) (hx : H p = some (.tup xs)) (h1 : OV X lo σ H lv) (h2 : OV X hi σ H hv) : EN X (.Subscript e (.Slice lo hi none p2) pos) σ H fun v H2 => ∃ r, v = .ref r ∧ H2 r = some (.tup (cutV xs lv hv)) := let ⟨_, q1, r1⟩ := h1; let ⟨_, q2, r2⟩ := h2
  EN.of (pe_slice sl_tupA pe_sem q1 q2) fun H1 e1 => (EV.ev h) H1 e1 _ fun H2 e2 => r1 H2 (e1.trans e2) _ fun H3 e3 => r2 H3 ((e1.trans e2).trans e3) _ fun H4 e4 =>
    ⟨p, xs, rfl, st_of ((((e1.trans e2).trans e3).trans e4) _ _ hx), fun z => ⟨(e2.trans e3).trans e4, p, rfl, by rw [cutV_all z.1 z.2]; exact (((e1.trans e2).trans e3).trans e4) _ _ hx⟩, fun _ q hq => ⟨((e2.trans e3).trans e4).trans (Ex.new hq), q, rfl, upd_same⟩⟩
/-- a call of an own def, its arguments told -/
theorem en_ownA {q : Pos} {p : Pos} (O : Own X.prog X.w X.K X.mg X.base nm ps lv sp) (hr : Room lv X.A) (hg : Gl X nm) (ha : AN X (e :: es) σ H Φ) (h : ∀ us H1, Ex H H1 → Φ us H1 → ∀ Q : VK, (∀ v H2, Ex H1 H2 → φ v H2 → Q v H2) → sp us H1 Q (fun _ _ _ => False))
    (hdb : (nm == ("__debug__" : Str)) = false := by decide) (he : starEach (e :: es) X.env = (false, eval e X.env) :: starEach es X.env := by rfl) (hpl : (backTo q (starEach es X.env)).any (·.1) = false := by rfl) :
    EN X (.Call (.Name nm p) (e :: es) [] q) σ H φ := by
  obtain ⟨g, fd, F, hk, hb, hm⟩ := O.ex
  exact EN.of (pe_call F hr hg hm hk hb .nil pass0 pa_sem hdb he hpl) fun H1 e1 => semA_mono (ha.run H1 e1) fun vs H2 ⟨e2, k⟩ => by
    rw [List.append_nil]
    exact h vs H2 (e1.trans e2) k _ fun v H3 e3 q => ⟨e2.trans e3, q⟩
theorem cutV_take {n : Nat} : cutV xs none (some (n : Int)) = xs.take n := by
  unfold cutV
  rw [HT.sIx_none, Nat.sub_zero, List.drop_zero, show HT.sIx xs.length xs.length (some (n : Int)) = min n xs.length from HT.sIx_nat xs.length xs.length n]
  rcases Nat.le_total n xs.length with h | h
  · rw [Nat.min_eq_left h]
  · rw [Nat.min_eq_right h, List.take_length, List.take_of_length_le h]
theorem cutV_len {lo hi : Option Int} : (cutV xs lo hi).length ≤ xs.length := by
  unfold cutV
  rw [List.length_take, List.length_drop]
  omega
end
end Y
set_option Elab.async false
set_option linter.all false
set_option maxRecDepth 100000
set_option maxHeartbeats 4000000
/-! dicts that are walked: under a lock they stand as frozen; what reads them reads on. -/
namespace Y
open PySem PySem.Spec PyProof.Rows L2 Evl
theorem rd_mono {H H' : Hp} {p : Addr} {u : HO} (h : Rd H p u) (e : Ex H H') : Rd H' p u := h.imp (fun z => e _ _ z) fun ⟨o, z⟩ => ⟨o, e _ _ z⟩
theorem rd_get {H : Hp} {p : Addr} {kvs : List (Key × V)} {k : Key} (h : Rd H p (.dK kvs)) : DGet H p (kV k) (valV kvs k) := .inl ⟨kvs, k, h, rfl, rfl⟩
section
variable {X : Cx} {σ : L2.St} {H H' : Hp} {v w x y z : V} {e a b c f o : Expr} {i j k : Nat} {n m : Int} {pos pos' apos cpos p1 p2 p3 q1 q2 px py pz pt : Pos} {D : Ends} {rest : List Stmt} {l p r d C dx : Addr} {xs ys : List V} {φ ψ : V → Hp → Prop} {nx ny : Str} {kvs : List (Key × V)} {ky : Key}
theorem tn_dinR (hu : X.A.units + 1 < cLine) (ha : EV X a σ H (kV ky)) (hb : EV X b σ H (.ref p)) (h : Rd H p (.dK kvs)) (hm : behindInMarks .In b = false := by rfl) : TN X (.Compare a [.In] [b] pos) σ H (valV kvs ky).isSome :=
  ⟨fun H1 e1 => semT_of (pt_cmp (pc_din hu pe_sem pe_sem) hm) (EV.ev ha H1 e1 _ fun H2 e2 => EV.ev hb H2 (e1.trans e2) _ fun H3 e3 => ⟨p, _, rfl, rd_get (rd_mono h ((e1.trans e2).trans e3)), _, rfl, e2.trans e3, rfl⟩)⟩
theorem tn_dnotinR (hu : X.A.units + 1 < cLine) (ha : EV X a σ H (kV ky)) (hb : EV X b σ H (.ref p)) (h : Rd H p (.dK kvs)) (hm : behindInMarks .NotIn b = false := by rfl) : TN X (.Compare a [.NotIn] [b] pos) σ H (!(valV kvs ky).isSome) :=
  ⟨fun H1 e1 => semT_of (pt_cmp (pc_dnotin hu pe_sem pe_sem) hm) (EV.ev ha H1 e1 _ fun H2 e2 => EV.ev hb H2 (e1.trans e2) _ fun H3 e3 => ⟨p, _, rfl, rd_get (rd_mono h ((e1.trans e2).trans e3)), _, rfl, e2.trans e3, rfl⟩)⟩
theorem ev_dgetR (hu : X.A.units + 1 < cLine) (ha : EV X a σ H (.ref p)) (hb : EV X b σ H (kV ky)) (h : Rd H p (.dK kvs)) (g : valV kvs ky = some v) (hs : NoSl b := by exact fun _ _ => rfl) : EV X (.Subscript a b pos) σ H v :=
  EN.of (pe_dget hu pe_sem pe_sem hs) fun H1 e1 => EV.ev ha H1 e1 _ fun H2 e2 => EV.ev hb H2 (e1.trans e2) _ fun H3 e3 => ⟨p, v, rfl, by rw [← g]; exact rd_get (rd_mono h ((e1.trans e2).trans e3)), e2.trans e3, rfl⟩
theorem Ex.set {H H1 : Hp} {p : Addr} {o : HO} (e : Ex H H1) : Ex (upd H p o) (upd H1 p o) := ex_upd e
theorem semS_ends {ss : List Stmt} {D D' : Ends} (h : semS X ss D σ H) (hn : ∀ σ H, D.nx σ H → D'.nx σ H) (hr : ∀ v H, D.rt v H → D'.rt v H) (hb : ∀ σ H, D.bk σ H → D'.bk σ H) (hc : ∀ σ H, D.ct σ H → D'.ct σ H) : semS X ss D' σ H := fun pins s I => thn (h pins s I) fun f s1 q => by
  cases f with
  | next => obtain ⟨σ', H', I2, q⟩ := q; exact ⟨σ', H', I2, hn _ _ q⟩
  | brk => obtain ⟨σ', H', I2, q⟩ := q; exact ⟨σ', H', I2, hb _ _ q⟩
  | cont => obtain ⟨σ', H', I2, q⟩ := q; exact ⟨σ', H', I2, hc _ _ q⟩
  | ret v => obtain ⟨x, σ', H', I2, r, q⟩ := q; exact ⟨x, σ', H', I2, r, hr _ _ q⟩
/-- for k, v in e.items(): nothing leaves it -/
theorem rx_forI {kt : Nat} (i j : Nat) {body : List Stmt} (hp : PassesOwn (model X.prog X.w) X.A X.env X.xe) (hc : X.calm = true) (hd : H d = some (.dK kvs)) (he : ∀ od, EV X e σ (upd H d (.frz od (.dK kvs))) (.ref d)) (P : Obj → Nat → L2.St → Hp → Prop)
    (h0 : ∀ od, P od 0 σ (upd H d (.frz od (.dK kvs)))) (hk : ∀ od n σ' Hb, n ≤ kvs.length → P od n σ' Hb → Hb d = some (.frz od (.dK kvs)))
    (hs : ∀ od n k v σ' Hb, kvs[n]? = some (k, v) → P od n σ' Hb → RX X body { nx := UpS (P od (n + 1)), ct := UpS (P od (n + 1)), bk := fun _ _ => False, rt := fun _ _ => False } ((σ'.set i (some (kV k))).set j (some v)) Hb)
    (hf : ∀ od σ' Hb, P od kvs.length σ' Hb → RX X rest D σ' (upd Hb d (.dK kvs))) (hN : X.N.Nodup) (hi : X.N[i]? = some nx := by rfl) (hj : X.N[j]? = some ny := by rfl) (hlo : Loc X.env.scope nx := by first | exact Or.inl rfl | exact Or.inr rfl) (hlo2 : Loc X.env.scope ny := by first | exact Or.inl rfl | exact Or.inr rfl)
    (hf1 : X.fn nx = true ∨ X.env.scope.names.lookup nx = some .local := by first | exact .inl rfl | exact .inr rfl) (hf2 : X.fn ny = true ∨ X.env.scope.names.lookup ny = some .local := by first | exact .inl rfl | exact .inr rfl)
    (hbase : attributeBase e "items" X.env (eval e X.env) = eval e X.env := by rfl) (hline : (apos.endLine == cpos.line) = true := by rfl) :
    RX X (.For (.Tuple [.Name nx px, .Name ny py] kt pt) (.Call (.Attribute e "items" apos) [] [] cpos) body [] pos :: rest) D σ H :=
  rx_of (ps_lock (ps_for hp hc (pi_items pe_sem hbase hline) (pg_tup hc (pgs_cons (pg_name hN hi hlo hf1) (pgs_cons (pg_name hN hj hlo2 hf2) pgs_nil))) pss_sem)) fun H1 e1 => ⟨d, _, e1 _ _ hd, trivial, fun od => EV.ev (he od) _ (ex_upd e1) _ fun H2 e2 => ⟨d, od, kvs, rfl, e2 _ _ upd_same, by
    refine for_it (D := _) (walk_items (d := d) (o := od) (kvs := kvs)) (fun n => UpS (P od n)) ⟨_, (ex_upd e1).trans e2, h0 od⟩ (fun n σ' H' hn ⟨Hb, e, q⟩ => e _ _ (hk od n σ' Hb hn q)) ?_ ?_
    · intro n v σ' H' H'' hn ⟨Hb, e, q⟩ ⟨T, x, y, ev, hT, eh, fx, fy⟩
      subst ev eh
      obtain ⟨kv, hkv, rfl⟩ := Option.map_eq_some_iff.mp fx
      have fy : kvs[n]?.map Prod.snd = some y := fy
      rw [hkv] at fy
      obtain rfl := Option.some.inj fy
      refine ⟨T, _, rfl, .inl (.inl upd_same), rfl, _, _, rfl, _, _, rfl, rfl, ?_⟩
      exact semS_ends (hs od n kv.1 kv.2 σ' Hb hkv q _ (e.trans (Ex.new hT))) (fun _ _ z => z) (fun _ _ z => z.elim) (fun _ _ z => z.elim) fun _ _ z => z
    · intro σ' H' ⟨Hb, e, q⟩
      exact ⟨e _ _ (hk od _ σ' Hb (Nat.le_refl _) q), hf od σ' Hb q _ (ex_upd e)⟩⟩⟩
/-- for k in e: nothing leaves it -/
theorem rx_forD (i : Nat) {body : List Stmt} (hp : PassesOwn (model X.prog X.w) X.A X.env X.xe) (hc : X.calm = true) (hd : H d = some (.dK kvs)) (he : ∀ od, EV X e σ (upd H d (.frz od (.dK kvs))) (.ref d)) (P : Obj → Nat → L2.St → Hp → Prop)
    (h0 : ∀ od, P od 0 σ (upd H d (.frz od (.dK kvs)))) (hk : ∀ od n σ' Hb, n ≤ kvs.length → P od n σ' Hb → Hb d = some (.frz od (.dK kvs)))
    (hs : ∀ od n k v σ' Hb, kvs[n]? = some (k, v) → P od n σ' Hb → RX X body { nx := UpS (P od (n + 1)), ct := UpS (P od (n + 1)), bk := fun _ _ => False, rt := fun _ _ => False } (σ'.set i (some (kV k))) Hb)
    (hf : ∀ od σ' Hb, P od kvs.length σ' Hb → RX X rest D σ' (upd Hb d (.dK kvs))) (hN : X.N.Nodup) (hi : X.N[i]? = some nx := by rfl) (hlo : Loc X.env.scope nx := by first | exact Or.inl rfl | exact Or.inr rfl)
    (hf1 : X.fn nx = true ∨ X.env.scope.names.lookup nx = some .local := by first | exact .inl rfl | exact .inr rfl) (hfo : ∀ x, foldedSetIterable e X.env x = pure x := by intro _; rfl) :
    RX X (.For (.Name nx px) e body [] pos :: rest) D σ H :=
  rx_of (ps_lock (ps_for hp hc (pi_keys pe_sem) (pg_name hN hi hlo hf1) pss_sem hfo)) fun H1 e1 => ⟨d, _, e1 _ _ hd, trivial, fun od => EV.ev (he od) _ (ex_upd e1) _ fun H2 e2 => ⟨d, od, rfl, .inl ⟨kvs, e2 _ _ upd_same, by
    refine for_it (D := _) (walk_keys (d := d) (o := od) (kvs := kvs)) (fun n => UpS (P od n)) ⟨_, (ex_upd e1).trans e2, h0 od⟩ (fun n σ' H' hn ⟨Hb, e, q⟩ => e _ _ (hk od n σ' Hb hn q)) ?_ ?_
    · intro n v σ' H' H'' hn ⟨Hb, e, q⟩ ⟨eh, k, u, hkv, ex⟩
      subst eh ex
      exact semS_ends (hs od n k u σ' Hb hkv q _ e) (fun _ _ z => z) (fun _ _ z => z.elim) (fun _ _ z => z.elim) fun _ _ z => z
    · intro σ' H' ⟨Hb, e, q⟩
      exact ⟨e _ _ (hk od _ σ' Hb (Nat.le_refl _) q), hf od σ' Hb q _ (ex_upd e)⟩⟩⟩⟩
/-- [.. for k, v in e.items() if ..] -/
theorem en_lcIt {elt tst : Expr} {xn yn : Str} {scope : Scope} {own : List (Str × Nat)} {kt : Nat} (j1 j2 : Nat) (hc : X.calm = true) (hN : X.N.Nodup) (ok : BlkOk X.N X.env.scope scope own)
    (hd : H d = some (.dK kvs)) (he : ∀ od, EV X e σ (upd H d (.frz od (.dK kvs))) (.ref d)) (hz : kvs.length ≤ 100000)
    (hg : ∀ (s : Shared) (H : Hp) (C : Addr) (cl : List (Str × Addr)) (fp : List Addr), PG (X.blk s H scope (compEnvC scope cl C X.env) fp) (.Tuple [.Name xn px, .Name yn py] kt pt) (gTup X.K 2 (gCons (gName j1) (gCons (gName j2) gNil))))
    (hw : ∀ v v', wipe (((wipe σ (own.map (·.2))).set j1 (some v)).set j2 (some v')) (own.map (·.2)) = wipe σ (own.map (·.2)))
    (P : Nat → List V → Prop) (h0 : P 0 [])
    (hs : ∀ (n : Nat) k v acc Hb (s : Shared) (H' : Hp) (C : Addr) (cl : List (Str × Addr)) (fp : List Addr), kvs[n]? = some (k, v) → P n acc →
      TD (X.blk s H' scope (compEnvC scope cl C X.env) fp) tst (((wipe σ (own.map (·.2))).set j1 (some (kV k))).set j2 (some v)) Hb fun b H3 => if b = true then
        ∀ (s : Shared) (H' : Hp) (C : Addr) (cl : List (Str × Addr)) (fp : List Addr), EN (X.blk s H' scope (compEnvC scope cl C X.env) fp) elt (((wipe σ (own.map (·.2))).set j1 (some (kV k))).set j2 (some v)) H3 fun v H2 => P (n + 1) (acc ++ [v]) else P (n + 1) acc)
    (hbase : attributeBase e "items" X.env (eval e X.env) = eval e X.env := by rfl) (hline : (apos.endLine == cpos.line) = true := by rfl) :
    EN X (.ListComp elt [⟨.Tuple [.Name xn px, .Name yn py] kt pt, .Call (.Attribute e "items" apos) [] [] cpos, [tst], 0⟩] scope pos) σ H fun v H2 => ∃ D acc, v = .ref D ∧ H D = none ∧ H2 D = some (.lst acc) ∧ acc.length ≤ kvs.length ∧ P kvs.length acc :=
  EN.of (pe_lock (pe_lc hc hN (pi_items pe_sem hbase hline) ok hg (fun s H' C cl fp => pts_one (pt_blk s H' C cl fp)) (fun s H' C cl fp => pe_blk s H' C cl fp))) fun H1 e1 => ⟨d, _, e1 _ _ hd, trivial, fun od => EV.ev (he od) _ (ex_upd e1) _ fun H2 e2 => ⟨d, od, kvs, rfl, e2 _ _ upd_same, fun D hD => by
    refine lc_it (walk_items (d := d) (o := od) (kvs := kvs)) (LcW H2 D fun n acc _ => P n acc) ⟨[], Nat.le_refl _, hD, Ex.new hD, upd_same, h0⟩ (fun i H' _ p => let ⟨_, _, _, e, _, _⟩ := p; e _ _ (e2 _ _ upd_same)) ?_ ?_
    · intro i v H' H'' hi ⟨acc, q1, q2, q3, q4, q5⟩ ⟨T, x, y, ev, hT, eh, fx, fy⟩
      subst ev eh
      obtain ⟨kv, hkv, rfl⟩ := Option.map_eq_some_iff.mp fx
      have fy : kvs[i]?.map Prod.snd = some y := fy
      rw [hkv] at fy
      obtain rfl := Option.some.inj fy
      have nD : D ≠ T := ne_of_none q4 hT
      refine ⟨T, [_, kv.2], rfl, .inl (.inl upd_same), rfl, _, [kv.2], rfl, kv.2, [], rfl, rfl, hw _ _, fun s H'' C cl fp => semT_mono (hs i kv.1 kv.2 acc _ s H'' C cl fp hkv q5 _ (Ex.refl _)) fun b H3 ⟨e3, q6⟩ => ?_⟩
      cases b with
      | true =>
        rw [if_pos rfl] at q6 ⊢
        exact fun s H'' C cl fp => sem_mono (q6 s H'' C cl fp H3 (Ex.refl H3)) fun v H4 ⟨e4, q7⟩ =>
          LcW.push (fun _ _ _ _ _ z => z) q1 q2 (((q3.trans (Ex.new hT)).trans e3).trans e4) ((e3.trans e4) D _ (by rw [upd_ne nD]; exact q4)) (by omega) q7
      | false =>
        rw [if_neg Bool.false_ne_true] at q6 ⊢
        exact ⟨acc, Nat.le_succ_of_le q1, q2, (q3.trans (Ex.new hT)).trans e3, e3 D _ (by rw [upd_ne nD]; exact q4), q6⟩
    · intro H' ⟨acc, q1, q2, q3, q4, q5⟩
      have hfz : H' d = some (.frz od (.dK kvs)) := q3 _ _ (e2 _ _ upd_same)
      have nD : D ≠ d := fun z => by rw [z, e2 _ _ upd_same] at q2; cases q2
      refine ⟨hfz, fun a o h => ?_, D, acc, rfl, ?_, ?_, q1, q5⟩
      · by_cases z : a = d
        · subst z
          rw [upd_same]
          rw [e1 _ _ hd] at h
          exact h
        · rw [upd_ne z]
          exact q3 _ _ (e2 _ _ (by rw [upd_ne z]; exact h))
      · have : upd H1 d (.frz od (.dK kvs)) D = none := fresh_back e2 q2
        rw [upd_ne nD] at this
        exact fresh_back e1 this
      · rw [upd_ne nD]; exact q4⟩⟩
end
end Y
set_option Elab.async false
set_option linter.all false
set_option maxRecDepth 100000
set_option maxHeartbeats 4000000
namespace E5
open PySem PySem.Spec PyProof.Rows L2 Evl Y
section
variable {P : Program} {w : World} {K : PySem.W.Frag} {mg : Str → Option Value} {base : Heap} {C : Addr}
def spRNote (C : Addr) : Sp := fun vs H Q _ => ∃ (r kv : Addr) (F : Addr → Prop) (s : S) (v : V) (e : Ev), vs = [.ref r, v] ∧ RecAt C F H r kv s ∧ Good s ∧ EvAt H v e ∧ (∃ ks, s.may ks e = true) ∧ s.n < 1000 ∧ (∀ a, H a = none → F a) ∧
  ∀ H', Kp F H H' → Tx H H' → RecAt C F H' r kv (s.note e) → Q .non H'
theorem own_rnote (D : DefM K C "note" "Record.note" sRNote) (T : RecT K C) : OwnM P w K mg base C "note" ["self", "event"] 1 (spRNote C) := by
  refine D.own scRNote (fun vs H Q E h => ?_) (fun _ _ _ _ _ _ us hl => match us, hl with | [_, _], _ => rfl) ?_
  · obtain ⟨r, kv, F, s, v, e, rfl, _⟩ := h
    rfl
  · rintro X H vs Q E ⟨f, cdv, A, outer, st, rfl⟩ hr h
    obtain ⟨r, kv, F, s, v, e, rfl, ⟨dx, dw, ds, de, dt, ls, hR, fR, hP⟩, g, ⟨p, rfl, hp⟩, ⟨ks, hm⟩, hz, fn, q⟩ := h
    have nd := scRNote.nd
    have hu := hu_of hr
    obtain ⟨sk, hsk, vsk, zsk⟩ := hP.hs
    obtain ⟨ek, hek, vek, zek⟩ := hP.he
    obtain ⟨tk, htk, vtk, vtn, ztk⟩ := hP.ht
    have fin : ∀ (Hb : Hp) (ls' : Int → Addr) (x y : V), Kp F H Hb → Tx H Hb → RecP F Hb (s.note e) (s.note e).os dw ds de dt ls' → Hb r = some (.ins C dx (rF kv s.n dw ds de dt)) →
        RX (cxOf CX0 P w K mg base ["self", "event", "word", "t"] "Record.note" (defScope sRNote) f cdv A outer st H E).nox ((defBody sRNote).drop 2) { nx := fun _ H' => Q .non H', rt := Q } [some (.ref r), some (.ref p), some x, some y] Hb := fun Hb ls' x y k1 k2 k3 k4 => by
      refine rx_fldAdd ev_i (ev_nm 0) k4 T.cl T.nL rF_length (by show 6 < 1000; decide) ?_
      refine rx_end fun H5 e5 => q H5 ((k1.trans (Kp.upd fR)).trans e5.kp) ((k2.trans (Tx.of_ins k4)).trans e5.tx) ⟨dx, dw, ds, de, dt, ls', e5 _ _ (upd_same.trans ?_), fR, (k3.updR k4).mono e5⟩
      rw [rF_put _ (by rw [Int.natCast_succ]), S.note_n]
    have nR : ∀ {a : Addr} {o : HO}, H a = some o → (∀ C dx fs, o ≠ .ins C dx fs) → r ≠ a := fun h n z => by
      rw [← z, hR] at h
      exact n _ _ _ (Option.some.inj h).symm
    cases e with
    | doo t k =>
      refine rx_par 2 3 (AM.av (AV.cons (ev_ixT (ev_nm 1) ev_i (st_of hp) rfl) (AV.cons (ev_ixT (ev_nm 1) ev_i (st_of hp) rfl) AV.nil)) ⟨.str "do", .int t, rfl, ?_⟩) rfl nd (by decide)
      refine rx_if (bb := true) (TN.is (tn_eq (ev_nm 2) ev_s (by rfl)) (by decide +kernel)) (fun _ => ?_) fun z => by cases z
      have hw := hP.ho
      have nrw : r ≠ dw := nR hw (fun _ _ _ => nofun)
      refine rx_dputI (t := (s.n : Int)) hu (ev_nm 3) (ev_fld (ev_nm 0) hR T.cl T.nO rF_owners) (ev_fld (ev_nm 0) hR T.cl T.nL rF_length) hw (by have := owL_len g; omega) ?_
      rw [owL_snoc g t]
      have hPw := hP.own (s.os ++ [((s.n : Int), t)])
      have kw : Kp F H (upd H dw (.dK (owL (s.os ++ [((s.n : Int), t)])))) := Kp.upd hP.fw
      have tw : Tx H (upd H dw (.dK (owL (s.os ++ [((s.n : Int), t)])))) := Tx.of_dK hw
      have hRw : upd H dw (.dK (owL (s.os ++ [((s.n : Int), t)]))) r = some (.ins C dx (rF kv s.n dw ds de dt)) := by rw [upd_ne nrw]; exact hR
      have fnw : ∀ a, upd H dw (.dK (owL (s.os ++ [((s.n : Int), t)]))) a = none → F a := fun a ha => fn a (by
        by_cases e : a = dw
        · rw [e, upd_same] at ha; cases ha
        · rwa [upd_ne e] at ha)
      have hskw : upd H dw (.dK (owL (s.os ++ [((s.n : Int), t)]))) ds = some (.dK sk) := by rw [upd_ne (Ne.symm hP.nw.1)]; exact hsk
      generalize upd H dw (.dK (owL (s.os ++ [((s.n : Int), t)]))) = Hw at hPw kw tw hRw fnw hskw ⊢
      refine rx_exprM (em_append2 (em_setd (ky := Sum.inl t) (ev_fld (ev_nm 0) hRw T.cl T.nS rF_steps) (ev_nm 3) hskw (by omega) (em_lstV AV.nil (Nat.zero_le _) fun q0 hq0 => ⟨(Ex.new hq0) _ _ hskw, fun v hv => ?_, fun hv => ?_⟩)))
      · rw [vsk] at hv
        by_cases hne : s.steps t = []
        · rw [if_pos hne] at hv; cases hv
        rw [if_neg hne] at hv
        obtain rfl := Option.some.inj hv
        have eN := Ex.new (o := .lst []) hq0
        have hl := eN _ _ (hPw.hl t hne).2
        refine ⟨ls t, (s.steps t).map V.int, .int (s.n : Int), rfl, hl, ?_, ev_fld (ev_nm 0) (eN _ _ hRw) T.cl T.nL rF_length, rx_out rfl (fin _ ls _ _ ((kw.trans eN.kp).trans (Kp.upd (hPw.hl t hne).1)) ((tw.trans eN.tx).trans (Tx.of_lst hl)) ((hPw.mono eN).doo1 hne) ?_)⟩
        · rw [List.length_map]; have := g.steps_len t; omega
        · rw [upd_ne (ne_of (eN _ _ hRw) hl (fun z => nomatch z))]; exact eN _ _ hRw
      · rw [vsk] at hv
        by_cases hne : s.steps t = []
        · obtain ⟨ls', h'⟩ := hPw.doo2 (k := k) hskw hne hq0 (fnw _ hq0)
          have nds : ds ≠ q0 := ne_of_none hskw hq0
          have nrq : r ≠ q0 := ne_of_none hRw hq0
          have nrd : r ≠ ds := ne_of hRw hskw (fun z => nomatch z)
          have eN := Ex.new (o := .lst []) hq0
          have r2 : upd (upd Hw q0 (.lst [])) ds (.dK (putK sk (Sum.inl t) (.ref q0))) r = some (.ins C dx (rF kv s.n dw ds de dt)) := by rw [upd_ne nrd, upd_ne nrq]; exact hRw
          have q2 : upd (upd Hw q0 (.lst [])) ds (.dK (putK sk (Sum.inl t) (.ref q0))) q0 = some (.lst []) := by rw [upd_ne (Ne.symm nds), upd_same]
          refine ⟨q0, [], .int (s.n : Int), rfl, q2, by show 0 < 100000; decide, ev_fld (ev_nm 0) r2 T.cl T.nL rF_length, rx_out rfl (fin _ ls' _ _ (((kw.trans eN.kp).trans (Kp.upd hPw.fp.1)).trans (Kp.upd (fnw _ hq0))) (((tw.trans eN.tx).trans (Tx.of_dK (eN _ _ hskw))).trans (Tx.of_lst q2)) h' ?_)⟩
          rw [upd_ne nrq]; exact r2
        · rw [if_neg hne] at hv; cases hv
    | back t i =>
      refine rx_par 2 3 (AM.av (AV.cons (ev_ixT (ev_nm 1) ev_i (st_of hp) rfl) (AV.cons (ev_ixT (ev_nm 1) ev_i (st_of hp) rfl) AV.nil)) ⟨.str "back", .int t, rfl, ?_⟩) rfl nd (by decide)
      refine rx_if (bb := false) (TN.is (tn_eq (ev_nm 2) ev_s (by rfl)) (by decide +kernel)) (fun z => by cases z) fun _ => ?_
      refine rx_if (bb := true) (TN.is (tn_eq (ev_nm 2) ev_s (by rfl)) (by decide +kernel)) (fun _ => ?_) fun z => by cases z
      refine rx_dputI (t := i) hu (ev_fld (ev_nm 0) hR T.cl T.nL rF_length) (ev_fld (ev_nm 0) hR T.cl T.nT rF_taken) (ev_ixT (ev_nm 1) ev_i (st_of hp) rfl) htk (by omega) (rx_out rfl (rx_out rfl (fin _ ls _ _ (Kp.upd hP.fp.2.2) (Tx.of_dK htk) (hP.back htk) ?_)))
      rw [upd_ne (nR htk (fun _ _ _ => nofun))]; exact hR
    | fin t b =>
      refine rx_par 2 3 (AM.av (AV.cons (ev_ixT (ev_nm 1) ev_i (st_of hp) rfl) (AV.cons (ev_ixT (ev_nm 1) ev_i (st_of hp) rfl) AV.nil)) ⟨.str (finS b), .int t, rfl, ?_⟩) rfl nd (by decide)
      refine rx_if (bb := false) (TN.is (tn_eq (ev_nm 2) ev_s (by rfl)) (by cases b <;> decide +kernel)) (fun z => by cases z) fun _ => ?_
      refine rx_if (bb := false) (TN.is (tn_eq (ev_nm 2) ev_s (by rfl)) (by cases b <;> decide +kernel)) (fun z => by cases z) fun _ => ?_
      refine rx_dputI (t := t) hu (ev_nm 2) (ev_fld (ev_nm 0) hR T.cl T.nE rF_ends) (ev_nm 3) hek (by omega) (rx_out rfl (rx_out rfl (fin _ ls _ _ (Kp.upd hP.fp.2.1) (Tx.of_dK hek) (hP.fin hek (by rw [S.may, Bool.and_eq_true, Option.isNone_iff_eq_none] at hm; exact hm.2)) ?_)))
      rw [upd_ne (nR hek (fun _ _ _ => nofun))]; exact hR
/-- what reading asks: its dicts may stand under a lock -/
structure RecR (H : Hp) (s : S) (dw ds de dt : Addr) (ls : Int → Addr) : Prop where
  hs : ∃ sk, Rd H ds (.dK sk) ∧ (∀ t, valV sk (.inl t) = if s.steps t = [] then none else some (.ref (ls t))) ∧ sk.length ≤ s.n
  he : ∃ ek, Rd H de (.dK ek) ∧ (∀ t, valV ek (.inl t) = (s.ends t).map endV) ∧ ek.length ≤ s.n
  ht : ∃ tk, Rd H dt (.dK tk) ∧ (∀ i t, i ∈ s.taken t → ∃ x : Int, valV tk (.inl i) = some (.int x)) ∧ (∀ i, (∀ t, i ∉ s.taken t) → valV tk (.inl i) = none) ∧ tk.length ≤ s.n
  ho : Rd H dw (.dK (owL s.os))
  hl : ∀ t, s.steps t ≠ [] → H (ls t) = some (.lst ((s.steps t).map V.int))
theorem RecP.r {F : Addr → Prop} {H : Hp} {s : S} {dw ds de dt : Addr} {ls : Int → Addr} (h : RecP F H s s.os dw ds de dt ls) : RecR H s dw ds de dt ls :=
  ⟨let ⟨k, a, b⟩ := h.hs; ⟨k, .inl a, b⟩, let ⟨k, a, b⟩ := h.he; ⟨k, .inl a, b⟩, let ⟨k, a, b⟩ := h.ht; ⟨k, .inl a, b⟩, .inl h.ho, fun t ht => (h.hl t ht).2⟩
theorem RecR.mono {H H' : Hp} {s : S} {dw ds de dt : Addr} {ls : Int → Addr} (h : RecR H s dw ds de dt ls) (e : Ex H H') : RecR H' s dw ds de dt ls :=
  ⟨let ⟨k, a, b⟩ := h.hs; ⟨k, rd_mono a e, b⟩, let ⟨k, a, b⟩ := h.he; ⟨k, rd_mono a e, b⟩, let ⟨k, a, b⟩ := h.ht; ⟨k, rd_mono a e, b⟩, rd_mono h.ho e, fun t ht => e _ _ (h.hl t ht)⟩
end
end E5
set_option Elab.async false
set_option linter.all false
set_option maxRecDepth 100000
set_option maxHeartbeats 4000000
namespace E5
open PySem PySem.Spec PyProof.Rows L2 Evl Y
abbrev sRecordOf : Stmt := topS 21
abbrev sChecked : Stmt := topS 22
theorem scRecordOf : FnScope ["kinds", "thing", "record", "event"] ["kinds", "thing"] (defScope sRecordOf) := ⟨rfl, rfl, rfl, by decide +kernel, rfl, by decide +kernel, by decide +kernel⟩
theorem scChecked : FnScope ["table", "history", "record"] ["table", "history"] (defScope sChecked) := ⟨rfl, rfl, rfl, by decide +kernel, rfl, by decide +kernel, by decide +kernel⟩
/-- a history as a value -/
def HistAt (H : Hp) (hv : Addr) (evs : List Ev) : Prop := ∃ as, H hv = some (.tup as) ∧ All2 (EvAt H) as evs
theorem HistAt.tx {H H' : Hp} (x : Tx H H') {hv : Addr} {evs : List Ev} (h : HistAt H hv evs) : HistAt H' hv evs := let ⟨as, a, b⟩ := h; ⟨as, x _ _ a, b.imp fun _ _ => EvAt.tx x⟩
theorem Ex.ofKp {H H2 H' : Hp} (e : Ex H H2) (k : Kp (fun a => H a = none) H2 H') : Ex H H' := fun a o h => k a o (fun z => by rw [show H a = none from z] at h; cases h) (e a o h)
section
variable {P : Program} {w : World} {K : PySem.W.Frag} {mg : Str → Option Value} {base : Heap} {C : Addr}
def spRecordOf (C : Addr) : Sp := fun vs H Q _ => ∃ (kv hv : Addr) (ks : List Str) (evs : List Ev), vs = [.ref kv, .ref hv] ∧ H kv = some (.tup (ks.map V.str)) ∧ HistAt H hv evs ∧ Valid ks evs ∧ evs.length < 1000 ∧
  ∀ (r : Addr) (H' : Hp), Ex H H' → RecAt C (fun a => H a = none) H' r kv (run evs) → Q (.ref r) H'
theorem own_recordof (D : Def K mg "record_of" sRecordOf) (B : Blt mg) (T : RecT K C) (OI : OwnI P w K mg base "Record" C ["self", "kinds"] 1 (spRInit C)) (OA : OwnM P w K mg base C "allows" ["self", "thing"] 3 (spRAllows C)) (ON : OwnM P w K mg base C "note" ["self", "event"] 1 (spRNote C)) : Own P w K mg base "record_of" ["kinds", "thing"] 4 (spRecordOf C) := by
  refine D.own scRecordOf (fun vs H Q E h => ?_) (fun _ _ _ _ _ _ us hl => match us, hl with | [_, _], _ => rfl) ?_
  · obtain ⟨kv, hv, ks, evs, rfl, _⟩ := h
    rfl
  · rintro X H vs Q E ⟨f, cdv, A, outer, st, rfl⟩ hr h
    obtain ⟨kv, hv, ks, evs, rfl, hk, ⟨as, hh, hall⟩, hV, hz, q⟩ := h
    have nd := scRecordOf.nd
    refine rx_when (bb := false) (tn_not (tn_v (ev_isTup B (by rfl) (by rfl) (ev_nm 1) hh))) (fun z => by cases z) fun _ => ?_
    refine rx_setM 2 (em_make OI (hr.mono (by decide)) (by rfl) (AM.av (AV.cons (ev_nm 0) AV.nil) fun x dx nx ndx nex H2 e2 => ?_)) nd
    have e0 : Ex H H2 := ((Ex.new ndx).trans (Ex.new (by rw [upd_ne (Ne.symm nex)]; exact nx))).trans e2
    refine ⟨x, dx, kv, fun a => H a = none, rfl, e2 _ _ upd_same, nx, fun a ha => fresh_back e0 ha, fun H3 k3 r3 => ⟨rfl, H3, Ex.refl _, ?_⟩⟩
    have e3 : Ex H H3 := Ex.ofKp e0 k3
    refine rx_forT 3 PassesOwn.never rfl (ev_nm 1) (st_of (e3 _ _ hh)) (fun n σ' Hb => ∃ tv, σ' = [some (.ref kv), some (.ref hv), some (.ref x), tv] ∧ Ex H Hb ∧ RecAt C (fun a => H a = none) Hb x kv (run (evs.take n))) ⟨none, rfl, e3, r3⟩ (fun n σ' Hb _ ⟨_, _, eb, _⟩ => st_of (eb _ _ hh)) ?_ ?_ nd
    · rintro n v σ' Hb hv' ⟨tv, rfl, eb, rb⟩
      obtain ⟨e, he, hev⟩ := hall.at hv'
      obtain ⟨ho, hm⟩ := hV n e he
      have g := (hV.take n).good
      have hn : (run (evs.take n)).n < 1000 := by rw [run_n, List.length_take]; omega
      obtain ⟨dx', dw, ds, de, dt, ls, hR, fR, hP⟩ := rb
      have rb : RecAt C (fun a => H a = none) Hb x kv (run (evs.take n)) := ⟨dx', dw, ds, de, dt, ls, hR, fR, hP⟩
      refine rx_when (bb := false) (tn_not (tn_v (bb := true) (en_meth OA T.cl hr (ev_nm 2) hR (rF_no (by decide +kernel) (by decide +kernel) (by decide +kernel) (by decide +kernel) (by decide +kernel) (by decide +kernel)) (AV.cons (ev_nm 3) AV.nil) fun H1 e1 Q' k => ⟨x, kv, _, run (evs.take n), ks, v, e, rfl, rb.mono e1, g, (eb.trans e1) _ _ hk, hev.tx (eb.trans e1).tx, ho, fun H2 e2 => k _ _ e2 (by rw [hm])⟩))) (fun z => by cases z) fun _ => ?_
      refine rx_exprM (em_meth ON T.cl (hr.mono (by decide)) (ev_nm 2) hR (rF_no (by decide +kernel) (by decide +kernel) (by decide +kernel) (by decide +kernel) (by decide +kernel) (by decide +kernel)) (AM.av (AV.cons (ev_nm 3) AV.nil) fun H1 e1 => ⟨x, kv, _, run (evs.take n), v, e, rfl, rb.mono e1, g, hev.tx (eb.trans e1).tx, ⟨ks, hm⟩, hn, fun a ha => fresh_back (eb.trans e1) ha, fun H4 k4 t4 r4 => ⟨H4, Ex.refl _, rx_up rfl ⟨_, rfl, Ex.ofKp (eb.trans e1) k4, ?_⟩⟩⟩))
      rw [run_more he]
      exact r4
    · rintro σ' Hb ⟨tv, rfl, eb, rb⟩
      rw [hall.len, List.take_length] at rb
      exact rx_ret (ev_nm 2) fun H1 e1 => q x H1 (eb.trans e1) (rb.mono e1)
/-- a table and a history for it -/
def THAt (H : Hp) (tv hv : Addr) (ks : List Str) (evs : List Ev) : Prop := (∃ pairs, TabAt H tv ks pairs ∧ TableOk ks pairs) ∧ HistAt H hv evs ∧ Valid ks evs ∧ evs.length < 1000
theorem THAt.tx {H H' : Hp} (x : Tx H H') {tv hv : Addr} {ks : List Str} {evs : List Ev} (h : THAt H tv hv ks evs) : THAt H' tv hv ks evs := let ⟨⟨p, a, b⟩, c, d⟩ := h; ⟨⟨p, a.tx x, b⟩, c.tx x, d⟩
def spChecked (C : Addr) : Sp := fun vs H Q _ => ∃ (tv hv : Addr) (ks : List Str) (evs : List Ev), vs = [.ref tv, .ref hv] ∧ THAt H tv hv ks evs ∧
  ∀ (r kv : Addr) (H' : Hp), Ex H H' → H kv = some (.tup (ks.map V.str)) → RecAt C (fun a => H a = none) H' r kv (run evs) → Q (.ref r) H'
theorem own_checked (D : Def K mg "checked_record" sChecked) (OC : Own P w K mg base "check_table" ["table"] 4 spCheck) (OR : Own P w K mg base "record_of" ["kinds", "thing"] 4 (spRecordOf C)) : Own P w K mg base "checked_record" ["table", "history"] 5 (spChecked C) := by
  refine D.own scChecked (fun vs H Q E h => ?_) (fun _ _ _ _ _ _ us hl => match us, hl with | [_, _], _ => rfl) ?_
  · obtain ⟨tv, hv, ks, evs, rfl, _⟩ := h
    rfl
  · rintro X H vs Q E ⟨f, cdv, A, outer, st, rfl⟩ hr h
    obtain ⟨tv, hv, ks, evs, rfl, ⟨⟨pairs, ht, ok⟩, hh, hV, hz⟩, q⟩ := h
    have nd := scChecked.nd
    obtain ⟨k, c, as, h1, h2, h3, h4⟩ := id ht
    refine rx_exprM (EM.en (en_own (φ := fun _ _ => True) OC hr (by rfl) (AV.cons (ev_nm 0) AV.nil) fun H1 e1 Q' kk => ⟨tv, ks, pairs, rfl, ht.tx e1.tx, ok, fun H2 e2 => kk _ _ e2 trivial⟩) fun _ H2 e2 _ => ?_)
    refine rx_setM 2 (EM.en (en_own (φ := fun v H' => ∃ r, v = .ref r ∧ RecAt C (fun a => H a = none) H' r k (run evs)) OR hr (by rfl) (AV.cons (ev_ixT (ev_nm 0) ev_i (st_of (e2 _ _ h1)) rfl) (AV.cons (ev_nm 1) AV.nil)) fun H1 e1 Q' kk => ⟨k, hv, ks, evs, rfl, (e2.trans e1) _ _ h2, hh.tx (e2.trans e1).tx, hV, hz, fun r H3 e3 r3 => kk _ _ e3 ⟨r, rfl, ?_⟩⟩) fun v H3 e3 ⟨r, ev, r3⟩ => ?_) nd
    · obtain ⟨dx, dw, ds, de, dt, ls, a, b, hP⟩ := r3
      have f : ∀ a, H1 a = none → H a = none := fun a ha => fresh_back (e2.trans e1) ha
      exact ⟨dx, dw, ds, de, dt, ls, a, f _ b, hP.hs, hP.he, hP.ht, hP.ne, ⟨f _ hP.fp.1, f _ hP.fp.2.1, f _ hP.fp.2.2⟩, fun t ht => ⟨f _ (hP.hl t ht).1, (hP.hl t ht).2⟩, hP.inj, hP.hs2, hP.he2, hP.ho, hP.nw, f _ hP.fw⟩
    · subst ev
      refine rx_when (bb := false) (TN.is (tn_isN (ev_nm 2)) (by rfl)) (fun z => by cases z) fun _ => ?_
      exact rx_ret (ev_nm 2) fun H4 e4 => q r k H4 ((e2.trans e3).trans e4) h2 (r3.mono e4)
end
end E5
set_option Elab.async false
set_option linter.all false
set_option maxRecDepth 100000
set_option maxHeartbeats 4000000
namespace Y
open PySem PySem.Spec PyProof.Rows L2 Evl
section
variable {X : Cx} {σ : L2.St} {H H' : Hp} {v w x y z : V} {e a b c f o : Expr} {i j k : Nat} {n m : Int} {pos p1 p2 p3 q1 q2 q3 : Pos} {D : Ends} {l p r d : Addr} {xs ys : List V} {φ ψ : V → Hp → Prop} {nm : Str} {ns : List Int}
/-- tuple(a list that is told) -/
theorem en_tupleN {α : List V → Hp → Prop} (hg : Gl X "tuple") (hm : X.mg "tuple" = none) (ha : EN X a σ H (LP α)) (hst : starEach [a] X.env = (false, eval a X.env) :: starEach [] X.env := by rfl) :
    EN X (.Call (.Name "tuple" q1) [a] [] q2) σ H fun v H2 => ∃ q xs H3, v = .ref q ∧ H2 q = some (.tup xs) ∧ α xs H3 ∧ Ex H3 H2 :=
  EN.of (pe_callTy call_tuple_of hg hm (by decide +kernel) (pa_cons pe_sem pa_nil hst) (he := hst)) fun H1 e1 => sem_mono (ha H1 e1) fun v H2 ⟨e2, p, xs, ev, h, qa⟩ => ⟨p, xs, by rw [ev], .inl ⟨sq_of h, fun q hq => ⟨e2.trans (Ex.new hq), q, xs, H2, rfl, upd_same, qa, Ex.new hq⟩⟩⟩
/-- sorted(ints) -/
theorem en_sortedI (hg : Gl X "sorted") (hm : X.mg "sorted" = none) (ha : EN X a σ H fun v H2 => ∃ r, v = .ref r ∧ SqL X.K H2 r (ns.map V.int)) (hst : starEach [a] X.env = (false, eval a X.env) :: starEach [] X.env := by rfl) :
    EN X (.Call (.Name "sorted" q1) [a] [] q2) σ H (LP fun zs _ => ∃ ns' : List Int, zs = ns'.map V.int ∧ ns'.Perm ns ∧ ns'.Pairwise (· ≤ ·)) :=
  EN.of (pe_callB cr_sortedI hg hm (by decide +kernel) (pa_cons pe_sem pa_nil hst) (he := hst)) fun H1 e1 => sem_mono (ha H1 e1) fun v H2 ⟨e2, r, ev, h⟩ => by
    refine ⟨r, ns, by rw [ev], h, fun ns' p h1 h2 hp => ⟨e2.trans (Ex.new hp), p, ns'.map V.int, rfl, upd_same, ns', rfl, h1, h2⟩⟩
/-- sorted(ints, reverse=True) -/
theorem en_sortedRev {k0 : Nat} {kp : Pos} (hg : Gl X "sorted") (hm : X.mg "sorted" = none) (ha : EV X a σ H (.ref r)) (h : SqL X.K H r (ns.map V.int)) (hst : starEach [a] X.env = (false, eval a X.env) :: starEach [] X.env := by rfl)
    (he : backTo q2 (starEach [a] X.env) = (false, eval a X.env) :: backTo q2 (starEach [] X.env) := by rfl) (hpl : (backTo q2 (starEach [a] X.env)).any (·.1) = false := by rfl) :
    EN X (.Call (.Name "sorted" q1) [a] [⟨some "reverse", .Constant (.bool true) k0 q3, kp⟩] q2) σ H (LP fun zs _ => ∃ ns' : List Int, zs = ns'.map V.int ∧ ns'.Perm ns ∧ ns'.Pairwise (· ≥ ·)) :=
  EN.of (pe_callBK (cr_sortedRev (b := true)) hg hm (by decide +kernel) (pa_cons pe_sem pa_nil hst) (pk_cons pe_bl pk_nil) (he := he) (hpl := hpl)) fun H1 e1 => EV.ev ha H1 e1 _ fun H2 e2 => ⟨r, ns, rfl, rfl, ex_l (e1.trans e2) h, fun ns' p h1 h2 hp => ⟨e2.trans (Ex.new hp), p, ns'.map V.int, rfl, upd_same, ns', rfl, h1, h2⟩⟩
end
end Y
set_option Elab.async false
set_option linter.all false
set_option maxRecDepth 100000
set_option maxHeartbeats 4000000
namespace Y
open PySem PySem.Spec PyProof.Rows L2 Evl
section
variable {X : Cx} {σ : L2.St} {H H' : Hp} {i j k : Nat} {pos spos px py : Pos} {D : Ends} {rest : List Stmt} {r : Addr} {elt l tst : Expr} {xn y : Str} {scope : Scope} {own : List (Str × Nat)} {φ : List V → Hp → Prop}
/-- y = [.. for x in a tuple that is told] on one line -/
theorem rx_setTN (i j : Nat) (hc : X.calm = true) (hN : X.N.Nodup) (ok : BlkOk X.N X.env.scope scope own) (hl : EN X l σ H fun v H2 => ∃ r xs, v = .ref r ∧ H2 r = some (.tup xs) ∧ xs.length ≤ 100000 ∧ φ xs H2)
    (hg : ∀ (s : Shared) (H : Hp) (C : Addr) (cl : List (Str × Addr)) (fp : List Addr), PG (X.blk s H scope (compEnvC scope cl C X.env) fp) (.Name xn px) (gName j))
    (hw : ∀ v, wipe ((wipe σ (own.map (·.2))).set j (some v)) (own.map (·.2)) = wipe σ (own.map (·.2)))
    (P : List V → Nat → List V → Hp → Prop) (hP : ∀ xs n acc H1 H2, Tx H1 H2 → P xs n acc H1 → P xs n acc H2) (h0 : ∀ xs H2, φ xs H2 → P xs 0 [] H2)
    (hs : ∀ xs n x acc Hb (s : Shared) (H' : Hp) (C : Addr) (cl : List (Str × Addr)) (fp : List Addr), xs[n]? = some x → Ex H Hb → P xs n acc Hb → EN (X.blk s H' scope (compEnvC scope cl C X.env) fp) elt ((wipe σ (own.map (·.2))).set j (some x)) Hb fun v H2 => P xs (n + 1) (acc ++ [v]) H2)
    (k : ∀ (D' : Addr) (xs acc : List V) (H2 : Hp), Ex H H2 → H D' = none → H2 D' = some (.lst acc) → P xs xs.length acc H2 → RX X rest D (σ.set i (some (.ref D'))) H2)
    (hi : X.N[i]? = some y := by rfl) (hyl : X.env.scope.names.lookup y = some .local := by rfl) (hsw : swapsWith (.ListComp elt [⟨.Name xn px, l, [], 0⟩] scope pos) (some (.Name y py)) spos.line X.env = pure true := by rfl)
    (hfo : ∀ x, foldedSetIterable l X.env x = pure x := by intro _; rfl) :
    RX X (.Assign [.Name y py] (.ListComp elt [⟨.Name xn px, l, [], 0⟩] scope pos) spos :: rest) D σ H :=
  rx_of (ps_setLc hc hN hi hyl hsw (pi_tup pe_sem) ok hg (fun _ _ _ _ _ => pts_nil) (fun s H' C cl fp => pe_blk s H' C cl fp) hfo) fun H1 e1 => sem_mono (hl H1 e1) fun v H2 ⟨e2, r, xs, er, hr, hz, hφ⟩ => ⟨r, er, ⟨xs, st_of hr⟩, fun D hD =>
    lc_it (walk_tup (K := X.K) (a := r) (xs := xs)) (LcW H2 D (P xs)) ⟨[], Nat.le_refl _, hD, Ex.new hD, upd_same, hP _ _ _ _ _ (Ex.new hD).tx (h0 xs H2 hφ)⟩ (fun i H' _ p => let ⟨_, _, _, e, _, _⟩ := p; ex_t e (st_of hr))
      (fun i x H' H'' hi ⟨acc, q1, q2, q3, q4, q5⟩ ⟨eh, hx⟩ => by
        subst eh
        exact ⟨hw _, iteT (B := LcW H2 D (P xs) (i + 1) H'') fun s H3 C cl fp => sem_mono (hs xs i x acc _ s H3 C cl fp hx ((e1.trans e2).trans q3) q5 _ (Ex.refl _)) fun v H4 ⟨e4, q6⟩ => LcW.push (hP xs) q1 q2 (q3.trans e4) (e4 D _ q4) (by omega) q6⟩)
      (fun H' ⟨acc, q1, q2, q3, q4, q5⟩ => k D xs acc H' ((e1.trans e2).trans q3) (fresh_back (e1.trans e2) q2) q4 q5 H' (Ex.refl H'))⟩
end
end Y
set_option Elab.async false
set_option linter.all false
set_option maxRecDepth 100000
set_option maxHeartbeats 4000000
/-! a law's own def, entered where no repr runs; repr of data of any depth -/
namespace Y
open PySem PySem.Spec PyProof.Rows L2 Evl
section
variable {P : Program} {w : World} {K : PySem.W.Frag} {mg : Str → Option Value} {base : Heap} {k : Nat} {f : Addr} {fd : FuncData} {ps N : List Str} {sp : Sp} {x q nm : Str} {st : Stmt}
/-- a promise that is kept where no repr of a list, tuple or dict is under way -/
structure FnG (P : Program) (w : World) (K : PySem.W.Frag) (mg : Str → Option Value) (base : Heap) (k : Nat) (f : Addr) (fd : FuncData) (ps : List Str) (sp : Sp) : Prop where
  go : ∀ (A : Around) (fr : List Env) (t : Shared) (H : Hp) (ar : Args) (us : List Value) (vs : List V) (Q : VK) (E : XK), A.guards = some [] → Room k A → Env0 P w K mg base A fr t H → BindsTo t fd ar (ps.zip us) → Vals vs us → sp vs H Q E →
    codeAny (model P w) A (.call (.ref f) ar) (CR CX0 fr P w H t Q E) t
theorem fun_G (F : Fun K x q st f fd) (S : FnScope N ps (defScope st)) (len : ∀ vs H Q E, sp vs H Q E → vs.length = ps.length)
    (hbody : ∀ (X : Cx) (H : Hp) (vs : List V) (Q : VK) (E : XK), (∃ (f : Addr) (cdv : Value) (A : Around) (outer : List Env) (s : Shared), X = (cxOf CX0 P w K mg base N q (defScope st) f cdv A outer s H E).nox) → X.A.guards = some [] → Room k X.A → sp vs H Q E → RX X (defBody st) { nx := fun _ H' => Q .non H', rt := Q } (start N vs) H) : FnG P w K mg base (k + 1) f fd ps sp := by
  obtain ⟨oc, od, kV, doc, pm, an, cdv, ct, osl, rfl, lk, hcd⟩ := F.ex
  refine ⟨fun A fr t H ar us vs Q E hg hr e0 hb r hsp => ?_⟩
  have hl := len _ _ _ _ hsp
  have kin : K.In t.heap := e0.mod.kin.keeps fun b o e => (e0.bs b o e).1
  have nol : t.heap.NoLimit := e0.mod.nolimit.keeps fun b o e => (e0.bs b o e).1
  have kinds : ∀ y ∈ ps.zip us, (defScope st).names.lookup y.1 = some .local ∨ ((defScope st).names.lookup y.1 = some .cell ∧ ((cellsFrom (t.heap.objs.size + 1) (defScope st).names []).lookup y.1).isSome = true) := fun ⟨n, v⟩ hy =>
    (S.par n (List.of_mem_zip hy).1).imp id fun z => ⟨z, PySem.W.cellsFrom_some _ _ _ (.inl z)⟩
  refine codeAny_call_function hr.depth (kin _ _ lk) rfl S.co S.gen rfl (PySem.W.codeRec_of kin hcd) (hb _ _ _ _ ?_)
  refine wpAny_newFunctionEnv_cells S.kind kinds fun env he s1 z => ?_
  subst he
  refine ⟨nol.keeps z.toInCall.keep, codeAny_func ?_⟩
  have I0 := inv_start (CX := CX0) (E := E) S hr.hd e0 hl r z
  have B := hbody _ H vs Q E ⟨f, cdv, A, fr, t, rfl⟩ hg (hr.deeper _) hsp H (Ex.refl H)
  refine wpAny_mono ((PSs.nox pss_sem).run [] s1 (start N vs) H _ I0 B) (fun fl t' hs => ?_) fun _ _ hs => hs
  rcases fl with _ | _ | _ | u
  · obtain ⟨_, H', J, q⟩ := hs
    exact ⟨V.non, H', J.os, J.bare, J.base, J.hok, rfl, q⟩
  · obtain ⟨_, _, _, q⟩ := hs
    exact False.elim q
  · obtain ⟨_, _, _, q⟩ := hs
    exact False.elim q
  · obtain ⟨v, _, H', J, rv, q⟩ := hs
    exact ⟨v, H', J.os, J.bare, J.base, J.hok, rv, q⟩
end
end Y
set_option Elab.async false
set_option linter.all false
set_option maxRecDepth 100000
set_option maxHeartbeats 4000000
namespace Y
open PySem PySem.Spec PyProof.Rows L2 Evl
/-- from a heap in which nothing is known but, perhaps, the script -/
theorem enterG {P : Program} {w : World} {K : PySem.W.Frag} {g gb : Str → Option Value} {k : Nat} {fa a : Addr} {fd : FuncData} {x : Str} {sp : Sp} {t : Shared} {vs : List Value}
    (kin : K.In t.heap) (hg : t.heap.Ns mainGlobals g) (hb : t.heap.Ns builtinsNs gb) (hbb : ∀ x : Str, x ≠ "__name__" → gb x = bootBuiltins x) (nol : t.heap.NoLimit) (gens : t.gens = #[])
    (ha : t.heap.get? a = some { cls := .type "list", data := .seq vs.toArray }) (room : Room k callerA)
    (F : ∀ bs : Heap, K.In bs → bs.Ns mainGlobals g → FnG P w K g bs k fa fd [x] sp) (bind : ∀ (s : Shared) (u : Value), BindsTo s fd ⟨[u], []⟩ [(x, u)])
    (H : Hp) (only : Only H) (hsp : sp [.ref a] H (fun v _ => v = .bl true) fun _ _ _ => False) (ok : HOk P w H t.heap) (alone : ∀ b, H b ≠ none → b = a) (free : H a ≠ none → K.lookup a = none) :
    codeAny (model P w) callerA (.call (.ref fa) ⟨[.ref a], []⟩) (fun r t' => r = .ok (.ret (.bool true)) ∧ OldK t.heap t'.heap ∧ t'.os = t.os ∧ AllBare t'.gens) t := by
  -- a namespace is no list: it is not the script
  have off : ∀ {b : Addr} {o : Obj} {es : Array DictEntry} {ep : Nat}, t.heap.get? b = some o → o.data = .dict es ep → H b = none := by
    intro b o es ep e d
    rcases Classical.em (H b = none) with z | z
    · exact z
    · rw [alone b z, ha] at e
      cases e
      cases (show Data.seq vs.toArray _ = Data.dict es ep from d)
  have up : ∀ {b : Addr} {m : Str → Option Value}, t.heap.Ns b m → (hidT t.heap H).Ns b m := by
    rintro b m ⟨o, es, ep, e, d, r⟩
    exact ⟨o, es, ep, hidT_get e (off e d), d, r⟩
  have kb : K.In (hidT t.heap H) := by
    intro b o e
    refine hidT_get (kin b o e) ?_
    rcases Classical.em (H b = none) with z | z
    · exact z
    · have q := alone b z
      subst q
      rw [free z] at e; cases e
  obtain ⟨mc, l1, l2⟩ := id nol
  have md : Mod K g (hidT t.heap H) := ⟨kb, up hg, ⟨gb, up hb, hbb⟩, ⟨mc, up l1, l2⟩⟩
  have e0 : Env0 P w K g (hidT t.heap H) callerA [] t H := by
    refine ⟨rfl, md, fun _ _ e => of_hidT e, ?_, trivial, ?_, ok, .of_eq gens⟩
    · exact Nat.le_of_eq (hidT_size _ _)
    · intro b z
      cases (show b ∈ ([] : List Addr) from z)
  have R := (F _ kb (up hg)).go callerA [] t H ⟨[.ref a], []⟩ [.ref a] [.ref a] _ _ rfl room e0 (bind t (.ref a)) (.cons rfl .nil) hsp
  refine codeAny_mono R fun r t' h => ?_
  match r, h with
  | .error e, h => exact False.elim h
  | .ok .next, h => exact False.elim h
  | .ok .brk, h => exact False.elim h
  | .ok .cont, h => exact False.elim h
  | .ok (.ret u), h =>
    obtain ⟨v, H', os, bare, un, ok', rv, rfl⟩ := h
    cases (show u = Value.bool true from rv)
    refine ⟨rfl, OldK.of_keep fun b o e => ?_, os, bare⟩
    rcases z : H b with _ | u
    · refine un.keep b o e z (fun q => ?_) (fun q => nomatch q)
      cases (show b ∈ ([] : List Addr) from q)
    · rcases only b with q | ⟨o', xs, q⟩
      · rw [z] at q; cases q
      · obtain ⟨f1, _⟩ := ok b _ q
        obtain ⟨f2, _⟩ := ok' b _ (un.frzs b o' _ q)
        rw [e] at f1
        cases f1
        exact f2
theorem law_G {P : Program} {w : World} {K : PySem.W.Frag} {g gb : Str → Option Value} {k : Nat} {fa a : Addr} {fd : FuncData} {x : Str} {sp : Sp} {t : Shared} {vs : List Value} {ns : List Int}
    (kin : K.In t.heap) (hg : t.heap.Ns mainGlobals g) (hb : t.heap.Ns builtinsNs gb) (hbb : ∀ x : Str, x ≠ "__name__" → gb x = bootBuiltins x) (nol : t.heap.NoLimit) (gens : t.gens = #[])
    (ha : t.heap.get? a = some { cls := .type "list", data := .seq vs.toArray }) (hin : IntsAre vs ns) (hl : ns.length ≤ sizeLine) (room : Room k callerA)
    (F : ∀ bs : Heap, K.In bs → bs.Ns mainGlobals g → FnG P w K g bs k fa fd [x] sp) (bind : ∀ (s : Shared) (u : Value), BindsTo s fd ⟨[u], []⟩ [(x, u)])
    (hsp : ∀ H : Hp, Only H → SqL K H a (ns.map V.int) → sp [.ref a] H (fun v _ => v = .bl true) fun _ _ _ => False) :
    codeAny (model P w) callerA (.call (.ref fa) ⟨[.ref a], []⟩) (fun r t' => r = .ok (.ret (.bool true)) ∧ OldK t.heap t'.heap ∧ t'.os = t.os ∧ AllBare t'.gens) t := by
  have rv := vals_ints hin
  have len := hin.length
  cases hk : K.lookup a with
  | some o =>
    have e := kin a o hk
    rw [ha] at e
    cases e
    have o0 : Only fun _ => none := fun _ => .inl rfl
    refine enterG kin hg hb hbb nol gens ha room F bind (fun _ => none) o0 (hsp _ o0 (.inr ⟨_, vs.toArray, _, hk, rfl, rfl, rfl, ?_, by simpa using rv⟩)) (fun b u z => nomatch z) (fun b z => absurd rfl z) fun z => absurd rfl z
    rw [List.size_toArray, len]; exact hl
  | none =>
    have here : ∀ b, (upd (fun _ => none) a (.frz { cls := .type "list", data := .seq vs.toArray } (.lst (ns.map V.int)))) b ≠ none → b = a := fun b z => by
      rcases Classical.em (b = a) with q | q
      · exact q
      · exact absurd (upd_ne q) z
    have o1 : Only (upd (fun _ => none) a (.frz { cls := .type "list", data := .seq vs.toArray } (.lst (ns.map V.int)))) := fun b => by
      rcases Classical.em (b = a) with q | q
      · subst q; exact .inr ⟨_, _, upd_same⟩
      · exact .inl (upd_ne q)
    refine enterG kin hg hb hbb nol gens ha room F bind _ o1 (hsp _ o1 (.inl (.inr ⟨_, upd_same⟩))) (fun b u z => ?_) here fun _ => hk
    have q := here b (by rw [z]; exact nofun)
    subst q
    rw [upd_same] at z
    cases z
    exact ⟨ha, by rw [List.length_map]; exact hl, vs, _, rv, ha⟩
/-- what the head leaves, from a promise that is kept at the entry -/
theorem walk_G {l : PySem.W.OpenLaw} {n k : Nat} {q : Program} {loose : List Str} {XP : (Str → Option Value) → Heap → Prop} {YP : World → Heap → Prop} {d : DefRec} {K : Params → PySem.W.Frag} {sp : World → Sp} {x : Str}
    (most : l.most = some n) (n2 : n ≤ sizeLine) (nodf : d.params.defaults = []) (room : Room k callerA) (hY : ∀ (w : World) (h : Heap), YP w h → (K w.params).In h)
    (F : ∀ (w : World) (g : Str → Option Value) (fa : Addr) (h : Heap), (K w.params).In h → h.Ns mainGlobals g → g d.name = some (.ref fa) →
      ∃ fd : FuncData, (∀ (s : Shared) (u : Value), BindsTo s fd ⟨[u], []⟩ [(x, u)]) ∧ ∀ bs : Heap, (K w.params).In bs → bs.Ns mainGlobals g → FnG l.prog w (K w.params) g bs k fa fd [x] (sp w))
    (hsp : ∀ (w : World) (H : Hp) (a : Addr) (ns : List Int), ns.length ≤ n → Only H → SqL (K w.params) H a (ns.map V.int) → sp w [.ref a] H (fun v _ => v = .bl true) fun _ _ _ => False) :
    PySem.W.WalkO q loose XP YP l.row.toRowW d [] (fun f vs => PySem.call f vs) := by
  refine Att.attach_call most nodf fun w _ t g _ fa _ _ _ _ a vs ns G Y _ _ _ hmg hobj hints hlen gens => ?_
  obtain ⟨fd, bind, B⟩ := F w g fa _ (hY w _ Y) G.T.g hmg
  exact law_G (hY w _ Y) G.T.g G.T.b G.T.builtins G.T.nolimit gens hobj hints (Nat.le_trans hlen n2) room B bind fun H o1 o2 => hsp w H a ns hlen o1 o2
end Y
set_option Elab.async false
set_option linter.all false
set_option maxRecDepth 100000
set_option maxHeartbeats 4000000
namespace Y
open PySem PySem.Spec PyProof.Rows L2 Evl
section
variable {X : Cx} {σ : L2.St} {H H' : Hp} {v w x y z : V} {e a b c f o : Expr} {i j k : Nat} {n m : Int} {pos p1 p2 p3 q1 q2 q3 : Pos} {D : Ends} {l p r d : Addr} {xs ys : List V} {φ ψ : V → Hp → Prop} {nm : Str} {ns : List Int}
/-! ### repr of data -/
theorem cr_reprD (hg : X.A.guards = some []) (hu : X.A.units + 64 < cLine) : CallR X (.builtin "repr") fun xs H Q => ∃ a d, xs = [.ref a] ∧ Dp X.K H (.ref a) d ∧ d.showable = true ∧ d.hasDict = false ∧ d.depth ≤ 60 ∧ d.shown.length ≤ sizeLine ∧ Q (.str d.shown) H := by
  intro pins s σ H xs us Q I r h
  obtain ⟨a, d, rfl, hd, h1, h2, h3, h4, q⟩ := h
  rw [Vals.ref1 r]
  obtain ⟨as, hr⟩ := Dp.reads I d (.ref a) (.ref a) hd rfl
  refine repr_of_reads' hr h1 (fun z => by rw [h2] at z; cases z) hg (by omega) (fun _ _ e => e) (fun h' u tk hk => ?_) h4
  exact ⟨.str _, H, I.kept hk, ⟨_, rfl⟩, q⟩
mutual
theorem Dp.ex {K : PySem.W.Frag} (e : Ex H H') : ∀ (d : PyData) (v : V), Dp K H v d → Dp K H' v d
  | .none, _, h => by cases h; exact .non
  | .bool b, _, h => by cases h; exact .bl b
  | .int i, _, h => by cases h; exact .int i
  | .str x, _, h => by cases h; exact .str x
  | .list ds, _, h => by
    cases h with
    | lst hs ha => exact .lst (ex_l e hs) (DpAll.ex e ds _ ha)
  | .tuple ds, _, h => by
    cases h with
    | tup hs ha => exact .tup (ex_t e hs) (DpAll.ex e ds _ ha)
  | .dict _, _, h => by cases h
theorem DpAll.ex {K : PySem.W.Frag} (e : Ex H H') : ∀ (ds : List PyData) (vs : List V), DpAll K H vs ds → DpAll K H' vs ds
  | [], _, h => by cases h; exact .nil
  | d :: ds, _, h => by
    cases h with
    | cons h1 h2 => exact .cons (Dp.ex e d _ h1) (DpAll.ex e ds _ h2)
end
theorem ev_reprD {d : PyData} (hgu : X.A.guards = some []) (hu : X.A.units + 64 < cLine) (hg : Gl X "repr") (hm : X.mg "repr" = none) (ha : EV X a σ H (.ref p)) (hd : Dp X.K H (.ref p) d) (h1 : d.showable = true) (h2 : d.hasDict = false) (h3 : d.depth ≤ 60) (h4 : d.shown.length ≤ sizeLine)
    (hst : starEach [a] X.env = (false, eval a X.env) :: starEach [] X.env := by rfl) : EV X (.Call (.Name "repr" q1) [a] [] q2) σ H (.str d.shown) :=
  EV.of (pe_callB (cr_reprD hgu hu) hg hm (by decide +kernel) (pa_cons pe_sem pa_nil hst) (he := hst)) (ev_cb (ea_cons (EV.ev ha) ea_nil) fun H1 e1 Q q => ⟨p, d, rfl, Dp.ex e1 d _ hd, h1, h2, h3, h4, q H1 (Ex.refl H1)⟩)
/-- data != data -/
theorem tn_neD {d d' : PyData} (hu : X.A.units + 64 < cLine) (ha : EV X a σ H v) (hd : Dp X.K H v d) (hb : EN X b σ H fun v' H2 => Dp X.K H2 v' d') (s1 : SeqAt.shaped d = true) (s2 : SeqAt.shaped d' = true) (hm : behindInMarks .NotEq b = false := by rfl) : TN X (.Compare a [.NotEq] [b] pos) σ H (!PyData.eqv d d') :=
  ⟨fun H1 e1 => semT_of (pt_cmpR (op_neD hu) pe_sem pe_sem hm) (EV.ev ha H1 e1 _ fun H2 e2 => sem_mono (hb H2 (e1.trans e2)) fun v' H3 ⟨e3, hd'⟩ => ⟨d, d', Dp.ex ((e1.trans e2).trans e3) d _ hd, hd', s1, s2, _, rfl, e2.trans e3, rfl⟩)⟩
end
/-! ### numbers, and pairs of them -/
abbrev dI (xs : List Int) : PyData := .tuple (xs.map PyData.int)
abbrev dPr (q : Int × Int) : PyData := .tuple [.int q.1, .int q.2]
abbrev dP (ps : List (Int × Int)) : PyData := .tuple (ps.map dPr)
section
variable {K : PySem.W.Frag} {H : Hp}
theorem dp_nums : ∀ (xs : List Int), DpAll K H (xs.map V.int) (xs.map PyData.int)
  | [] => .nil
  | x :: r => .cons (.int x) (dp_nums r)
theorem dp_I {a : Addr} {xs : List Int} (h : H a = some (.tup (xs.map V.int))) : Dp K H (.ref a) (dI xs) := .tup (st_of h) (dp_nums xs)
def IntOk (i : Int) : Prop := i.natAbs < 10 ^ 41
theorem IntOk.show {i : Int} (h : IntOk i) : PyData.showable (.int i) = true := by
  show decide (i.natAbs.log2 < 1920) = true
  have h : i.natAbs < 10 ^ 41 := h
  refine decide_eq_true ?_
  by_cases z : i.natAbs = 0
  · rw [z]; decide
  · exact (Nat.log2_lt z).mpr (Nat.lt_of_lt_of_le h (Nat.le_trans (show 10 ^ 41 ≤ 2 ^ 200 by decide) (Nat.pow_le_pow_right (by decide) (by decide))))
theorem IntOk.len {i : Int} (h : IntOk i) : (PyData.shown (.int i)).length ≤ 42 := by
  have h : i.natAbs < 10 ^ 41 := h
  have e := int_text_length_le10 (k := 41) (by decide) h
  show (Str.ofString (toString i)).length ≤ 42
  rw [PySem.ofString_length]; exact e
theorem sum_le {α : Type} {f : α → Nat} {B : Nat} : ∀ {l : List α}, (∀ x ∈ l, f x ≤ B) → (l.map f).sum ≤ B * l.length
  | [], _ => by simp
  | x :: r, h => by
    have h1 := h x List.mem_cons_self
    have h2 := sum_le (l := r) fun y hy => h y (List.mem_cons_of_mem _ hy)
    rw [List.map_cons, List.sum_cons, List.length_cons, Nat.mul_add, Nat.mul_one]; omega
theorem shownAll_map (ds : List PyData) : PyData.shownAll ds = ds.map PyData.shown := by
  induction ds with
  | nil => rfl
  | cons d r ih => rw [PyData.shownAll, ih]; rfl
theorem showableAll_map (ds : List PyData) : PyData.showableAll ds = ds.all PyData.showable := by
  induction ds with
  | nil => rfl
  | cons d r ih => rw [PyData.showableAll, ih]; rfl
theorem hasDictAll_map (ds : List PyData) : PyData.hasDictAll ds = ds.any PyData.hasDict := by
  induction ds with
  | nil => rfl
  | cons d r ih => rw [PyData.hasDictAll, ih]; rfl
theorem depthAll_le {B : Nat} : ∀ (ds : List PyData), (∀ d ∈ ds, d.depth ≤ B) → PyData.depthAll ds ≤ B
  | [], _ => Nat.zero_le _
  | d :: r, h => by
    have h1 := h d List.mem_cons_self
    have h2 := depthAll_le r fun y hy => h y (List.mem_cons_of_mem _ hy)
    rw [PyData.depthAll]; omega
theorem canLayAll_map (ds : List PyData) : PyData.canLayAll0 ds = ds.all PyData.canLay0 := by
  induction ds with
  | nil => rfl
  | cons d r ih => rw [PyData.canLayAll0, ih]; rfl
/-- data that can be shown, in at most so many signs -/
structure Sh (d : PyData) (dep len : Nat) : Prop where
  s : d.showable = true
  h : d.hasDict = false
  dp : d.depth ≤ dep
  l : d.shown.length ≤ len
  c : d.canLay0 = true
theorem Sh.int {i : Int} (h : IntOk i) : Sh (.int i) 0 42 := ⟨h.show, rfl, Nat.le_refl _, h.len, rfl⟩
theorem Sh.tup {ds : List PyData} {dep len n : Nat} (h : ∀ d ∈ ds, Sh d dep len) (hn : ds.length ≤ n) : Sh (.tuple ds) (dep + 1) ((len + 2) * n + 3) := by
  refine ⟨?_, ?_, ?_, ?_, ?_⟩
  · show PyData.showableAll ds = true
    rw [showableAll_map, List.all_eq_true]
    exact fun d hd => (h d hd).s
  · show PyData.hasDictAll ds = false
    rw [hasDictAll_map, List.any_eq_false]
    exact fun d hd => by rw [(h d hd).h]; decide
  · show PyData.depthAll ds + 1 ≤ _
    exact Nat.succ_le_succ (depthAll_le ds fun d hd => (h d hd).dp)
  · show (tupleText (PyData.shownAll ds)).length ≤ _
    have h1 := tupleText_len_le (PyData.shownAll ds)
    rw [shownAll_map, List.map_map, List.length_map] at h1
    have h2 := sum_le (f := fun d => (PyData.shown d).length) (l := ds) fun d hd => (h d hd).l
    rw [shownAll_map]
    have h3 : (ds.map ((fun s : Str => s.length) ∘ PyData.shown)).sum = (ds.map fun d => (PyData.shown d).length).sum := rfl
    have h4 : (len + 2) * ds.length ≤ (len + 2) * n := Nat.mul_le_mul_left _ hn
    have h5 : (len + 2) * ds.length = len * ds.length + 2 * ds.length := Nat.add_mul _ _ _
    omega
  · show PyData.canLayAll0 ds = true
    rw [canLayAll_map, List.all_eq_true]
    exact fun d hd => (h d hd).c
theorem Sh.mono {d : PyData} {a b a' b' : Nat} (h : Sh d a b) (ha : a ≤ a') (hb : b ≤ b') : Sh d a' b' := ⟨h.s, h.h, Nat.le_trans h.dp ha, Nat.le_trans h.l hb, h.c⟩
theorem Sh.I {xs : List Int} (h : ∀ x ∈ xs, IntOk x) (hl : xs.length ≤ 1000) : Sh (dI xs) 1 50000 := by
  refine (Sh.tup (len := 42) (dep := 0) (n := 1000) (fun d hd => ?_) (by rw [List.length_map]; exact hl)).mono (Nat.le_refl _) (by decide)
  obtain ⟨x, hx, rfl⟩ := List.mem_map.mp hd
  exact Sh.int (h x hx)
theorem Sh.P {ps : List (Int × Int)} (h : ∀ q ∈ ps, IntOk q.1 ∧ IntOk q.2) (hl : ps.length ≤ 1000) : Sh (dP ps) 2 100000 := by
  refine (Sh.tup (len := 91) (dep := 1) (n := 1000) (fun d hd => ?_) (by rw [List.length_map]; exact hl)).mono (Nat.le_refl _) (by decide)
  obtain ⟨q, hq, rfl⟩ := List.mem_map.mp hd
  refine (Sh.tup (ds := [.int q.1, .int q.2]) (len := 42) (dep := 0) (n := 2) (fun d hd => ?_) (Nat.le_refl 2)).mono (Nat.le_refl _) (by decide)
  rcases List.mem_cons.mp hd with rfl | hd
  · exact Sh.int (h q hq).1
  · rcases List.mem_cons.mp hd with rfl | hd
    · exact Sh.int (h q hq).2
    · exact nomatch hd
theorem Sh.shaped {d : PyData} {a b : Nat} (h : Sh d a b) (ha : a ≤ 64) : SeqAt.shaped d = true := by
  unfold SeqAt.shaped
  rw [h.c, decide_eq_true (Nat.le_trans h.dp ha)]; rfl
end
theorem eqvAll_of {ds : List PyData} (h : ∀ d ∈ ds, PyData.eqv d d = true) : PyData.eqvAll ds ds = true := by
  induction ds with
  | nil => rfl
  | cons d r ih =>
    rw [PyData.eqvAll, h d List.mem_cons_self, ih fun y hy => h y (List.mem_cons_of_mem _ hy)]; rfl
theorem eqv_I (xs : List Int) : PyData.eqv (dI xs) (dI xs) = true := eqvAll_of fun d hd => by
  obtain ⟨x, _, rfl⟩ := List.mem_map.mp hd
  show (x == x) = true
  exact beq_self_eq_true x
theorem eqv_P (ps : List (Int × Int)) : PyData.eqv (dP ps) (dP ps) = true := eqvAll_of fun d hd => by
  obtain ⟨q, _, rfl⟩ := List.mem_map.mp hd
  show PyData.eqv (dI [q.1, q.2]) (dI [q.1, q.2]) = true
  exact eqv_I _
end Y
set_option Elab.async false
set_option linter.all false
set_option maxRecDepth 100000
set_option maxHeartbeats 4000000
/-! calls by keyword in any order -/
namespace Y
open PySem PySem.Spec PyProof.Rows L2 Evl
/-- the items at some places -/
def at_ {α : Type} (ix : List Nat) (l : List α) : List α := ix.filterMap fun i => l[i]?
theorem Vals.at_ {zs : List V} {ws : List Value} (h : Vals zs ws) : ∀ ix : List Nat, Vals (Y.at_ ix zs) (Y.at_ ix ws)
  | [] => .nil
  | i :: r => by
    have ih := Vals.at_ h r
    cases e : zs[i]? with
    | none =>
      have e' := Vals.none_of h e
      show Vals (List.filterMap _ (i :: r)) (List.filterMap _ (i :: r))
      rw [List.filterMap_cons, List.filterMap_cons, e, e']
      exact ih
    | some z =>
      obtain ⟨u, e', rz⟩ := Vals.get h e
      show Vals (List.filterMap _ (i :: r)) (List.filterMap _ (i :: r))
      rw [List.filterMap_cons, List.filterMap_cons, e, e']
      exact .cons rz ih
section
variable {P : Program} {w : World} {K : PySem.W.Frag} {mg : Str → Option Value} {base : Heap} {nm : Str} {ps qs : List Str} {ix : List Nat} {lv : Nat} {sp : Sp} {st : Stmt}
structure OwnK (P : Program) (w : World) (K : PySem.W.Frag) (mg : Str → Option Value) (base : Heap) (nm : Str) (ps qs : List Str) (ix : List Nat) (lv : Nat) (sp : Sp) : Prop where
  ex : ∃ g fd, FnOk P w K mg base CX0 lv g fd ps sp ∧ PySem.W.keepIn K (.ref g) = true ∧ (∀ (s : Shared) (ws : List Value), ws.length = qs.length → BindsTo s fd ⟨[], qs.zip ws⟩ (ps.zip (at_ ix ws))) ∧ mg nm = some (.ref g)
theorem Def.both (D : Def K mg nm st) (ok : ∀ f fd, Fun K nm nm st f fd → FnOk P w K mg base CX0 lv f fd ps sp)
    (hb : ∀ (kV doc pm : Value) (an : Option Addr) (cdv ct : Value) (us : List Value), us.length = ps.length → bindArgs (PySem.W.fnOf nm nm (defArgs st) (defBody st) (defScope st) .none kV doc pm an cdv ct) ⟨us, []⟩ = pure (ps.zip us))
    (hbK : ∀ (kV doc pm : Value) (an : Option Addr) (cdv ct : Value) (us : List Value), us.length = qs.length → bindArgs (PySem.W.fnOf nm nm (defArgs st) (defBody st) (defScope st) .none kV doc pm an cdv ct) ⟨[], qs.zip us⟩ = pure (ps.zip (at_ ix us))) :
    Own P w K mg base nm ps lv sp ∧ OwnK P w K mg base nm ps qs ix lv sp := by
  obtain ⟨f, fd, F, m⟩ := D.ex
  have h1 := ok f fd F
  refine ⟨⟨f, fd, h1, F.kp, F.binds hb, m⟩, ⟨f, fd, h1, F.kp, ?_, m⟩⟩
  obtain ⟨oc, od, kV, doc, pm, an, cdv, ct, osl, rfl, lk, hcd⟩ := F.ex
  exact fun s ws hl => .of_eq (hbK kV doc pm an cdv ct ws hl)
end
section
variable {X : Cx} {σ : L2.St} {H : Hp} {q1 q2 : Pos} {φ : V → Hp → Prop} {nm : Str} {ps qs : List Str} {ix : List Nat} {lv : Nat} {sp : Sp} {kws : List Keyword} {zs : List V}
theorem en_ownK (O : OwnK X.prog X.w X.K X.mg X.base nm ps qs ix lv sp) (hr : Room lv X.A) (hg : Gl X nm) (ha : KV X kws σ H zs) (hz : zs.length = qs.length) (h : ∀ H1, Ex H H1 → ∀ Q : VK, (∀ v H2, Ex H1 H2 → φ v H2 → Q v H2) → sp (at_ ix zs) H1 Q (fun _ _ _ => False))
    (hall : (backToKw q2 (keywordEach kws X.env)).all (·.1.isSome) = true := by rfl) (hks : (backToKw q2 (keywordEach kws X.env)).filterMap (·.1) = qs := by rfl) (hdb : (nm == ("__debug__" : Str)) = false := by decide)
    (hpl : ((backTo q2 (starEach [] X.env)).any (·.1) || (backToKw q2 (keywordEach kws X.env)).any (·.1.isNone)) = false := by rfl) :
    EN X (.Call (.Name nm q1) [] kws q2) σ H φ := by
  obtain ⟨g, fd, F, hk, hb, hm⟩ := O.ex
  refine ⟨fun H1 e1 pins s I => wpAny_Call_Name_kw (ld_glob I hg hm (PySem.W.callWith_KW0 (h₀ := X.base) I.ok.mod.kin hk hall ?_ hpl) hdb)⟩
  refine thn (ha.run H1 e1 q2 pins s I) fun ws s2 ⟨zs', H2, I2, rz, e2, ez⟩ => ⟨I2.kIn, ?_⟩
  cases ez
  rw [hks]
  have hsp := h H2 (e1.trans e2) (fun v H3 => Ex H1 H3 ∧ φ v H3) (fun v H3 e3 q => ⟨e2.trans e3, q⟩)
  have hl : ws.length = qs.length := by rw [← rz.length]; exact hz
  refine wpAny_call (codeAny_mono (F.run X.A X.stack s2 H2 ⟨[], qs.zip ws⟩ (at_ ix ws) (at_ ix zs) _ _ hr I2.env0 (hb s2 ws hl) (Vals.at_ rz ix) hsp) fun r s' hq => ?_)
  match r, hq with
  | .error e, hq => exact False.elim (by obtain ⟨_, _, _, _, _, _, _, _, h⟩ := hq)
  | .ok (.ret u), hq => exact I2.after hq
  | .ok .next, hq => exact False.elim hq
  | .ok .brk, hq => exact False.elim hq
  | .ok .cont, hq => exact False.elim hq
end
end Y
set_option Elab.async false
set_option linter.all false
set_option maxRecDepth 100000
set_option maxHeartbeats 4000000
namespace Y
open PySem PySem.Spec PyProof.Rows L2 Evl
section
variable {X : Cx} {σ : L2.St} {H H' : Hp} {e : Expr} {pos pos' apos cpos px py pt p1 p2 spos : Pos} {D : Ends} {rest : List Stmt} {d : Addr} {kvs : List (Key × V)} {y : Str}
/-- y = [.. for k, v in e.items() if ..] on one line -/
theorem rx_setIt {elt tst : Expr} {xn yn : Str} {scope : Scope} {own : List (Str × Nat)} {kt : Nat} (i j1 j2 : Nat) (hc : X.calm = true) (hN : X.N.Nodup) (ok : BlkOk X.N X.env.scope scope own)
    (hd : H d = some (.dK kvs)) (he : ∀ od, EV X e σ (upd H d (.frz od (.dK kvs))) (.ref d)) (hz : kvs.length ≤ 100000)
    (hg : ∀ (s : Shared) (H : Hp) (C : Addr) (cl : List (Str × Addr)) (fp : List Addr), PG (X.blk s H scope (compEnvC scope cl C X.env) fp) (.Tuple [.Name xn px, .Name yn py] kt pt) (gTup X.K 2 (gCons (gName j1) (gCons (gName j2) gNil))))
    (hw : ∀ v v', wipe (((wipe σ (own.map (·.2))).set j1 (some v)).set j2 (some v')) (own.map (·.2)) = wipe σ (own.map (·.2)))
    (P : Nat → List V → Prop) (h0 : P 0 [])
    (hs : ∀ (od : Obj) (n : Nat) k v acc Hb (s : Shared) (H' : Hp) (C : Addr) (cl : List (Str × Addr)) (fp : List Addr), kvs[n]? = some (k, v) → Ex (upd H d (.frz od (.dK kvs))) Hb → P n acc →
      TD (X.blk s H' scope (compEnvC scope cl C X.env) fp) tst (((wipe σ (own.map (·.2))).set j1 (some (kV k))).set j2 (some v)) Hb fun b H3 => if b = true then
        ∀ (s : Shared) (H' : Hp) (C : Addr) (cl : List (Str × Addr)) (fp : List Addr), EN (X.blk s H' scope (compEnvC scope cl C X.env) fp) elt (((wipe σ (own.map (·.2))).set j1 (some (kV k))).set j2 (some v)) H3 fun v H2 => P (n + 1) (acc ++ [v]) else P (n + 1) acc)
    (k : ∀ (D' : Addr) (acc : List V) (H2 : Hp), Ex H H2 → H D' = none → H2 D' = some (.lst acc) → acc.length ≤ kvs.length → P kvs.length acc → RX X rest D (σ.set i (some (.ref D'))) H2)
    (hbase : attributeBase e "items" X.env (eval e X.env) = eval e X.env := by rfl) (hline : (apos.endLine == cpos.line) = true := by rfl)
    (hi : X.N[i]? = some y := by rfl) (hyl : X.env.scope.names.lookup y = some .local := by rfl)
    (hsw : swapsWith (.ListComp elt [⟨.Tuple [.Name xn px, .Name yn py] kt pt, .Call (.Attribute e "items" apos) [] [] cpos, [tst], 0⟩] scope pos) (some (.Name y p1)) spos.line X.env = pure true := by rfl) :
    RX X (.Assign [.Name y p1] (.ListComp elt [⟨.Tuple [.Name xn px, .Name yn py] kt pt, .Call (.Attribute e "items" apos) [] [] cpos, [tst], 0⟩] scope pos) spos :: rest) D σ H :=
  rx_of (ps_lock (ps_setLc hc hN hi hyl hsw (pi_items pe_sem hbase hline) ok hg (fun s H' C cl fp => pts_one (pt_blk s H' C cl fp)) (fun s H' C cl fp => pe_blk s H' C cl fp))) fun H1 e1 => ⟨d, _, e1 _ _ hd, trivial, fun od => EV.ev (he od) _ (ex_upd e1) _ fun H2 e2 => ⟨d, od, kvs, rfl, e2 _ _ upd_same, fun D' hD => by
    have e12 : Ex (upd H d (.frz od (.dK kvs))) H2 := (ex_upd e1).trans e2
    refine lc_it (walk_items (d := d) (o := od) (kvs := kvs)) (LcW H2 D' fun n acc _ => P n acc) ⟨[], Nat.le_refl _, hD, Ex.new hD, upd_same, h0⟩ (fun i H' _ p => let ⟨_, _, _, e, _, _⟩ := p; e _ _ (e2 _ _ upd_same)) ?_ ?_
    · rintro n v H' H'' hn ⟨acc, q1, q2, q3, q4, q5⟩ ⟨T, x, y, ev, hT, eh, fx, fy⟩
      cases ev
      cases eh
      obtain ⟨kv, hkv, rfl⟩ := Option.map_eq_some_iff.mp fx
      have fy : kvs[n]?.map Prod.snd = some y := fy
      rw [hkv] at fy
      cases Option.some.inj fy
      have nD : D' ≠ T := ne_of_none q4 hT
      refine ⟨T, [_, kv.2], rfl, .inl (.inl upd_same), rfl, _, [kv.2], rfl, kv.2, [], rfl, rfl, hw _ _, fun s H'' C cl fp => semT_mono (hs od n kv.1 kv.2 acc _ s H'' C cl fp hkv (e12.trans (q3.trans (Ex.new hT))) q5 _ (Ex.refl _)) fun b H3 ⟨e3, q6⟩ => ?_⟩
      cases b with
      | true =>
        rw [if_pos rfl] at q6 ⊢
        exact fun s H'' C cl fp => sem_mono (q6 s H'' C cl fp H3 (Ex.refl H3)) fun v H4 ⟨e4, q7⟩ =>
          LcW.push (fun _ _ _ _ _ z => z) q1 q2 (((q3.trans (Ex.new hT)).trans e3).trans e4) ((e3.trans e4) D' _ (by rw [upd_ne nD]; exact q4)) (by omega) q7
      | false =>
        rw [if_neg Bool.false_ne_true] at q6 ⊢
        exact ⟨acc, Nat.le_succ_of_le q1, q2, (q3.trans (Ex.new hT)).trans e3, e3 D' _ (by rw [upd_ne nD]; exact q4), q6⟩
    · rintro H' ⟨acc, q1, q2, q3, q4, q5⟩
      have hfz : H' d = some (.frz od (.dK kvs)) := q3 _ _ (e2 _ _ upd_same)
      have nD : D' ≠ d := fun z => by rw [z, e2 _ _ upd_same] at q2; cases q2
      refine ⟨hfz, k D' acc _ (fun a o h => ?_) ?_ ?_ q1 q5 _ (Ex.refl _)⟩
      · by_cases z : a = d
        · subst z
          rw [upd_same]
          rw [hd] at h
          exact h
        · rw [upd_ne z]
          exact q3 _ _ (e2 _ _ (by rw [upd_ne z]; exact e1 _ _ h))
      · have : upd H1 d (.frz od (.dK kvs)) D' = none := fresh_back e2 q2
        rw [upd_ne nD] at this
        exact fresh_back e1 this
      · rw [upd_ne nD]; exact q4⟩⟩
end
end Y
set_option Elab.async false
set_option linter.all false
set_option maxRecDepth 100000
set_option maxHeartbeats 4000000
namespace E5
open PySem PySem.Spec PyProof.Rows L2 Evl Y
abbrev sRecordAt : Stmt := topS 23
abbrev sKeptIn : Stmt := topS 24
abbrev sKeptAt : Stmt := topS 25
abbrev sOpenIn : Stmt := topS 26
abbrev sOpenAt : Stmt := topS 27
theorem scRecordAt : FnScope ["table", "history", "p"] ["table", "history", "p"] (defScope sRecordAt) := ⟨rfl, rfl, rfl, by decide +kernel, rfl, by decide +kernel, by decide +kernel⟩
theorem scKeptIn : FnScope ["record", "t", "end"] ["record"] (defScope sKeptIn) := ⟨rfl, rfl, rfl, by decide +kernel, rfl, by decide +kernel, by decide +kernel⟩
theorem scKeptAt : FnScope ["table", "history", "p"] ["table", "history", "p"] (defScope sKeptAt) := ⟨rfl, rfl, rfl, by decide +kernel, rfl, by decide +kernel, by decide +kernel⟩
theorem scOpenIn : FnScope ["record", "left", "i", "t"] ["record"] (defScope sOpenIn) := ⟨rfl, rfl, rfl, by decide +kernel, rfl, by decide +kernel, by decide +kernel⟩
theorem scOpenAt : FnScope ["table", "history", "p"] ["table", "history", "p"] (defScope sOpenAt) := ⟨rfl, rfl, rfl, by decide +kernel, rfl, by decide +kernel, by decide +kernel⟩
section
variable {P : Program} {w : World} {K : PySem.W.Frag} {mg : Str → Option Value} {base : Heap} {C : Addr}
def spRecordAt (C : Addr) : Sp := fun vs H Q _ => ∃ (tv hv : Addr) (p : Nat) (ks : List Str) (evs : List Ev), vs = [.ref tv, .ref hv, .int (p : Int)] ∧ THAt H tv hv ks evs ∧ p ≤ evs.length ∧
  ∀ (r kv : Addr) (F : Addr → Prop) (H' : Hp), Ex H H' → RecAt C F H' r kv (run (evs.take p)) → Q (.ref r) H'
theorem own_recordat (D : Def K mg "record_at" sRecordAt) (B : Blt mg) (ON : Own P w K mg base "is_natural" ["thing"] 2 spIsNat) (OC : Own P w K mg base "checked_record" ["table", "history"] 5 (spChecked C)) (OR : Own P w K mg base "record_of" ["kinds", "thing"] 4 (spRecordOf C)) : Own P w K mg base "record_at" ["table", "history", "p"] 6 (spRecordAt C) := by
  refine D.own scRecordAt (fun vs H Q E h => ?_) (fun _ _ _ _ _ _ us hl => match us, hl with | [_, _, _], _ => rfl) ?_
  · obtain ⟨tv, hv, p, ks, evs, rfl, _⟩ := h
    rfl
  · rintro X H vs Q E ⟨f, cdv, A, outer, st, rfl⟩ hr h
    obtain ⟨tv, hv, p, ks, evs, rfl, th, hp, q⟩ := h
    obtain ⟨⟨pairs, ⟨k, c, as', h1, h2, h3, h4⟩, ok⟩, ⟨as, ha, hall⟩, hV, hz⟩ := id th
    refine rx_exprM (EM.en (en_own (φ := fun _ _ => True) OC hr (by rfl) (AV.cons (ev_nm 0) (AV.cons (ev_nm 1) AV.nil)) fun H1 e1 Q' kk => ⟨tv, hv, ks, evs, rfl, th.tx e1.tx, fun r kv H2 e2 _ _ => kk _ _ e2 trivial⟩) fun _ H2 e2 _ => ?_)
    refine rx_when (bb := false) (TN.is (tn_or (tn_not (tn_v (bb := true) (en_own ON (hr.mono (by decide)) (by rfl) (AV.cons (ev_nm 2) AV.nil) fun H1 _ Q k => ⟨p, rfl, fun H2 e2 => k _ _ e2 (by rw [decide_eq_true (by omega)])⟩))) fun _ => tn_gt (ev_nm 2) (ev_len (by rfl) B.len (ev_nm 1) (.inr (st_of (e2 _ _ ha))))) (by rw [hall.len, decide_eq_false (by omega)]; rfl)) (fun z => by cases z) fun _ => ?_
    refine rx_retM (EM.en (en_ownA (Φ := fun us H3 => ∃ r, us = [.ref k, .ref r] ∧ H3 r = some (.tup (as.take p)) ∧ Ex H2 H3) (φ := fun v H3 => ∃ r kv F, v = .ref r ∧ RecAt C F H3 r kv (run (evs.take p))) OR (hr.mono (by decide)) (by rfl) (AN.cons (ev_ixT (ev_nm 0) ev_i (st_of (e2 _ _ h1)) (by rfl)) fun v H3 e3 ev => AN.cons (en_slTt (lv := none) (hv := some (p : Int)) (ev_nm 1) (e3 _ _ (e2 _ _ ha)) ov_n (ov_s (ev_nm 2))) fun v' H4 e4 ⟨r, ev', hr'⟩ => AN.nil fun H5 e5 => ⟨r, by rw [ev, ev'], by rw [cutV_take] at hr'; exact e5 _ _ hr', (e3.trans e4).trans e5⟩)
      fun us H3 e3 ⟨r, eu, hr', e23⟩ Q' kk => ⟨k, r, ks, evs.take p, eu, (e2.trans e3) _ _ h2, ⟨as.take p, hr', (hall.take p).imp fun _ _ => EvAt.tx (e2.trans e3).tx⟩, hV.take p, by rw [List.length_take]; omega, fun r H4 e4 hR => kk _ _ e4 ⟨r, k, _, rfl, hR⟩⟩) fun v H3 e3 ⟨r, kv, F, ev, hR⟩ H4 e4 => ?_)
    subst ev
    exact q r kv F H4 ((e2.trans e3).trans e4) (hR.mono e4)
/-- the kept ones in the order of their ends -/
def keptL (s : S) : List Int := (s.fs.filter (·.2)).map (·.1)
def spKeptIn (C : Addr) : Sp := fun vs H Q _ => ∃ (r kv : Addr) (F : Addr → Prop) (s : S), vs = [.ref r] ∧ RecAt C F H r kv s ∧ s.n < 1000 ∧ ∀ (q : Addr) (H' : Hp), Ex H H' → H' q = some (.tup ((keptL s).map V.int)) → Q (.ref q) H'
theorem own_keptin (D : Def K mg "kept_in" sKeptIn) (T : RecT K C) (B : Blt mg) : Own P w K mg base "kept_in" ["record"] 1 (spKeptIn C) := by
  refine D.own scKeptIn (fun vs H Q E h => ?_) (fun _ _ _ _ _ _ us hl => match us, hl with | [_], _ => rfl) ?_
  · obtain ⟨r, kv, F, s, rfl, _⟩ := h
    rfl
  · rintro X H vs Q E ⟨f, cdv, A, outer, st, rfl⟩ hr h
    obtain ⟨r, kv, F, s, rfl, ⟨dx, dw, ds, de, dt, ls, hR, fR, hP⟩, hn, q⟩ := h
    have nd := scKeptIn.nd
    have hde := hP.he2
    have nre : r ≠ de := ne_of hR hde (fun z => nomatch z)
    obtain ⟨ek, hek, _, zek⟩ := hP.he
    have hz : (s.fs.map fun p => ((Sum.inl p.1 : Key), endV p.2)).length ≤ 100000 := by
      rw [hek] at hde
      rw [← HO.dK.inj (Option.some.inj hde)]
      omega
    refine rx_retM (EM.en (en_tupleN (α := fun xs _ => xs = (keptL s).map V.int) (by rfl) B.tuple (EN.weak (en_lcIt (own := [("t", 1), ("end", 2)]) 1 2 rfl nd (blkOk_by (N := ["record", "t", "end"]) (sc := defScope sKeptIn) (by decide +kernel)) hde (fun od => ev_fld (ev_nm 0) (by rw [upd_ne nre]; exact hR) T.cl T.nE rF_ends) hz
      (fun _ _ _ _ _ => pg_tup rfl (pgs_cons (pg_name (i := 1) nd rfl (Or.inl rfl)) (pgs_cons (pg_name (i := 2) nd rfl (Or.inl rfl)) pgs_nil))) (fun v v' => rfl) (fun n acc => acc = (((s.fs.take n).filter (·.2)).map (·.1)).map V.int) rfl ?_) ?_)) fun v H2 e2 ⟨q2, xs, H3, ev, hq2, ex, _⟩ H4 e4 => ?_)
    · intro n k v acc Hb st' H' C' cl fp hkv ea
      rw [List.getElem?_map] at hkv
      obtain ⟨⟨t, b⟩, htb, e⟩ := Option.map_eq_some_iff.mp hkv
      cases e
      refine td_of (TN.is (tn_eq (v := endV b) (ev_nm 2) ev_s (by rfl)) (b' := b) (by cases b <;> decide +kernel)) fun H5 e5 => ?_
      rw [take_more htb, List.filter_append]
      cases b with
      | true =>
        refine iteT fun _ _ _ _ _ => EN.weak (ev_nm 1) fun v H6 _ ev => ?_
        rw [ev, ea]
        simp
        rfl
      | false =>
        refine iteF ?_
        rw [ea]
        simp
    · rintro v H2 e2 ⟨D', acc, ev, _, hD, _, ea⟩
      refine ⟨D', acc, ev, hD, ?_⟩
      rw [ea, List.length_map, List.take_length]; rfl
    · subst ev ex
      exact q q2 H4 (e2.trans e4) (e4 _ _ hq2)
def spKeptAt : Sp := fun vs H Q _ => ∃ (tv hv : Addr) (p : Nat) (ks : List Str) (evs : List Ev), vs = [.ref tv, .ref hv, .int (p : Int)] ∧ THAt H tv hv ks evs ∧ p ≤ evs.length ∧
  ∀ (r : Addr) (H' : Hp), Ex H H' → H' r = some (.tup ((keptL (run (evs.take p))).map V.int)) → Q (.ref r) H'
theorem ok_keptat {f : Addr} {fd : FuncData} (D : Fun K "kept_at" "kept_at" sKeptAt f fd) (OI : Own P w K mg base "kept_in" ["record"] 1 (spKeptIn C)) (OR : Own P w K mg base "record_at" ["table", "history", "p"] 6 (spRecordAt C)) : FnOk P w K mg base CX0 7 f fd ["table", "history", "p"] spKeptAt := by
  refine (fun_own (sp := spKeptAt) (ps := ["table", "history", "p"]) (k := 6) D scKeptAt (fun vs H Q E h => ?_) (fun _ _ _ _ _ _ us hl => match us, hl with | [_, _, _], _ => rfl) ?_).1
  · obtain ⟨tv, hv, p, ks, evs, rfl, _⟩ := h
    rfl
  · rintro X H vs Q E ⟨f, cdv, A, outer, st, rfl⟩ hr h
    obtain ⟨tv, hv, p, ks, evs, rfl, th, hp, q⟩ := h
    have hn : (run (evs.take p)).n = p := by rw [run_n, List.length_take]; omega
    have := th.2.2.2
    refine rx_retM (EM.en (en_ownA (Φ := fun us H1 => ∃ r kv F, us = [.ref r] ∧ RecAt C F H1 r kv (run (evs.take p))) (φ := fun v H1 => ∃ r, v = .ref r ∧ H1 r = some (.tup ((keptL (run (evs.take p))).map V.int))) OI (hr.mono (by decide)) (by rfl)
      (AN.cons (en_own (φ := fun v H1 => ∃ r kv F, v = .ref r ∧ RecAt C F H1 r kv (run (evs.take p))) OR hr (by rfl) (AV.cons (ev_nm 0) (AV.cons (ev_nm 1) (AV.cons (ev_nm 2) AV.nil))) fun H1 e1 Q' k => ⟨tv, hv, p, ks, evs, rfl, th.tx e1.tx, hp, fun r kv F H2 e2 hR => k _ _ e2 ⟨r, kv, F, rfl, hR⟩⟩) fun v H1 e1 ⟨r, kv, F, ev, hR⟩ => AN.nil fun H2 e2 => ⟨r, kv, F, by rw [ev], hR.mono e2⟩)
      fun us H1 e1 ⟨r, kv, F, eu, hR⟩ Q' kk => ⟨r, kv, F, _, eu, hR, by omega, fun q0 H2 e2 hq => kk _ _ e2 ⟨q0, rfl, hq⟩⟩) fun v H1 e1 ⟨r, ev, hr'⟩ H2 e2 => ?_)
    subst ev
    exact q r H2 (e1.trans e2) (e2 _ _ hr')
/-- what a restart takes back, from the last to the first -/
def opn (s : S) (p : Int × Int) : Bool := !decide (p.1 ∈ s.taken p.2) && !decide (s.ends p.2 = some true)
def openL (s : S) : List Int := ((s.os.filter (opn s)).map (·.1)).reverse
theorem openL_len {s : S} (g : Good s) : (openL s).length ≤ s.n := by
  have h := owL_len g
  rw [owL, List.length_map] at h
  unfold openL
  rw [List.length_reverse, List.length_map]
  exact Nat.le_trans (List.length_filter_le _ _) h
theorem openL_of {s : S} (g : Good s) {ns : List Int} (h : ns.Perm ((s.os.filter (opn s)).map (·.1))) (hs : ns.Pairwise (· ≥ ·)) : ns = openL s := by
  have h1 : (openL s).Pairwise (· ≥ ·) := by
    unfold openL
    rw [List.pairwise_reverse, List.pairwise_map]
    exact (g.osp.sublist List.filter_sublist).imp fun h => Int.le_of_lt h
  exact List.Perm.eq_of_pairwise (fun a b _ _ x y => Int.le_antisymm y x) hs h1 (h.trans (List.reverse_perm _).symm)
def spOpenIn (C : Addr) : Sp := fun vs H Q _ => ∃ (r kv : Addr) (F : Addr → Prop) (s : S), vs = [.ref r] ∧ RecAt C F H r kv s ∧ Good s ∧ s.n < 1000 ∧ ∀ (q : Addr) (H' : Hp), Ex H H' → H' q = some (.tup ((openL s).map V.int)) → Q (.ref q) H'
theorem own_openin (D : Def K mg "open_in" sOpenIn) (T : RecT K C) (B : Blt mg) (ms : mg "sorted" = none) : Own P w K mg base "open_in" ["record"] 1 (spOpenIn C) := by
  refine D.own scOpenIn (fun vs H Q E h => ?_) (fun _ _ _ _ _ _ us hl => match us, hl with | [_], _ => rfl) ?_
  · obtain ⟨r, kv, F, s, rfl, _⟩ := h
    rfl
  · rintro X H vs Q E ⟨f, cdv, A, outer, st, rfl⟩ hr h
    obtain ⟨r, kv, F, s, rfl, ⟨dx, dw, ds, de, dt, ls, hR, fR, hP⟩, g, hn, q⟩ := h
    have nd := scOpenIn.nd
    have hu := hu_of hr
    have hw := hP.ho
    have nrw : r ≠ dw := ne_of hR hw (fun z => nomatch z)
    obtain ⟨ek, hek, vek, _⟩ := hP.he
    obtain ⟨tk, htk, vtk, vtn, _⟩ := hP.ht
    refine rx_setIt (own := [("i", 2), ("t", 3)]) 1 2 3 rfl nd (blkOk_by (N := ["record", "left", "i", "t"]) (sc := defScope sOpenIn) (by decide +kernel)) hw (fun od => ev_fld (ev_nm 0) (by rw [upd_ne nrw]; exact hR) T.cl T.nO rF_owners) (by have := owL_len g; omega)
      (fun _ _ _ _ _ => pg_tup rfl (pgs_cons (pg_name (i := 2) nd rfl (Or.inl rfl)) (pgs_cons (pg_name (i := 3) nd rfl (Or.inl rfl)) pgs_nil))) (fun v v' => rfl) (fun n acc => acc = (((s.os.take n).filter (opn s)).map (·.1)).map V.int) rfl ?_ ?_
    · intro od n k v acc Hb st' H' C' cl fp hkv eb ea
      rw [owL, List.getElem?_map] at hkv
      obtain ⟨⟨i, t⟩, hit, e⟩ := Option.map_eq_some_iff.mp hkv
      cases e
      have hmem : i ∈ s.steps t := (g.own i t).mp (List.mem_of_getElem? hit)
      have hRb : Hb r = some (.ins C dx (rF kv s.n dw ds de dt)) := eb _ _ (by rw [upd_ne nrw]; exact hR)
      have htb : Hb dt = some (.dK tk) := eb _ _ (by rw [upd_ne (Ne.symm hP.nw.2.2)]; exact htk)
      have heb : Hb de = some (.dK ek) := eb _ _ (by rw [upd_ne (Ne.symm hP.nw.2.1)]; exact hek)
      have htn' : (valV tk (Sum.inl i)).isSome = decide (i ∈ s.taken t) := by
        by_cases hj : i ∈ s.taken t
        · obtain ⟨x, hx⟩ := vtk i t hj
          rw [hx, decide_eq_true hj]; rfl
        · rw [vtn i fun u hu => hj (by rw [g.inj t u i hmem (g.sub u i hu)]; exact hu), decide_eq_false hj]; rfl
      have hen : (!decide (((valV ek (Sum.inl t)).getD .non) = V.str "keep")) = !decide (s.ends t = some true) := by
        rw [vek]
        cases s.ends t with
        | none => rfl
        | some b => cases b <;> decide +kernel
      refine td_of (TN.is (tn_and (tn_dnotin (ky := Sum.inl i) (by exact hu) (ev_nm 2) (ev_fld (ev_nm 0) hRb T.cl T.nT rF_taken) htb) fun _ => tn_ne (ev_get1 (ky := Sum.inl t) (by exact hu) (ev_fld (ev_nm 0) hRb T.cl T.nE rF_ends) (ev_nm 3) heb) ev_s (by rw [vek]; cases s.ends t <;> rfl)) (b' := opn s (i, t)) (by rw [htn', hen]; rfl)) fun H5 e5 => ?_
      rw [take_more hit, List.filter_append]
      cases ho : opn s (i, t) with
      | true =>
        refine iteT fun _ _ _ _ _ => EN.weak (ev_nm 2) fun v H6 _ ev => ?_
        rw [ev, ea]
        simp [ho]
        rfl
      | false =>
        refine iteF ?_
        rw [ea]
        simp [ho]
    · intro D' acc H2 e2 nD hD hl ea
      rw [owL, List.length_map, List.take_length] at ea
      refine rx_retM (EM.en (en_tupleN (α := fun zs _ => ∃ ns' : List Int, zs = ns'.map V.int ∧ ns'.Perm ((s.os.filter (opn s)).map (·.1)) ∧ ns'.Pairwise (· ≥ ·)) (by rfl) B.tuple (en_sortedRev (by rfl) ms (ev_nm 1) (sq_of (by rw [hD, ea])))) fun v H3 e3 ⟨q2, xs, H4, ev, hq2, ⟨ns', ex, hperm, hpw⟩, _⟩ H5 e5 => ?_)
      subst ev ex
      rw [openL_of g hperm hpw] at hq2
      exact q q2 H5 ((e2.trans e3).trans e5) (e5 _ _ hq2)
def spOpenAt : Sp := fun vs H Q _ => ∃ (tv hv : Addr) (p : Nat) (ks : List Str) (evs : List Ev), vs = [.ref tv, .ref hv, .int (p : Int)] ∧ THAt H tv hv ks evs ∧ p ≤ evs.length ∧
  ∀ (r : Addr) (H' : Hp), Ex H H' → H' r = some (.tup ((openL (run (evs.take p))).map V.int)) → Q (.ref r) H'
theorem ok_openat {f : Addr} {fd : FuncData} (D : Fun K "open_at" "open_at" sOpenAt f fd) (OI : Own P w K mg base "open_in" ["record"] 1 (spOpenIn C)) (OR : Own P w K mg base "record_at" ["table", "history", "p"] 6 (spRecordAt C)) : FnOk P w K mg base CX0 7 f fd ["table", "history", "p"] spOpenAt := by
  refine (fun_own (sp := spOpenAt) (ps := ["table", "history", "p"]) (k := 6) D scOpenAt (fun vs H Q E h => ?_) (fun _ _ _ _ _ _ us hl => match us, hl with | [_, _, _], _ => rfl) ?_).1
  · obtain ⟨tv, hv, p, ks, evs, rfl, _⟩ := h
    rfl
  · rintro X H vs Q E ⟨f, cdv, A, outer, st, rfl⟩ hr h
    obtain ⟨tv, hv, p, ks, evs, rfl, th, hp, q⟩ := h
    have hn : (run (evs.take p)).n = p := by rw [run_n, List.length_take]; omega
    have := th.2.2.2
    refine rx_retM (EM.en (en_ownA (Φ := fun us H1 => ∃ r kv F, us = [.ref r] ∧ RecAt C F H1 r kv (run (evs.take p))) (φ := fun v H1 => ∃ r, v = .ref r ∧ H1 r = some (.tup ((openL (run (evs.take p))).map V.int))) OI (hr.mono (by decide)) (by rfl)
      (AN.cons (en_own (φ := fun v H1 => ∃ r kv F, v = .ref r ∧ RecAt C F H1 r kv (run (evs.take p))) OR hr (by rfl) (AV.cons (ev_nm 0) (AV.cons (ev_nm 1) (AV.cons (ev_nm 2) AV.nil))) fun H1 e1 Q' k => ⟨tv, hv, p, ks, evs, rfl, th.tx e1.tx, hp, fun r kv F H2 e2 hR => k _ _ e2 ⟨r, kv, F, rfl, hR⟩⟩) fun v H1 e1 ⟨r, kv, F, ev, hR⟩ => AN.nil fun H2 e2 => ⟨r, kv, F, by rw [ev], hR.mono e2⟩)
      fun us H1 e1 ⟨r, kv, F, eu, hR⟩ Q' kk => ⟨r, kv, F, _, eu, hR, (th.2.2.1.take p).good, by omega, fun q0 H2 e2 hq => kk _ _ e2 ⟨q0, rfl, hq⟩⟩) fun v H1 e1 ⟨r, ev, hr'⟩ H2 e2 => ?_)
    subst ev
    exact q r H2 (e1.trans e2) (e2 _ _ hr')
end
end E5
set_option Elab.async false
set_option linter.all false
set_option maxRecDepth 100000
set_option maxHeartbeats 4000000
namespace E5
open PySem PySem.Spec PyProof.Rows L2 Evl Y
abbrev sWordAt : Stmt := topS 29
abbrev sLetters : Stmt := topS 30
theorem scLetters : FnScope ["events", "letters", "i", "event"] ["events"] (defScope sLetters) := ⟨rfl, rfl, rfl, by decide +kernel, rfl, by decide +kernel, by decide +kernel⟩
abbrev sWordIn : Stmt := topS 28
theorem scWordIn : FnScope ["record", "events", "i"] ["record", "events"] (defScope sWordIn) := ⟨rfl, rfl, rfl, by decide +kernel, rfl, by decide +kernel, by decide +kernel⟩
theorem scWordAt : FnScope ["table", "history", "p"] ["table", "history", "p"] (defScope sWordAt) := ⟨rfl, rfl, rfl, by decide +kernel, rfl, by decide +kernel, by decide +kernel⟩
def let1 (n : Nat) : Ev → List (Int × Int)
  | .doo _ _ => [((n : Int), 1)]
  | .back _ i => [(i, -1)]
  | .fin _ _ => []
def letF : Nat → List Ev → List (Int × Int)
  | _, [] => []
  | n, e :: r => let1 n e ++ letF (n + 1) r
theorem letF_snoc (e : Ev) : ∀ (l : List Ev) (n : Nat), letF n (l ++ [e]) = letF n l ++ let1 (n + l.length) e
  | [], n => by simp [letF]
  | x :: r, n => by
    rw [List.cons_append, letF, letF, letF_snoc e r (n + 1), List.append_assoc, List.length_cons, Nat.add_right_comm, Nat.add_assoc]
theorem letF_more {l : List Ev} {n : Nat} {e : Ev} (h : l[n]? = some e) : letF 0 (l.take (n + 1)) = letF 0 (l.take n) ++ let1 n e := by
  rw [take_more h, letF_snoc, Nat.zero_add, List.length_take, Nat.min_eq_left (Nat.le_of_lt (List.getElem?_eq_some_iff.mp h).1)]
theorem letF_len : ∀ (l : List Ev) (n : Nat), (letF n l).length ≤ l.length
  | [], _ => Nat.le_refl _
  | e :: r, n => by
    have := letF_len r (n + 1)
    rw [letF, List.length_append, List.length_cons]
    have : (let1 n e).length ≤ 1 := by
      cases e with
      | doo t k => exact Nat.le_refl 1
      | back t i => exact Nat.le_refl 1
      | fin t b => exact Nat.zero_le 1
    omega
def PairI (H : Hp) (v : V) (q : Int × Int) : Prop := ∃ a, v = .ref a ∧ H a = some (.tup [.int q.1, .int q.2])
theorem PairI.tx {H H' : Hp} (e : Tx H H') {v : V} {q : Int × Int} (h : PairI H v q) : PairI H' v q := let ⟨a, x, y⟩ := h; ⟨a, x, e _ _ y⟩
section
variable {P : Program} {w : World} {K : PySem.W.Frag} {mg : Str → Option Value} {base : Heap} {C : Addr}
def spLetters : Sp := fun vs H Q _ => ∃ (hv : Addr) (evs : List Ev), vs = [.ref hv] ∧ HistAt H hv evs ∧ evs.length < 1000 ∧ ∀ (r : Addr) (as : List V) (H' : Hp), Ex H H' → H' r = some (.lst as) → All2 (PairI H') as (letF 0 evs) → Q (.ref r) H'
theorem own_letters (D : Def K mg "letters_of" sLetters) (me : mg "enumerate" = none) : Own P w K mg base "letters_of" ["events"] 1 spLetters := by
  refine D.own scLetters (fun vs H Q E h => ?_) (fun _ _ _ _ _ _ us hl => match us, hl with | [_], _ => rfl) ?_
  · obtain ⟨hv, evs, rfl, _⟩ := h
    rfl
  · rintro X H vs Q E ⟨f, cdv, A, outer, st, rfl⟩ hr h
    obtain ⟨hv, evs, rfl, ⟨as, ha, hall⟩, hz, q⟩ := h
    have nd := scLetters.nd
    refine rx_setM 1 (em_lstV AV.nil (Nat.zero_le _) fun lf nlf => ?_) nd
    have eN := Ex.new (o := .lst []) nlf
    refine rx_forET (xs := as) 2 3 PassesOwn.never rfl (by rfl) me (ev_nm 0) (st_of (eN _ _ ha)) (fun n σ' Hb => ∃ (ls : List V) (x2 x3 : Option V), σ' = [some (.ref hv), some (.ref lf), x2, x3] ∧ Ex H Hb ∧ Hb lf = some (.lst ls) ∧ All2 (PairI Hb) ls (letF 0 (evs.take n))) ⟨[], none, none, rfl, eN, upd_same, True.intro⟩ (fun n σ' Hb _ ⟨_, _, _, _, e, _⟩ => st_of (e _ _ ha)) ?_ ?_ nd
    · rintro n x σ' Hb hx ⟨ls, x2, x3, rfl, eb, hlf, hls⟩
      obtain ⟨e, he, p, evp, hp⟩ := hall.at hx
      subst evp
      have hp' := eb _ _ hp
      have hll : ls.length ≤ n := by
        rw [hls.len]
        exact Nat.le_trans (letF_len _ _) (by rw [List.length_take]; omega)
      have hn : n < evs.length := (List.getElem?_eq_some_iff.mp he).1
      have step : ∀ (u v : Int) (H2 : Hp) (q2 : Addr), Ex Hb H2 → H2 q2 = some (.tup [.int u, .int v]) → let1 n e = [(u, v)] → All2 (PairI (upd H2 lf (.lst (ls ++ [.ref q2])))) (ls ++ [.ref q2]) (letF 0 (evs.take (n + 1))) := fun u v H2 q2 e2 hq2 hl1 => by
        rw [letF_more he, hl1]
        have tx := Tx.of_lst (o := .lst (ls ++ [.ref q2])) (e2 _ _ hlf)
        exact (hls.imp fun _ _ => PairI.tx (e2.tx.trans tx)).app (All2.one ⟨q2, rfl, tx _ _ hq2⟩)
      cases e with
      | doo t k =>
        refine rx_if (bb := true) (TN.is (tn_eq (ev_ixT (ev_nm 3) ev_i (st_of hp') (by rfl)) ev_s (by rfl)) (by decide +kernel)) (fun _ => ?_) fun z => by cases z
        refine rx_exprM (em_append (ev_nm 1) (EM.en (en_tupV (vs := [.int (n : Int), .int 1]) (AV.cons (ev_nm 2) (AV.cons ev_i AV.nil)) (by show 2 ≤ 100000; decide)) fun v H2 e2 ⟨q2, ev, _, hq2⟩ => ⟨ls, e2 _ _ hlf, by omega, rx_out rfl (rx_up rfl ⟨ls ++ [v], _, _, rfl, Ex.mut (eb.trans e2) nlf, upd_same, by subst ev; exact step _ _ H2 q2 e2 hq2 rfl⟩)⟩) hlf)
      | back t i =>
        refine rx_if (bb := false) (TN.is (tn_eq (ev_ixT (ev_nm 3) ev_i (st_of hp') (by rfl)) ev_s (by rfl)) (by decide +kernel)) (fun z => by cases z) fun _ => ?_
        refine rx_if (bb := true) (TN.is (tn_eq (ev_ixT (ev_nm 3) ev_i (st_of hp') (by rfl)) ev_s (by rfl)) (by decide +kernel)) (fun _ => ?_) fun z => by cases z
        refine rx_exprM (em_append (ev_nm 1) (EM.en (en_tupV (vs := [.int i, .int (-1)]) (AV.cons (ev_ixT (ev_nm 3) ev_i (st_of hp') (by rfl)) (AV.cons (ev_neg ev_i) AV.nil)) (by show 2 ≤ 100000; decide)) fun v H2 e2 ⟨q2, ev, _, hq2⟩ => ⟨ls, e2 _ _ hlf, by omega, rx_out rfl (rx_out rfl (rx_up rfl ⟨ls ++ [v], _, _, rfl, Ex.mut (eb.trans e2) nlf, upd_same, by subst ev; exact step _ _ H2 q2 e2 hq2 rfl⟩))⟩) hlf)
      | fin t b =>
        refine rx_if (bb := false) (TN.is (tn_eq (ev_ixT (ev_nm 3) ev_i (st_of hp') (by rfl)) ev_s (by rfl)) (by cases b <;> decide +kernel)) (fun z => by cases z) fun _ => ?_
        refine rx_if (bb := false) (TN.is (tn_eq (ev_ixT (ev_nm 3) ev_i (st_of hp') (by rfl)) ev_s (by rfl)) (by cases b <;> decide +kernel)) (fun z => by cases z) fun _ => ?_
        exact rx_out rfl (rx_out rfl (rx_up rfl ⟨ls, _, _, rfl, eb, hlf, by rw [letF_more he]; show All2 _ _ (_ ++ []); rw [List.append_nil]; exact hls⟩))
    · rintro σ' Hb ⟨ls, x2, x3, rfl, eb, hlf, hls⟩
      rw [hall.len, List.take_length] at hls
      exact rx_ret (ev_nm 1) fun H1 e1 => q lf ls H1 (eb.trans e1) (e1 _ _ hlf) (hls.imp fun _ _ => PairI.tx e1.tx)
end
end E5
set_option Elab.async false
set_option linter.all false
set_option maxRecDepth 100000
set_option maxHeartbeats 4000000
namespace E5
open PySem PySem.Spec PyProof.Rows L2 Evl Y
def bk (i : Int) : Int × Int := (i, -1)
def wordL (evs : List Ev) : List (Int × Int) := letF 0 evs ++ (openL (run evs)).map bk
section
variable {P : Program} {w : World} {K : PySem.W.Frag} {mg : Str → Option Value} {base : Heap} {C : Addr}
def spWordIn (C : Addr) : Sp := fun vs H Q _ => ∃ (r kv hv : Addr) (F : Addr → Prop) (evs : List Ev), vs = [.ref r, .ref hv] ∧ RecAt C F H r kv (run evs) ∧ Good (run evs) ∧ evs.length < 1000 ∧ HistAt H hv evs ∧
  ∀ (q : Addr) (as : List V) (H' : Hp), Ex H H' → H' q = some (.tup as) → All2 (PairI H') as (wordL evs) → Q (.ref q) H'
theorem own_wordin (D : Def K mg "word_in" sWordIn) (B : Blt mg) (OL : Own P w K mg base "letters_of" ["events"] 1 spLetters) (OO : Own P w K mg base "open_in" ["record"] 1 (spOpenIn C)) : Own P w K mg base "word_in" ["record", "events"] 3 (spWordIn C) := by
  refine D.own scWordIn (fun vs H Q E h => ?_) (fun _ _ _ _ _ _ us hl => match us, hl with | [_, _], _ => rfl) ?_
  · obtain ⟨r, kv, hv, F, evs, rfl, _⟩ := h
    rfl
  · rintro X H vs Q E ⟨f, cdv, A, outer, st, rfl⟩ hr h
    obtain ⟨r, kv, hv, F, evs, rfl, hR, g, hn, hh, q⟩ := h
    have nd := scWordIn.nd
    have hr1 : Room 1 _ := hr.mono (by decide)
    have hz : (run evs).n = evs.length := run_n evs
    have hol : (openL (run evs)).length < 1000 := Nat.lt_of_le_of_lt (openL_len g) (by omega)
    refine rx_retM (EM.en (en_tupleN (α := fun as H2 => All2 (PairI H2) as (wordL evs)) (by rfl) B.tuple (en_cat (α := fun as H2 => All2 (PairI H2) as (letF 0 evs)) (β := fun as H2 => All2 (PairI H2) as ((openL (run evs)).map bk))
      (en_own OL hr1 (by rfl) (AV.cons (ev_nm 1) AV.nil) fun H1 e1 Q' k => ⟨hv, evs, rfl, ⟨hh.choose, e1 _ _ hh.choose_spec.1, hh.choose_spec.2.imp fun _ _ => EvAt.tx e1.tx⟩, hn, fun p as H2 e2 hp ha => k _ _ e2 ⟨p, as, rfl, hp, ha⟩⟩)
      (EN.weak (en_lcTN (own := [("i", 2)]) (xs := (openL (run evs)).map V.int) 2 rfl nd (blkOk_by (N := ["record", "events", "i"]) (sc := defScope sWordIn) (by decide +kernel)) (en_own OO hr1 (by rfl) (AV.cons (ev_nm 0) AV.nil) fun H1 e1 Q' k => ⟨r, kv, F, run evs, rfl, hR.mono e1, g, by omega, fun p H2 e2 hp => k _ _ e2 ⟨p, rfl, st_of hp⟩⟩) (by rw [List.length_map]; omega)
        (fun _ _ _ _ _ => pg_name (i := 2) nd rfl (Or.inl rfl)) (fun v => rfl) (fun n acc H2 => All2 (PairI H2) acc (((openL (run evs)).take n).map bk)) (fun _ _ _ _ tx h => h.imp fun _ _ => PairI.tx tx) True.intro ?_) ?_) ?_)) fun v H1 e1 ⟨q2, as, H2, ev, hq2, ha, e2⟩ H3 e3 => ?_)
    · intro n x acc Hb st' H' C' cl fp hx eb ea
      rw [List.getElem?_map] at hx
      obtain ⟨i, hi, rfl⟩ := Option.map_eq_some_iff.mp hx
      refine EN.weak (en_tupV (vs := [.int i, .int (-1)]) (AV.cons (ev_nm 2) (AV.cons (ev_neg ev_i) AV.nil)) (by show 2 ≤ 100000; decide)) fun v H2 e2 ⟨q2, ev, _, hq2⟩ => ?_
      rw [take_more hi, List.map_append]
      exact (ea.imp fun _ _ => PairI.tx e2.tx).app (All2.one ⟨q2, ev, hq2⟩)
    · rintro v H2 e2 ⟨D', acc, ev, _, hD, hl, ha⟩
      rw [List.length_map, List.take_length] at ha
      exact ⟨D', acc, ev, hD, ha⟩
    · intro xs ys H2 H3 e2 ha e3 hb
      refine ⟨?_, fun H4 e4 => (ha.imp fun _ _ => PairI.tx (e3.trans e4).tx).app (hb.imp fun _ _ => PairI.tx e4.tx)⟩
      rw [ha.len, hb.len, List.length_map]
      have := letF_len evs 0
      omega
    · subst ev
      exact q q2 as H3 (e1.trans e3) (e3 _ _ hq2) (ha.imp fun _ _ => PairI.tx (e2.trans e3).tx)
def spWordAt : Sp := fun vs H Q _ => ∃ (tv hv : Addr) (p : Nat) (ks : List Str) (evs : List Ev), vs = [.ref tv, .ref hv, .int (p : Int)] ∧ THAt H tv hv ks evs ∧ p ≤ evs.length ∧
  ∀ (r : Addr) (as : List V) (H' : Hp), Ex H H' → H' r = some (.tup as) → All2 (PairI H') as (wordL (evs.take p)) → Q (.ref r) H'
theorem ok_wordat {f : Addr} {fd : FuncData} (D : Fun K "word_at" "word_at" sWordAt f fd) (OI : Own P w K mg base "word_in" ["record", "events"] 3 (spWordIn C)) (OR : Own P w K mg base "record_at" ["table", "history", "p"] 6 (spRecordAt C)) : FnOk P w K mg base CX0 7 f fd ["table", "history", "p"] spWordAt := by
  refine (fun_own (sp := spWordAt) (ps := ["table", "history", "p"]) (k := 6) D scWordAt (fun vs H Q E h => ?_) (fun _ _ _ _ _ _ us hl => match us, hl with | [_, _, _], _ => rfl) ?_).1
  · obtain ⟨tv, hv, p, ks, evs, rfl, _⟩ := h
    rfl
  · rintro X H vs Q E ⟨f, cdv, A, outer, st, rfl⟩ hr h
    obtain ⟨tv, hv, p, ks, evs, rfl, th, hp, q⟩ := h
    obtain ⟨_, ⟨as, ha, hall⟩, hV, hz⟩ := id th
    refine rx_retM (EM.en (en_ownA (Φ := fun us H3 => ∃ r kv F q, us = [.ref r, .ref q] ∧ RecAt C F H3 r kv (run (evs.take p)) ∧ H3 q = some (.tup (as.take p)) ∧ Ex H H3) (φ := fun v H1 => ∃ r as, v = .ref r ∧ H1 r = some (.tup as) ∧ All2 (PairI H1) as (wordL (evs.take p))) OI (hr.mono (by decide)) (by rfl)
      (AN.cons (en_own (φ := fun v H1 => ∃ r kv F, v = .ref r ∧ RecAt C F H1 r kv (run (evs.take p))) OR hr (by rfl) (AV.cons (ev_nm 0) (AV.cons (ev_nm 1) (AV.cons (ev_nm 2) AV.nil))) fun H1 e1 Q' k => ⟨tv, hv, p, ks, evs, rfl, th.tx e1.tx, hp, fun r kv F H2 e2 hR => k _ _ e2 ⟨r, kv, F, rfl, hR⟩⟩) fun v H1 e1 ⟨r, kv, F, ev, hR⟩ =>
        AN.cons (en_slTt (lv := none) (hv := some (p : Int)) (ev_nm 1) (e1 _ _ ha) ov_n (ov_s (ev_nm 2))) fun v' H4 e4 ⟨q1, ev', hr'⟩ => AN.nil fun H5 e5 => ⟨r, kv, F, q1, by rw [ev, ev'], (hR.mono e4).mono e5, by rw [cutV_take] at hr'; exact e5 _ _ hr', (e1.trans e4).trans e5⟩)
      fun us H1 e1 ⟨r, kv, F, q1, eu, hR, hq1, e'⟩ Q' kk => ⟨r, kv, q1, F, evs.take p, eu, hR, (hV.take p).good, by rw [List.length_take]; omega, ⟨as.take p, hq1, (hall.take p).imp fun _ _ => EvAt.tx e1.tx⟩, fun q0 as' H2 e2 hq ha => kk _ _ e2 ⟨q0, as', rfl, hq, ha⟩⟩) fun v H1 e1 ⟨r, as', ev, hr', ha'⟩ H2 e2 => ?_)
    subst ev
    exact q r as' H2 (e1.trans e2) (e2 _ _ hr') (ha'.imp fun _ _ => PairI.tx e2.tx)
end
end E5
set_option linter.all false
set_option maxRecDepth 100000
namespace E5
open PySem PyProof.Rows PySem.Spec
/-! ### the kept ones, the open steps -/
def keptE (l : List Ev) : List Int := l.filterMap fun e => match e with | .fin t true => some t | _ => none
theorem keptE_snoc (l : List Ev) (e : Ev) : keptE (l ++ [e]) = keptE l ++ keptE [e] := by
  unfold keptE; rw [List.filterMap_append]
theorem keptL_run (l : List Ev) : keptL (run l) = keptE l := by
  have key : ∀ n, n ≤ l.length → keptL (run (l.take n)) = keptE (l.take n) := fun n => by
    induction n with
    | zero => exact fun _ => rfl
    | succ n ih =>
      intro hn
      have he := List.getElem?_eq_getElem hn
      have ih := ih (Nat.le_of_lt hn)
      rw [run_more he, take_more he, keptE_snoc, ← ih]
      generalize l[n] = e
      cases e with
      | doo t k => exact (List.append_nil _).symm
      | back t i => exact (List.append_nil _).symm
      | fin t b =>
        show (((run (l.take n)).fs ++ [(t, b)]).filter (·.2)).map (·.1) = keptL (run (l.take n)) ++ keptE [.fin t b]
        rw [List.filter_append, List.map_append]
        cases b <;> rfl
  have := key l.length (Nat.le_refl _)
  rwa [List.take_length] at this
/-- the ends as they stand -/
theorem fs_ends {ks : List Str} {l : List Ev} (h : Valid ks l) : ∀ t b, (t, b) ∈ (run l).fs ↔ (run l).ends t = some b := by
  have key : ∀ n, n ≤ l.length → ∀ t b, (t, b) ∈ (run (l.take n)).fs ↔ (run (l.take n)).ends t = some b := fun n => by
    induction n with
    | zero => exact fun _ t b => ⟨fun z => (nomatch z), fun z => (nomatch z)⟩
    | succ n ih =>
      intro hn t b
      have he := List.getElem?_eq_getElem hn
      have hm := (h n _ he).2
      have ih := ih (Nat.le_of_lt hn)
      rw [run_more he]
      revert hm
      generalize l[n] = e
      generalize run (l.take n) = s at ih
      intro hm
      cases e with
      | doo u k => exact ih t b
      | back u i => exact ih t b
      | fin u c =>
        rw [S.may, Bool.and_eq_true, Option.isNone_iff_eq_none] at hm
        show (t, b) ∈ s.fs ++ [(u, c)] ↔ (if t = u then some c else s.ends t) = some b
        rw [List.mem_append, List.mem_singleton, ih t b]
        by_cases z : t = u
        · subst z
          rw [if_pos rfl, hm.2]
          constructor
          · rintro (y | y)
            · cases y
            · cases y; rfl
          · intro y
            cases y; exact .inr rfl
        · rw [if_neg z]
          exact ⟨fun y => y.elim id fun y => absurd (Prod.mk.inj y).1 z, .inl⟩
  have := key l.length (Nat.le_refl _)
  rwa [List.take_length] at this
theorem kept_iff {ks : List Str} {l : List Ev} (h : Valid ks l) (t : Int) : t ∈ keptE l ↔ (run l).ends t = some true := by
  rw [← keptL_run, ← fs_ends h t true]
  unfold keptL
  rw [List.mem_map]
  constructor
  · rintro ⟨⟨u, b⟩, hm, rfl⟩
    rw [List.mem_filter] at hm
    have e : b = true := hm.2
    subst e
    exact hm.1
  · exact fun z => ⟨(t, true), List.mem_filter.mpr ⟨z, rfl⟩, rfl⟩
def IsOpen (s : S) (i : Int) : Prop := ∃ t, i ∈ s.steps t ∧ i ∉ s.taken t ∧ s.ends t ≠ some true
theorem openL_mem {s : S} (g : Good s) (i : Int) : i ∈ openL s ↔ IsOpen s i := by
  unfold openL opn
  rw [List.mem_reverse, List.mem_map]
  constructor
  · rintro ⟨⟨j, t⟩, hm, rfl⟩
    rw [List.mem_filter, Bool.and_eq_true, Bool.not_eq_true', Bool.not_eq_true', decide_eq_false_iff_not, decide_eq_false_iff_not] at hm
    exact ⟨t, (g.own j t).mp hm.1, hm.2.1, hm.2.2⟩
  · rintro ⟨t, h1, h2, h3⟩
    refine ⟨(i, t), List.mem_filter.mpr ⟨(g.own i t).mpr h1, ?_⟩, rfl⟩
    rw [Bool.and_eq_true, Bool.not_eq_true', Bool.not_eq_true', decide_eq_false_iff_not, decide_eq_false_iff_not]
    exact ⟨h2, h3⟩
theorem openL_nodup {s : S} (g : Good s) : (openL s).Nodup := by
  unfold openL
  show (((s.os.filter (opn s)).map (·.1)).reverse).Pairwise (· ≠ ·)
  rw [List.pairwise_reverse, List.pairwise_map]
  exact (g.osp.sublist List.filter_sublist).imp fun h => (Int.ne_of_lt h).symm
theorem openL_of2 {s : S} (g : Good s) {ns : List Int} (hn : ns.Nodup) (hm : ∀ i, i ∈ ns ↔ IsOpen s i) (hs : ns.Pairwise (· ≥ ·)) : ns = openL s := by
  refine openL_of g ?_ hs
  refine List.Perm.trans ((List.perm_ext_iff_of_nodup hn (openL_nodup g)).mpr fun i => ?_) (List.reverse_perm _)
  rw [hm i, openL_mem g]
/-- the open steps of one -/
def openT (s : S) (t : Int) : List Int := if s.ends t = some true then [] else (s.steps t).filter fun i => !decide (i ∈ s.taken t)
theorem openT_mem {s : S} {t i : Int} : i ∈ openT s t ↔ i ∈ s.steps t ∧ i ∉ s.taken t ∧ s.ends t ≠ some true := by
  unfold openT
  by_cases h : s.ends t = some true
  · rw [if_pos h]
    exact ⟨fun z => (nomatch z), fun z => absurd h z.2.2⟩
  · rw [if_neg h, List.mem_filter]
    simp [h]
theorem open_nodup {s : S} (g : Good s) : ∀ {ts : List Int}, ts.Nodup → (ts.flatMap (openT s)).Nodup
  | [], _ => List.nodup_nil
  | t :: r, h => by
    obtain ⟨h1, h2⟩ := List.nodup_cons.mp h
    rw [List.flatMap_cons, List.nodup_append]
    refine ⟨?_, open_nodup g h2, fun a ha b hb e => ?_⟩
    · unfold openT
      split
      · exact List.nodup_nil
      · exact (g.ns t).filter _
    · subst e
      obtain ⟨u, hu, hm⟩ := List.mem_flatMap.mp hb
      have := g.inj t u a (openT_mem.mp ha).1 (openT_mem.mp hm).1
      exact h1 (this ▸ hu)
theorem open_mem {s : S} {ts : List Int} (h : ∀ t, t ∈ ts ↔ s.steps t ≠ []) (i : Int) : i ∈ ts.flatMap (openT s) ↔ IsOpen s i := by
  rw [List.mem_flatMap]
  constructor
  · rintro ⟨t, _, hm⟩
    exact ⟨t, openT_mem.mp hm⟩
  · rintro ⟨t, hm⟩
    exact ⟨t, (h t).mpr (fun z => by rw [z] at hm; exact nomatch hm.1), openT_mem.mpr hm⟩
theorem open_len {s : S} (g : Good s) {ts : List Int} (h : ts.Nodup) : (ts.flatMap (openT s)).length ≤ s.n := by
  have h2 := nodup_le (open_nodup g h) (b := (List.range s.n).map fun (n : Nat) => (n : Int)) fun x hx => by
    obtain ⟨u, _, hm⟩ := List.mem_flatMap.mp hx
    obtain ⟨z1, z2⟩ := g.lt u x (openT_mem.mp hm).1
    exact List.mem_map.mpr ⟨x.toNat, List.mem_range.mpr (by omega), by omega⟩
  rwa [List.length_map, List.length_range] at h2
/-! ### the letters of one position -/
def sg (n : Int) (w : List (Int × Int)) : List Int := (w.filter fun q => decide (q.1 = n)).map (·.2)
theorem sg_app (n : Int) (a b : List (Int × Int)) : sg n (a ++ b) = sg n a ++ sg n b := by
  unfold sg; rw [List.filter_append, List.map_append]
theorem sg_one (n i x : Int) : sg n [(i, x)] = if i = n then [x] else [] := by
  unfold sg
  by_cases h : i = n
  · simp [h]
  · simp [h]
theorem sg_letF {ks : List Str} {l : List Ev} (h : Valid ks l) (n : Int) : ∀ m, m ≤ l.length → (∀ t, n ∈ (run (l.take m)).steps t → sg n (letF 0 (l.take m)) = 1 :: (if n ∈ (run (l.take m)).taken t then [-1] else [])) ∧ ((∀ t, n ∉ (run (l.take m)).steps t) → sg n (letF 0 (l.take m)) = []) := fun m => by
  induction m with
  | zero => exact fun _ => ⟨fun t z => (nomatch z), fun _ => rfl⟩
  | succ m ih =>
    intro hm
    have he := List.getElem?_eq_getElem hm
    obtain ⟨ih1, ih2⟩ := ih (Nat.le_of_lt hm)
    have g := (h.take m).good
    have hmay := (h m _ he).2
    rw [letF_more he, run_more he, sg_app]
    have hn : (run (l.take m)).n = m := by rw [run_n, List.length_take]; omega
    revert hmay
    generalize l[m] = e
    generalize run (l.take m) = s at ih1 ih2 g hn
    generalize sg n (letF 0 (l.take m)) = w at ih1 ih2
    intro hmay
    cases e with
    | doo u k =>
      have st : ∀ t, (s.note (.doo u k)).steps t = if t = u then s.steps t ++ [(s.n : Int)] else s.steps t := fun t => rfl
      have tk : ∀ t, (s.note (.doo u k)).taken t = s.taken t := fun t => rfl
      rw [show let1 m (.doo u k) = [((m : Int), 1)] from rfl, sg_one]
      by_cases z : (m : Int) = n
      · rw [if_pos z]
        have hno : ∀ t, n ∉ s.steps t := fun t y => by have := (g.lt t n y).2; omega
        refine ⟨fun t ht => ?_, fun hh => ?_⟩
        · rw [ih2 hno, tk, if_neg fun y => hno t (g.sub t n y)]; rfl
        · refine absurd ?_ (hh u)
          rw [st, if_pos rfl]
          exact List.mem_append_right _ (List.mem_singleton.mpr (by omega))
      · rw [if_neg z, List.append_nil]
        have me : ∀ t, n ∈ (s.note (.doo u k)).steps t ↔ n ∈ s.steps t := fun t => by
          rw [st]
          by_cases y : t = u
          · rw [if_pos y, List.mem_append, List.mem_singleton]
            exact ⟨fun x => x.elim id fun x => absurd (by omega) z, .inl⟩
          · rw [if_neg y]
        exact ⟨fun t ht => ih1 t ((me t).mp ht), fun hh => ih2 fun t y => hh t ((me t).mpr y)⟩
    | back u i =>
      rw [S.may, Bool.and_eq_true, Bool.and_eq_true, decide_eq_true_eq, decide_eq_true_eq, Bool.not_eq_true', decide_eq_false_iff_not] at hmay
      obtain ⟨h1, h2, h3⟩ := hmay
      have tk : ∀ t, (s.note (.back u i)).taken t = if t = u then s.taken t ++ [i] else s.taken t := fun t => rfl
      have st : ∀ t, (s.note (.back u i)).steps t = s.steps t := fun t => rfl
      rw [show let1 m (.back u i) = [(i, -1)] from rfl, sg_one]
      by_cases z : i = n
      · subst z
        rw [if_pos rfl]
        refine ⟨fun t ht => ?_, fun hh => absurd h2 (hh u)⟩
        have e : t = u := g.inj t u i ht h2
        subst e
        rw [ih1 t h2, if_neg h3, tk, if_pos rfl, if_pos (List.mem_append_right _ (List.mem_singleton.mpr rfl))]; rfl
      · rw [if_neg z, List.append_nil]
        refine ⟨fun t ht => ?_, fun hh => ih2 hh⟩
        have : (n ∈ (s.note (.back u i)).taken t) = (n ∈ s.taken t) := by
          rw [tk]
          by_cases y : t = u
          · rw [if_pos y, List.mem_append, List.mem_singleton]
            exact propext ⟨fun x => x.elim id fun x => absurd x.symm z, .inl⟩
          · rw [if_neg y]
        rw [ih1 t ht]
        by_cases y : n ∈ s.taken t
        · rw [if_pos y, if_pos (this ▸ y)]
        · rw [if_neg y, if_neg fun x => y (this ▸ x)]
    | fin u b =>
      rw [show let1 m (.fin u b) = [] from rfl, show sg n [] = [] from rfl, List.append_nil]
      exact ⟨ih1, ih2⟩
theorem sg_bk (n : Int) : ∀ {l : List Int}, l.Nodup → sg n (l.map bk) = if n ∈ l then [-1] else []
  | [], _ => rfl
  | x :: r, h => by
    obtain ⟨h1, h2⟩ := List.nodup_cons.mp h
    have ih := sg_bk n h2
    rw [List.map_cons, show bk x :: r.map bk = [(x, -1)] ++ r.map bk from rfl, sg_app, sg_one, ih]
    by_cases z : x = n
    · subst z
      rw [if_pos rfl, if_neg h1, if_pos List.mem_cons_self]; rfl
    · rw [if_neg z]
      by_cases y : n ∈ r
      · rw [if_pos y, if_pos (List.mem_cons_of_mem _ y)]; rfl
      · rw [if_neg y, if_neg fun x => (List.mem_cons.mp x).elim (fun x => z x.symm) y]; rfl
/-- the signs of a step in the whole word -/
theorem sg_step {ks : List Str} {l : List Ev} (h : Valid ks l) {n t : Int} (hs : n ∈ (run l).steps t) : sg n (wordL l) = if t ∈ keptE l then [1] else [1, -1] := by
  have g := h.good
  have h1 := (sg_letF h n l.length (Nat.le_refl _)).1 t (by rw [List.take_length]; exact hs)
  rw [List.take_length] at h1
  unfold wordL
  rw [sg_app, h1, sg_bk n (openL_nodup g)]
  have ho : n ∈ openL (run l) ↔ n ∉ (run l).taken t ∧ (run l).ends t ≠ some true := by
    rw [openL_mem g]
    constructor
    · rintro ⟨u, a, b, c⟩
      have e := g.inj u t n a hs
      subst e
      exact ⟨b, c⟩
    · exact fun ⟨a, b⟩ => ⟨t, hs, a, b⟩
  by_cases hk : t ∈ keptE l
  · have hk' := (kept_iff h t).mp hk
    have htk : (run l).taken t = [] := g.tk t (by rw [hk']; decide)
    rw [if_pos hk, if_neg (by rw [htk]; exact nofun), if_neg (fun z => (ho.mp z).2 hk')]; rfl
  · have hk' : (run l).ends t ≠ some true := fun z => hk ((kept_iff h t).mpr z)
    rw [if_neg hk]
    by_cases ht : n ∈ (run l).taken t
    · rw [if_pos ht, if_neg fun z => (ho.mp z).1 ht]; rfl
    · rw [if_neg ht, if_pos (ho.mpr ⟨ht, hk'⟩)]; rfl
theorem sg_none {ks : List Str} {l : List Ev} (h : Valid ks l) {n : Int} (hs : ∀ t, n ∉ (run l).steps t) : sg n (wordL l) = [] := by
  have g := h.good
  have h1 := (sg_letF h n l.length (Nat.le_refl _)).2 (by rw [List.take_length]; exact hs)
  rw [List.take_length] at h1
  unfold wordL
  rw [sg_app, h1, sg_bk n (openL_nodup g), if_neg]
  · rfl
  · intro z
    obtain ⟨t, a, _⟩ := (openL_mem g n).mp z
    exact hs t a
/-- which positions are steps -/
theorem step_at {ks : List Str} {l : List Ev} (h : Valid ks l) : ∀ m, m ≤ l.length → ∀ (n : Nat) t, (n : Int) ∈ (run (l.take m)).steps t ↔ n < m ∧ ∃ k, l[n]? = some (.doo t k) := fun m => by
  induction m with
  | zero => exact fun _ n t => ⟨fun z => (nomatch z), fun z => absurd z.1 (Nat.not_lt_zero _)⟩
  | succ m ih =>
    intro hm n t
    have he := List.getElem?_eq_getElem hm
    have ih := ih (Nat.le_of_lt hm) n t
    have g := (h.take m).good
    have hn : (run (l.take m)).n = m := by rw [run_n, List.length_take]; omega
    rw [run_more he]
    generalize hx : l[m] = e at he
    by_cases z : n = m
    · subst z
      have hno : (n : Int) ∉ (run (l.take n)).steps t := fun y => by have := (g.lt t _ y).2; omega
      cases e with
      | doo u k =>
        show (n : Int) ∈ (if t = u then (run (l.take n)).steps t ++ [((run (l.take n)).n : Int)] else (run (l.take n)).steps t) ↔ _
        rw [he]
        by_cases y : t = u
        · subst y
          rw [if_pos rfl, hn]
          exact ⟨fun _ => ⟨Nat.lt_succ_self _, k, rfl⟩, fun _ => List.mem_append_right _ (List.mem_singleton.mpr rfl)⟩
        · rw [if_neg y]
          exact ⟨fun x => absurd x hno, fun ⟨_, k', x⟩ => by cases x; exact absurd rfl y⟩
      | back u i =>
        rw [he]
        exact ⟨fun x => absurd x hno, fun ⟨_, k', x⟩ => by cases x⟩
      | fin u b =>
        rw [he]
        exact ⟨fun x => absurd x hno, fun ⟨_, k', x⟩ => by cases x⟩
    · have hlt : n < m + 1 ↔ n < m := by omega
      rw [hlt, ← ih]
      cases e with
      | doo u k =>
        show (n : Int) ∈ (if t = u then (run (l.take m)).steps t ++ [((run (l.take m)).n : Int)] else (run (l.take m)).steps t) ↔ _
        by_cases y : t = u
        · rw [if_pos y, hn, List.mem_append, List.mem_singleton]
          exact ⟨fun x => x.elim id fun x => absurd (by omega) z, .inl⟩
        · rw [if_neg y]
      | back u i => exact Iff.rfl
      | fin u b => exact Iff.rfl
theorem step_pos {ks : List Str} {l : List Ev} (h : Valid ks l) {n : Nat} {t : Int} {k : Str} (hn : l[n]? = some (.doo t k)) : (n : Int) ∈ (run l).steps t := by
  have := (step_at h l.length (Nat.le_refl _) n t).mpr ⟨(List.getElem?_eq_some_iff.mp hn).1, k, hn⟩
  rwa [List.take_length] at this
theorem step_no {ks : List Str} {l : List Ev} (h : Valid ks l) {n : Nat} (hn : ∀ t k, l[n]? ≠ some (.doo t k)) (t : Int) : (n : Int) ∉ (run l).steps t := fun z => by
  have := (step_at h l.length (Nat.le_refl _) n t).mp (by rw [List.take_length]; exact z)
  obtain ⟨_, k, e⟩ := this
  exact hn t k e
/-! ### the number of letters -/
theorem sum_range_ite (p : Nat) (i : Int) (h0 : 0 ≤ i) (h1 : i < (p : Int)) : ((List.range p).map fun n : Nat => if i = (n : Int) then 1 else 0).sum = 1 := by
  induction p with
  | zero => omega
  | succ p ih =>
    rw [List.range_succ, List.map_append, List.sum_append]
    by_cases z : i = (p : Int)
    · have : ∀ q, q ≤ p → ((List.range q).map fun n : Nat => if i = (n : Int) then 1 else 0).sum = 0 := fun q => by
        induction q with
        | zero => exact fun _ => rfl
        | succ q ih =>
          intro hq
          rw [List.range_succ, List.map_append, List.sum_append, ih (by omega)]
          show 0 + ([if i = (q : Int) then 1 else 0] : List Nat).sum = 0
          rw [if_neg (by omega)]; rfl
      rw [this p (Nat.le_refl _)]
      show 0 + ([if i = (p : Int) then 1 else 0] : List Nat).sum = 1
      rw [if_pos z]; rfl
    · rw [ih (by omega)]
      show 1 + ([if i = (p : Int) then 1 else 0] : List Nat).sum = 1
      rw [if_neg z]; rfl
theorem sum_map_add {α : Type} (f g : α → Nat) : ∀ l : List α, (l.map fun x => f x + g x).sum = (l.map f).sum + (l.map g).sum
  | [] => rfl
  | x :: r => by
    have := sum_map_add f g r
    simp only [List.map_cons, List.sum_cons]; omega
theorem len_sg (p : Nat) : ∀ w : List (Int × Int), (∀ q ∈ w, 0 ≤ q.1 ∧ q.1 < (p : Int)) → w.length = ((List.range p).map fun n : Nat => (sg (n : Int) w).length).sum
  | [], _ => by
    have : ∀ q : Nat, ((List.range q).map fun n : Nat => (sg (n : Int) []).length).sum = 0 := fun q => by
      induction q with
      | zero => rfl
      | succ q ih =>
        rw [List.range_succ, List.map_append, List.sum_append, ih]; rfl
    exact (this p).symm
  | (i, x) :: r, h => by
    have ih := len_sg p r fun q hq => h q (List.mem_cons_of_mem _ hq)
    have hi := h (i, x) List.mem_cons_self
    have e : ∀ n : Nat, (sg (n : Int) ((i, x) :: r)).length = (if i = (n : Int) then 1 else 0) + (sg (n : Int) r).length := fun n => by
      rw [show (i, x) :: r = [(i, x)] ++ r from rfl, sg_app, sg_one, List.length_append]
      by_cases z : i = (n : Int)
      · rw [if_pos z, if_pos z]; rfl
      · rw [if_neg z, if_neg z]; rfl
    rw [List.map_congr_left fun n _ => e n, sum_map_add, sum_range_ite p i hi.1 hi.2, ← ih, List.length_cons]; omega
/-- what a step counts -/
def cnt (kp : List Int) : Ev → List Int
  | .doo t _ => [if t ∈ kp then 1 else 2]
  | _ => []
theorem sum_range_get {α : Type} (f : Option α → Nat) : ∀ l : List α, ((List.range l.length).map fun n => f l[n]?).sum = (l.map fun x => f (some x)).sum
  | [] => rfl
  | x :: r => by
    have ih := sum_range_get f r
    rw [List.length_cons, List.range_succ_eq_map, List.map_cons, List.sum_cons, List.map_map, List.map_cons, List.sum_cons, ← ih]
    rfl
def cnO (kp : List Int) : Option Ev → Nat
  | some (.doo t _) => if t ∈ kp then 1 else 2
  | _ => 0
theorem sum_cnt (kp : List Int) : ∀ l : List Ev, (l.flatMap (cnt kp)).sum = (((l.map fun e => cnO kp (some e)).sum : Nat) : Int)
  | [] => rfl
  | e :: r => by
    have ih := sum_cnt kp r
    rw [List.flatMap_cons, List.sum_append, ih, List.map_cons, List.sum_cons]
    cases e with
    | doo t k =>
      show ([if t ∈ kp then 1 else 2] : List Int).sum + _ = (((if t ∈ kp then 1 else 2) + _ : Nat) : Int)
      by_cases z : t ∈ kp
      · rw [if_pos z, if_pos z]; simp
      · rw [if_neg z, if_neg z]; simp
    | back t i => simp [cnt, cnO]
    | fin t b => simp [cnt, cnO]
theorem word_range {ks : List Str} {l : List Ev} (h : Valid ks l) : ∀ q ∈ wordL l, (0 ≤ q.1 ∧ q.1 < (l.length : Int)) ∧ (q.2 = 1 ∨ q.2 = -1) := by
  have g := h.good
  have hn := run_n l
  intro q hq
  unfold wordL at hq
  rcases List.mem_append.mp hq with z | z
  · have key : ∀ m, m ≤ l.length → ∀ q ∈ letF 0 (l.take m), (0 ≤ q.1 ∧ q.1 < (m : Int)) ∧ (q.2 = 1 ∨ q.2 = -1) := fun m => by
      induction m with
      | zero => exact fun _ q y => (nomatch y)
      | succ m ih =>
        intro hm q hq
        have he := List.getElem?_eq_getElem hm
        have gm := (h.take m).good
        have hmay := (h m _ he).2
        have hnm : (run (l.take m)).n = m := by rw [run_n, List.length_take]; omega
        rw [letF_more he] at hq
        rcases List.mem_append.mp hq with y | y
        · have := ih (Nat.le_of_lt hm) q y
          exact ⟨⟨this.1.1, by have := this.1.2; omega⟩, this.2⟩
        · revert hmay y
          generalize l[m] = e
          intro hmay y
          cases e with
          | doo t k =>
            have e : q = ((m : Int), 1) := List.mem_singleton.mp y
            subst e
            exact ⟨⟨Int.natCast_nonneg _, by show (m : Int) < _; omega⟩, .inl rfl⟩
          | back t i =>
            have e : q = (i, -1) := List.mem_singleton.mp y
            subst e
            rw [S.may, Bool.and_eq_true, Bool.and_eq_true, decide_eq_true_eq, decide_eq_true_eq] at hmay
            have := gm.lt t i hmay.2.1
            exact ⟨⟨this.1, by show i < _; omega⟩, .inr rfl⟩
          | fin t b => exact nomatch y
    have := key l.length (Nat.le_refl _) q (by rw [List.take_length]; exact z)
    exact this
  · obtain ⟨i, hi, rfl⟩ := List.mem_map.mp z
    obtain ⟨t, a, _⟩ := (openL_mem g i).mp hi
    have := g.lt t i a
    exact ⟨⟨this.1, by show i < _; omega⟩, .inr rfl⟩
theorem word_len {ks : List Str} {l : List Ev} (h : Valid ks l) : ((wordL l).length : Int) = (l.flatMap (cnt (keptE l))).sum := by
  rw [sum_cnt, len_sg l.length (wordL l) fun q hq => (word_range h q hq).1, ← sum_range_get (cnO (keptE l)) l]
  refine congrArg (fun z : List Nat => ((z.sum : Nat) : Int)) (List.map_congr_left fun n hn => ?_)
  have hn := List.mem_range.mp hn
  have he := List.getElem?_eq_getElem hn
  rw [he]
  generalize hx : l[n] = e at he
  cases e with
  | doo t k =>
    rw [sg_step h (step_pos h he)]
    by_cases z : t ∈ keptE l
    · rw [if_pos z]; show 1 = (if t ∈ keptE l then 1 else 2); rw [if_pos z]
    · rw [if_neg z]; show 2 = (if t ∈ keptE l then 1 else 2); rw [if_neg z]
  | back t i => rw [sg_none h (step_no h fun t' k' => by rw [he]; exact nofun)]; rfl
  | fin t b => rw [sg_none h (step_no h fun t' k' => by rw [he]; exact nofun)]; rfl
end E5
set_option Elab.async false
set_option linter.all false
set_option maxRecDepth 100000
set_option maxHeartbeats 4000000
namespace E5
open PySem PySem.Spec PyProof.Rows L2 Evl Y
abbrev sBlank : Stmt := topS 37
theorem scBlank : FnScope [] [] (defScope sBlank) := ⟨rfl, rfl, rfl, by decide +kernel, rfl, by decide +kernel, by decide +kernel⟩
def rowK (ls lb : Addr) (e : Str) : List (Key × V) := [(Sum.inr "steps", .ref ls), (Sum.inr "backs", .ref lb), (Sum.inr "end", .str e)]
theorem sb_ : ¬ (("steps" : Str) = "backs") := by decide +kernel
theorem se_ : ¬ (("steps" : Str) = "end") := by decide +kernel
theorem be_ : ¬ (("backs" : Str) = "end") := by decide +kernel
theorem row_steps (ls lb : Addr) (e : Str) : valV (rowK ls lb e) (Sum.inr "steps") = some (.ref ls) := by rfl
theorem row_backs (ls lb : Addr) (e : Str) : valV (rowK ls lb e) (Sum.inr "backs") = some (.ref lb) := by
  unfold rowK
  rw [valV_neg (by intro q; exact sb_ (Sum.inr.inj q)), valV_pos rfl]
theorem row_end (ls lb : Addr) (e : Str) : valV (rowK ls lb e) (Sum.inr "end") = some (.str e) := by
  unfold rowK
  rw [valV_neg (by intro q; exact se_ (Sum.inr.inj q)), valV_neg (by intro q; exact be_ (Sum.inr.inj q)), valV_pos rfl]
theorem row_put (ls lb : Addr) (e e' : Str) : putK (rowK ls lb e) (Sum.inr "end") (.str e') = rowK ls lb e' := by
  have h1 : ¬ ((Sum.inr ("steps" : Str) : Key) = (Sum.inr ("end" : Str) : Key)) := fun q => se_ (Sum.inr.inj q)
  have h2 : ¬ ((Sum.inr ("backs" : Str) : Key) = (Sum.inr ("end" : Str) : Key)) := fun q => be_ (Sum.inr.inj q)
  simp only [rowK, putK, List.any_cons, List.any_nil, h1, h2, decide_false, decide_true, Bool.false_or, Bool.or_false, if_true, List.map_cons, List.map_nil, if_false]
theorem row_merge (x1 x2 x3 : V) : mergeK [] [((Sum.inr ("steps" : Str) : Key), x1), (Sum.inr "backs", x2), (Sum.inr "end", x3)] = [((Sum.inr ("steps" : Str) : Key), x1), (Sum.inr "backs", x2), (Sum.inr "end", x3)] := by
  have h1 : ¬ ((Sum.inr ("steps" : Str) : Key) = (Sum.inr ("backs" : Str) : Key)) := fun q => sb_ (Sum.inr.inj q)
  have h2 : ¬ ((Sum.inr ("steps" : Str) : Key) = (Sum.inr ("end" : Str) : Key)) := fun q => se_ (Sum.inr.inj q)
  have h3 : ¬ ((Sum.inr ("backs" : Str) : Key) = (Sum.inr ("end" : Str) : Key)) := fun q => be_ (Sum.inr.inj q)
  simp only [mergeK, List.foldl_cons, List.foldl_nil, putK, List.any_cons, List.any_nil, List.nil_append, List.cons_append, h1, h2, h3, decide_false, Bool.or_false, Bool.false_eq_true, if_false]
section
variable {P : Program} {w : World} {K : PySem.W.Frag} {mg : Str → Option Value} {base : Heap} {C : Addr}
def spBlank : Sp := fun vs H Q _ => vs = [] ∧ ∀ (p ls lb : Addr) (H' : Hp), Ex H H' → H p = none → H ls = none → H lb = none → H' p = some (.dK (rowK ls lb "")) → H' ls = some (.lst []) → H' lb = some (.lst []) → ls ≠ lb → Q (.ref p) H'
theorem own_blank (D : Def K mg "_law_blank" sBlank) : Own P w K mg base "_law_blank" [] 1 spBlank := by
  refine D.own scBlank (fun vs H Q E h => ?_) (fun _ _ _ _ _ _ us hl => match us, hl with | [], _ => rfl) ?_
  · obtain ⟨rfl, _⟩ := h
    rfl
  · rintro X H vs Q E ⟨f, cdv, A, outer, s, rfl⟩ hr ⟨rfl, q⟩
    refine rx_retM (em_disp3N row_merge fun p hp => EN.weak (en_lstV AV.nil (Nat.zero_le _)) fun x1 Ha ea ⟨ls, e1, nl, hl⟩ => EN.weak (en_lstV AV.nil (Nat.zero_le _)) fun x2 Hb eb ⟨lb, e2, nb, hb⟩ => EN.weak (ev_s (n := "")) fun x3 Hc ec e3 hc H5 e5 => ?_)
    subst e1 e2 e3
    have e0 : Ex H Hc := (((Ex.new hp).trans ea).trans eb).trans ec
    have npl : ls ≠ p := fun z => by rw [z, upd_same] at nl; cases nl
    have nla : H ls = none := by rw [upd_ne npl] at nl; exact nl
    have nlb : H lb = none := fresh_back ((Ex.new hp).trans ea) nb
    have hls : Hc ls = some (.lst []) := ec _ _ (eb _ _ hl)
    have npb : lb ≠ p := fun z => by rw [z, ea _ _ upd_same] at nb; cases nb
    refine q p ls lb H5 (fun a o h => e5 _ _ (by rw [upd_ne (ne_of_none h hp)]; exact e0 _ _ h)) hp nla nlb (e5 _ _ upd_same) (e5 _ _ (by rw [upd_ne npl]; exact hls)) (e5 _ _ (by rw [upd_ne npb]; exact ec _ _ hb)) (ne_of_none hl nb)
end
end E5
set_option Elab.async false
set_option linter.all false
set_option maxRecDepth 100000
set_option maxHeartbeats 4000000
namespace E5
open PySem PySem.Spec PyProof.Rows L2 Evl Y
def endS : Option Bool → Str
  | none => ""
  | some b => finS b
structure BRows (F : Addr → Prop) (H : Hp) (s : S) (b : Addr) (rw ls lb : Int → Addr) : Prop where
  row : ∀ t, s.steps t ≠ [] → H (rw t) = some (.dK (rowK (ls t) (lb t) (endS (s.ends t))))
  st : ∀ t, s.steps t ≠ [] → H (ls t) = some (.lst ((s.steps t).map V.int))
  bk : ∀ t, s.steps t ≠ [] → H (lb t) = some (.lst ((s.taken t).map V.int))
  fp : ∀ t, s.steps t ≠ [] → F (rw t) ∧ F (ls t) ∧ F (lb t)
  nb : ∀ t, s.steps t ≠ [] → rw t ≠ b
  sb : ∀ t, s.steps t ≠ [] → ls t ≠ lb t
  ap : ∀ t u, s.steps t ≠ [] → s.steps u ≠ [] → t ≠ u → rw t ≠ rw u ∧ ls t ≠ ls u ∧ ls t ≠ lb u ∧ lb t ≠ lb u
structure BookK (s : S) (kvs : List (Key × V)) (rw : Int → Addr) : Prop where
  at_ : ∀ t, valV kvs (.inl t) = if s.steps t = [] then none else some (.ref (rw t))
  len : kvs.length ≤ s.n
  keys : ∀ kv ∈ kvs, ∃ t, kv.1 = Sum.inl t ∧ s.steps t ≠ []
  ts : ∃ ts : List Int, kvs = ts.map (fun t => (Sum.inl t, V.ref (rw t))) ∧ ts.Nodup
def BookAt (F : Addr → Prop) (H : Hp) (b : Addr) (s : S) : Prop := ∃ kvs rw ls lb, H b = some (.dK kvs) ∧ F b ∧ BookK s kvs rw ∧ BRows F H s b rw ls lb
theorem BRows.mono {F : Addr → Prop} {H H' : Hp} {s : S} {b : Addr} {rw ls lb : Int → Addr} (h : BRows F H s b rw ls lb) (e : Ex H H') : BRows F H' s b rw ls lb :=
  ⟨fun t ht => e _ _ (h.row t ht), fun t ht => e _ _ (h.st t ht), fun t ht => e _ _ (h.bk t ht), h.fp, h.nb, h.sb, h.ap⟩
theorem BookAt.mono {F : Addr → Prop} {H H' : Hp} {s : S} {b : Addr} (h : BookAt F H b s) (e : Ex H H') : BookAt F H' b s := let ⟨k, r, l, m, a, c, d, f⟩ := h; ⟨k, r, l, m, e _ _ a, c, d, f.mono e⟩
theorem BookAt.zero {F : Addr → Prop} {H : Hp} {b : Addr} (h : H b = some (.dK [])) (f : F b) : BookAt F H b S.zero :=
  ⟨[], fun _ => b, fun _ => b, fun _ => b, h, f, ⟨fun _ => rfl, Nat.le_refl _, fun _ z => (nomatch z), [], rfl, List.nodup_nil⟩, ⟨fun _ h => absurd rfl h, fun _ h => absurd rfl h, fun _ h => absurd rfl h, fun _ h => absurd rfl h, fun _ h => absurd rfl h, fun _ h => absurd rfl h, fun _ _ h => absurd rfl h⟩⟩
section
variable {F : Addr → Prop} {H : Hp} {s : S} {b : Addr} {rw ls lb : Int → Addr} {kvs : List (Key × V)} {t i : Int} {k : Str}
theorem doo_nil (hne : s.steps t ≠ []) (u : Int) : (s.note (.doo t k)).steps u = [] ↔ s.steps u = [] := by
  show (if u = t then s.steps u ++ [(s.n : Int)] else s.steps u) = [] ↔ _
  by_cases e : u = t
  · subst e
    rw [if_pos rfl]
    exact ⟨fun z => absurd z (by simp), fun z => absurd z hne⟩
  · rw [if_neg e]
theorem doo_at (hn : s.steps t = []) (u : Int) : (s.note (.doo t k)).steps u = if u = t then [(s.n : Int)] else s.steps u := by
  show (if u = t then s.steps u ++ [(s.n : Int)] else s.steps u) = _
  by_cases e : u = t
  · subst e
    rw [if_pos rfl, if_pos rfl, hn]; rfl
  · rw [if_neg e, if_neg e]
theorem ite_iff {α : Type} {p q : Prop} [Decidable p] [Decidable q] (h : p ↔ q) {x y : α} : (if p then x else y) = if q then x else y := by
  by_cases z : q
  · rw [if_pos z, if_pos (h.mpr z)]
  · rw [if_neg z, if_neg fun y => z (h.mp y)]
theorem BookAt.doo1 (hb : H b = some (.dK kvs)) (fb : F b) (hK : BookK s kvs rw) (h : BRows F H s b rw ls lb) (hne : s.steps t ≠ []) :
    BookAt F (upd H (ls t) (.lst ((s.steps t).map V.int ++ [.int (s.n : Int)]))) b (s.note (.doo t k)) := by
  have nil := doo_nil (k := k) hne
  have ne' : ∀ u, (s.note (.doo t k)).steps u ≠ [] → s.steps u ≠ [] := fun u hu z => hu ((nil u).mpr z)
  have hl := h.st t hne
  refine ⟨kvs, rw, ls, lb, by rw [upd_ne (ne_of hb hl (fun z => nomatch z))]; exact hb, fb, ⟨fun u => (hK.at_ u).trans (ite_iff (nil u)).symm, Nat.le_succ_of_le hK.len, fun kv hkv => let ⟨u, a, c⟩ := hK.keys kv hkv; ⟨u, a, fun z => c ((nil u).mp z)⟩, hK.ts⟩,
    ⟨fun u hu => ?_, fun u hu => ?_, fun u hu => ?_, fun u hu => h.fp u (ne' u hu), fun u hu => h.nb u (ne' u hu), fun u hu => h.sb u (ne' u hu), fun u v hu hv => h.ap u v (ne' u hu) (ne' v hv)⟩⟩
  · rw [upd_ne (ne_of (h.row u (ne' u hu)) hl (fun z => nomatch z))]; exact h.row u (ne' u hu)
  · show _ = some (HO.lst ((if u = t then s.steps u ++ [(s.n : Int)] else s.steps u).map V.int))
    by_cases e : u = t
    · subst e
      rw [upd_same, if_pos rfl, List.map_append]; rfl
    · rw [upd_ne (h.ap u t (ne' u hu) hne e).2.1, if_neg e]; exact h.st u (ne' u hu)
  · have : lb u ≠ ls t := by
      by_cases e : u = t
      · subst e; exact Ne.symm (h.sb u hne)
      · exact Ne.symm (h.ap t u hne (ne' u hu) (Ne.symm e)).2.2.1
    rw [upd_ne this]; exact h.bk u (ne' u hu)
theorem BookAt.doo2 {p l1 l2 : Addr} (g : Good s) (hb : H b = some (.dK kvs)) (fb : F b) (hK : BookK s kvs rw) (h : BRows F H s b rw ls lb) (hn : s.steps t = []) {H1 : Hp} (e : Ex H H1) (np : H p = none) (n1 : H l1 = none) (n2 : H l2 = none) (fp : F p) (f1 : F l1) (f2 : F l2)
    (hp : H1 p = some (.dK (rowK l1 l2 ""))) (h1 : H1 l1 = some (.lst [])) (h2 : H1 l2 = some (.lst [])) (n12 : l1 ≠ l2) :
    BookAt F (upd (upd H1 b (.dK (putK kvs (Sum.inl t) (.ref p)))) l1 (.lst ([] ++ [.int (s.n : Int)]))) b (s.note (.doo t k)) := by
  have st := doo_at (k := k) hn
  have hb1 := e _ _ hb
  have nbp : p ≠ b := Ne.symm (ne_of_none hb np)
  have nb1 : l1 ≠ b := Ne.symm (ne_of_none hb n1)
  have nb2 : l2 ≠ b := Ne.symm (ne_of_none hb n2)
  have np1 : p ≠ l1 := ne_of hp h1 (fun z => nomatch z)
  have ne' : ∀ u, u ≠ t → (s.note (.doo t k)).steps u ≠ [] → s.steps u ≠ [] := fun u hu z => by rwa [st u, if_neg hu] at z
  refine ⟨putK kvs (Sum.inl t) (.ref p), fun u => if u = t then p else rw u, fun u => if u = t then l1 else ls u, fun u => if u = t then l2 else lb u, ?_, fb, ⟨fun u => ?_, Nat.le_trans (putK_len _ _ _) (Nat.succ_le_succ hK.len), fun kv hkv => ?_, ?_⟩, ⟨fun u hu => ?_, fun u hu => ?_, fun u hu => ?_, fun u hu => ?_, fun u hu => ?_, fun u hu => ?_, fun u v hu hv huv => ?_⟩⟩
  · rw [upd_ne (Ne.symm nb1), upd_same]
  · rw [valV_put, st u]
    by_cases e : u = t
    · subst e
      rw [if_pos rfl, if_pos rfl, if_neg (by simp), if_pos rfl]
    · rw [if_neg fun z => e (Sum.inl.inj z), if_neg e, if_neg e]; exact hK.at_ u
  · have key : kv.1 = Sum.inl t ∨ kv ∈ kvs := by
      unfold putK at hkv
      split at hkv
      · obtain ⟨x, hx, rfl⟩ := List.mem_map.mp hkv
        by_cases z : x.1 = Sum.inl t
        · rw [if_pos z]; exact .inl z
        · rw [if_neg z]; exact .inr hx
      · rcases List.mem_append.mp hkv with z | z
        · exact .inr z
        · rw [List.mem_singleton] at z
          rw [z]; exact .inl rfl
    rcases key with z | z
    · exact ⟨t, z, by rw [st t, if_pos rfl]; simp⟩
    · obtain ⟨u, a, c⟩ := hK.keys kv z
      refine ⟨u, a, ?_⟩
      rw [st u]
      by_cases e : u = t
      · subst e; exact absurd hn c
      · rw [if_neg e]; exact c
  · obtain ⟨ts, s1, s2⟩ := hK.ts
    have hv := hK.at_ t
    rw [if_pos hn] at hv
    have hts : t ∉ ts := fun z => by
      have hm : (Sum.inl t, V.ref (rw t)) ∈ kvs := by rw [s1]; exact List.mem_map.mpr ⟨t, z, rfl⟩
      exact valV_not hv (List.mem_map.mpr ⟨_, hm, rfl⟩)
    refine ⟨ts ++ [t], ?_, nodup_snoc s2 hts⟩
    rw [putK_new hv, s1, List.map_append]
    refine congr (congrArg _ (List.map_congr_left fun u hu => ?_)) ?_
    · rw [if_neg (show ¬ u = t from fun z => hts (by rw [← z]; exact hu))]
    · show _ = [(Sum.inl t, V.ref (if t = t then p else rw t))]
      rw [if_pos rfl]
  · show upd _ _ _ (if u = t then p else rw u) = some (HO.dK (rowK (if u = t then l1 else ls u) (if u = t then l2 else lb u) (endS (s.ends u))))
    by_cases e' : u = t
    · subst e'
      rw [if_pos rfl, if_pos rfl, if_pos rfl, upd_ne np1, upd_ne nbp, hp, g.ends u hn]; rfl
    · have hu' := ne' u e' hu
      rw [if_neg e', if_neg e', if_neg e', upd_ne (ne_of_none (h.row u hu') n1), upd_ne (h.nb u hu')]
      exact e _ _ (h.row u hu')
  · show upd _ _ _ (if u = t then l1 else ls u) = some (HO.lst (((s.note (.doo t k)).steps u).map V.int))
    rw [st u]
    by_cases e' : u = t
    · subst e'
      rw [if_pos rfl, if_pos rfl, upd_same]; rfl
    · have hu' := ne' u e' hu
      rw [if_neg e', if_neg e', upd_ne (ne_of_none (h.st u hu') n1), upd_ne (ne_of (h.st u hu') hb (fun z => nomatch z))]
      exact e _ _ (h.st u hu')
  · show upd _ _ _ (if u = t then l2 else lb u) = some (HO.lst ((s.taken u).map V.int))
    by_cases e' : u = t
    · subst e'
      rw [if_pos rfl, upd_ne (Ne.symm n12), upd_ne nb2, h2, g.tk u (by rw [g.ends u hn]; exact nofun)]; rfl
    · have hu' := ne' u e' hu
      rw [if_neg e', upd_ne (ne_of_none (h.bk u hu') n1), upd_ne (ne_of (h.bk u hu') hb (fun z => nomatch z))]
      exact e _ _ (h.bk u hu')
  · show F (if u = t then p else rw u) ∧ F (if u = t then l1 else ls u) ∧ F (if u = t then l2 else lb u)
    by_cases e' : u = t
    · rw [if_pos e', if_pos e', if_pos e']; exact ⟨fp, f1, f2⟩
    · rw [if_neg e', if_neg e', if_neg e']; exact h.fp u (ne' u e' hu)
  · show (if u = t then p else rw u) ≠ b
    by_cases e' : u = t
    · rw [if_pos e']; exact nbp
    · rw [if_neg e']; exact h.nb u (ne' u e' hu)
  · show (if u = t then l1 else ls u) ≠ (if u = t then l2 else lb u)
    by_cases e' : u = t
    · rw [if_pos e', if_pos e']; exact n12
    · rw [if_neg e', if_neg e']; exact h.sb u (ne' u e' hu)
  · show (if u = t then p else rw u) ≠ (if v = t then p else rw v) ∧ (if u = t then l1 else ls u) ≠ (if v = t then l1 else ls v) ∧ (if u = t then l1 else ls u) ≠ (if v = t then l2 else lb v) ∧ (if u = t then l2 else lb u) ≠ (if v = t then l2 else lb v)
    by_cases e' : u = t
    · by_cases e'' : v = t
      · exact absurd (e'.trans e''.symm) huv
      · have hv' := ne' v e'' hv
        rw [if_pos e', if_pos e', if_pos e', if_neg e'', if_neg e'', if_neg e'']
        exact ⟨Ne.symm (ne_of_none (h.row v hv') np), Ne.symm (ne_of_none (h.st v hv') n1), Ne.symm (ne_of_none (h.bk v hv') n1), Ne.symm (ne_of_none (h.bk v hv') n2)⟩
    · have hu' := ne' u e' hu
      by_cases e'' : v = t
      · rw [if_neg e', if_neg e', if_neg e', if_pos e'', if_pos e'', if_pos e'']
        exact ⟨ne_of_none (h.row u hu') np, ne_of_none (h.st u hu') n1, ne_of_none (h.st u hu') n2, ne_of_none (h.bk u hu') n2⟩
      · rw [if_neg e', if_neg e', if_neg e', if_neg e'', if_neg e'', if_neg e'']
        exact h.ap u v hu' (ne' v e'' hv) huv
theorem BookAt.back (hb : H b = some (.dK kvs)) (fb : F b) (hK : BookK s kvs rw) (h : BRows F H s b rw ls lb) (hne : s.steps t ≠ []) :
    BookAt F (upd H (lb t) (.lst ((s.taken t).map V.int ++ [.int i]))) b (s.note (.back t i)) := by
  have hl := h.bk t hne
  refine ⟨kvs, rw, ls, lb, by rw [upd_ne (ne_of hb hl (fun z => nomatch z))]; exact hb, fb, ⟨hK.at_, Nat.le_succ_of_le hK.len, hK.keys, hK.ts⟩, ⟨fun u hu => ?_, fun u hu => ?_, fun u hu => ?_, h.fp, h.nb, h.sb, h.ap⟩⟩
  · rw [upd_ne (ne_of (h.row u hu) hl (fun z => nomatch z))]; exact h.row u hu
  · have : ls u ≠ lb t := by
      by_cases e : u = t
      · subst e; exact h.sb u hne
      · exact (h.ap u t hu hne e).2.2.1
    rw [upd_ne this]; exact h.st u hu
  · show _ = some (HO.lst ((if u = t then s.taken u ++ [i] else s.taken u).map V.int))
    by_cases e : u = t
    · subst e
      rw [upd_same, if_pos rfl, List.map_append]; rfl
    · rw [upd_ne (h.ap u t hu hne e).2.2.2, if_neg e]; exact h.bk u hu
theorem BookAt.fin {c : Bool} (hb : H b = some (.dK kvs)) (fb : F b) (hK : BookK s kvs rw) (h : BRows F H s b rw ls lb) (hne : s.steps t ≠ []) :
    BookAt F (upd H (rw t) (.dK (rowK (ls t) (lb t) (finS c)))) b (s.note (.fin t c)) := by
  have hl := h.row t hne
  refine ⟨kvs, rw, ls, lb, by rw [upd_ne (Ne.symm (h.nb t hne))]; exact hb, fb, ⟨hK.at_, Nat.le_succ_of_le hK.len, hK.keys, hK.ts⟩, ⟨fun u hu => ?_, fun u hu => ?_, fun u hu => ?_, h.fp, h.nb, h.sb, h.ap⟩⟩
  · show _ = some (HO.dK (rowK (ls u) (lb u) (endS (if u = t then some c else s.ends u))))
    by_cases e : u = t
    · subst e
      rw [upd_same, if_pos rfl]; rfl
    · rw [upd_ne (h.ap u t hu hne e).1, if_neg e]; exact h.row u hu
  · rw [upd_ne (ne_of (h.st u hu) hl (fun z => nomatch z))]; exact h.st u hu
  · rw [upd_ne (ne_of (h.bk u hu) hl (fun z => nomatch z))]; exact h.bk u hu
end
end E5
set_option Elab.async false
set_option linter.all false
set_option maxRecDepth 100000
set_option maxHeartbeats 4000000
namespace E5
open PySem PySem.Spec PyProof.Rows L2 Evl Y
abbrev sNote : Stmt := topS 38
abbrev sBook : Stmt := topS 39
theorem scNote : FnScope ["_law_book_here", "_law_at", "_law_event_here", "_law_row"] ["_law_book_here", "_law_at", "_law_event_here"] (defScope sNote) := ⟨rfl, rfl, rfl, by decide +kernel, rfl, by decide +kernel, by decide +kernel⟩
theorem scBook : FnScope ["_law_history_here", "_law_book_here", "_law_at", "_law_event_here"] ["_law_history_here"] (defScope sBook) := ⟨rfl, rfl, rfl, by decide +kernel, rfl, by decide +kernel, by decide +kernel⟩
section
variable {P : Program} {w : World} {K : PySem.W.Frag} {mg : Str → Option Value} {base : Heap}
def spNote : Sp := fun vs H Q _ => ∃ (b : Addr) (F : Addr → Prop) (s : S) (v : V) (e : Ev) (ks : List Str), vs = [.ref b, .int (s.n : Int), v] ∧ BookAt F H b s ∧ Good s ∧ EvAt H v e ∧ s.may ks e = true ∧ s.n < 1000 ∧ (∀ a, H a = none → F a) ∧
  ∀ H', Kp F H H' → Tx H H' → BookAt F H' b (s.note e) → Q .non H'
theorem own_note (D : Def K mg "_law_note" sNote) (OB : Own P w K mg base "_law_blank" [] 1 spBlank) : Own P w K mg base "_law_note" ["_law_book_here", "_law_at", "_law_event_here"] 2 spNote := by
  refine D.own scNote (fun vs H Q E h => ?_) (fun _ _ _ _ _ _ us hl => match us, hl with | [_, _, _], _ => rfl) ?_
  · obtain ⟨b, F, s, v, e, ks, rfl, _⟩ := h
    rfl
  · rintro X H vs Q E ⟨f, cdv, A, outer, st, rfl⟩ hr h
    obtain ⟨b, F, s, v, e, ks, rfl, ⟨kvs, rw, ls, lb, hb, fb, hK, hB⟩, g, ⟨p, rfl, hp⟩, hm, hz, fn, q⟩ := h
    have nd := scNote.nd
    have hu := hu_of hr
    have e1 : atI e.vals 1 = some (V.int e.t) := by cases e <;> rfl
    refine rx_setM 3 (em_setd (ky := Sum.inl e.t) (ev_nm 0) (ev_ixT (ev_nm 2) ev_i (st_of hp) e1) hb (by have := hK.len; omega) (EM.en (en_own0 (φ := fun v H1 => ∃ p l1 l2, v = .ref p ∧ H p = none ∧ H l1 = none ∧ H l2 = none ∧ H1 p = some (.dK (rowK l1 l2 "")) ∧ H1 l1 = some (.lst []) ∧ H1 l2 = some (.lst []) ∧ l1 ≠ l2) OB hr (by rfl)
      fun H1 e1 Q' k => ⟨rfl, fun p l1 l2 H2 e2 a1 a2 a3 a4 a5 a6 a7 => k _ _ e2 ⟨p, l1, l2, rfl, fresh_back e1 a1, fresh_back e1 a2, fresh_back e1 a3, a4, a5, a6, a7⟩⟩) fun z H1 e0 ⟨p0, l1, l2, ez, a1, a2, a3, a4, a5, a6, a7⟩ => ⟨e0 _ _ hb, fun v hv => ?_, fun hv => ?_⟩)) nd
    · rw [hK.at_] at hv
      by_cases hne : s.steps e.t = []
      · rw [if_pos hne] at hv; cases hv
      rw [if_neg hne] at hv
      obtain rfl := Option.some.inj hv
      have hB1 := hB.mono e0
      have hb1 := e0 _ _ hb
      have hrow := hB1.row _ hne
      have hst := hB1.st _ hne
      have hbk := hB1.bk _ hne
      obtain ⟨fr, fl, fk⟩ := hB.fp _ hne
      cases e with
      | doo t k =>
        refine rx_if (bb := true) (TN.is (tn_eq (ev_ixT (ev_nm 2) ev_i (st_of (e0 _ _ hp)) rfl) ev_s (by rfl)) (by decide +kernel)) (fun _ => ?_) fun z => by cases z
        refine rx_exprM (em_appendV (ev_dgetS hu (ev_nm 3) ev_s hrow (row_steps _ _ _)) (ev_nm 1) hst (by rw [List.length_map]; have := g.steps_len t; show (s.steps t).length < 100000; omega) (rx_out rfl (rx_end fun H2 e2 => ?_)))
        exact q H2 ((e0.kp.trans (Kp.upd fl)).trans e2.kp) ((e0.tx.trans (Tx.of_lst hst)).trans e2.tx) ((BookAt.doo1 hb1 fb hK hB1 hne).mono e2)
      | back t i =>
        refine rx_if (bb := false) (TN.is (tn_eq (ev_ixT (ev_nm 2) ev_i (st_of (e0 _ _ hp)) rfl) ev_s (by rfl)) (by decide +kernel)) (fun z => by cases z) fun _ => ?_
        refine rx_if (bb := true) (TN.is (tn_eq (ev_ixT (ev_nm 2) ev_i (st_of (e0 _ _ hp)) rfl) ev_s (by rfl)) (by decide +kernel)) (fun _ => ?_) fun z => by cases z
        refine rx_exprM (em_appendV (ev_dgetS hu (ev_nm 3) ev_s hrow (row_backs _ _ _)) (ev_ixT (ev_nm 2) ev_i (st_of (e0 _ _ hp)) rfl) hbk (by rw [List.length_map]; have := g.steps_len t; have := g.len t; show (s.taken t).length < 100000; omega) (rx_out rfl (rx_out rfl (rx_end fun H2 e2 => ?_))))
        exact q H2 ((e0.kp.trans (Kp.upd fk)).trans e2.kp) ((e0.tx.trans (Tx.of_lst hbk)).trans e2.tx) ((BookAt.back hb1 fb hK hB1 hne).mono e2)
      | fin t c =>
        refine rx_if (bb := false) (TN.is (tn_eq (ev_ixT (ev_nm 2) ev_i (st_of (e0 _ _ hp)) rfl) ev_s (by rfl)) (by cases c <;> decide +kernel)) (fun z => by cases z) fun _ => ?_
        refine rx_if (bb := false) (TN.is (tn_eq (ev_ixT (ev_nm 2) ev_i (st_of (e0 _ _ hp)) rfl) ev_s (by rfl)) (by cases c <;> decide +kernel)) (fun z => by cases z) fun _ => ?_
        refine rx_dputS (t := "end") hu (ev_ixT (ev_nm 2) ev_i (st_of (e0 _ _ hp)) rfl) (ev_nm 3) ev_s hrow (by show 3 < 100000; decide) ?_
        rw [row_put]
        refine rx_out rfl (rx_out rfl (rx_end fun H2 e2 => ?_))
        exact q H2 ((e0.kp.trans (Kp.upd fr)).trans e2.kp) ((e0.tx.trans (Tx.of_dK hrow)).trans e2.tx) ((BookAt.fin hb1 fb hK hB1 hne).mono e2)
    · rw [hK.at_] at hv
      by_cases hne : s.steps e.t = []
      · cases e with
        | doo t k =>
          subst ez
          have nbp : b ≠ p0 := ne_of_none hb a1
          have nb1 : b ≠ l1 := ne_of_none hb a2
          have nb2 : b ≠ l2 := ne_of_none hb a3
          have hpt : upd H1 b (.dK (putK kvs (Sum.inl t) (.ref p0))) p = some (.tup (Ev.doo t k).vals) := by rw [upd_ne (ne_of hp hb (fun z => nomatch z))]; exact e0 _ _ hp
          have hl1 : upd H1 b (.dK (putK kvs (Sum.inl t) (.ref p0))) l1 = some (.lst []) := by rw [upd_ne (Ne.symm nb1)]; exact a5
          refine rx_if (bb := true) (TN.is (tn_eq (ev_ixT (ev_nm 2) ev_i (st_of hpt) rfl) ev_s (by rfl)) (by decide +kernel)) (fun _ => ?_) fun z => by cases z
          refine rx_exprM (em_appendV (ev_dgetS (kvs := rowK l1 l2 "") hu (ev_nm 3) ev_s (by rw [upd_ne (Ne.symm nbp)]; exact a4) (row_steps _ _ _)) (ev_nm 1) hl1 (by show 0 < 100000; decide) (rx_out rfl (rx_end fun H2 e2 => ?_)))
          exact q H2 (((e0.kp.trans (Kp.upd fb)).trans (Kp.upd (fn _ a2))).trans e2.kp) (((e0.tx.trans (Tx.of_dK (e0 _ _ hb))).trans (Tx.of_lst hl1)).trans e2.tx) ((BookAt.doo2 g hb fb hK hB hne e0 a1 a2 a3 (fn _ a1) (fn _ a2) (fn _ a3) a4 a5 a6 a7).mono e2)
        | back t i =>
          rw [S.may, Bool.and_eq_true, Bool.and_eq_true, decide_eq_true_eq, decide_eq_true_eq] at hm
          have hne : s.steps t = [] := hne
          have := hm.2.1
          rw [hne] at this
          exact nomatch this
        | fin t c =>
          rw [S.may, Bool.and_eq_true, Bool.not_eq_true', decide_eq_false_iff_not] at hm
          exact absurd hne hm.1
      · rw [if_neg hne] at hv; cases hv
/-- the book of a history -/
def spBook : Sp := fun vs H Q _ => ∃ (hv : Addr) (ks : List Str) (evs : List Ev), vs = [.ref hv] ∧ HistAt H hv evs ∧ Valid ks evs ∧ evs.length < 1000 ∧ ∀ (b : Addr) (H' : Hp), Ex H H' → BookAt (fun a => H a = none) H' b (run evs) → Q (.ref b) H'
theorem own_book (D : Def K mg "_law_book" sBook) (ON : Own P w K mg base "_law_note" ["_law_book_here", "_law_at", "_law_event_here"] 2 spNote) (me : mg "enumerate" = none) : Own P w K mg base "_law_book" ["_law_history_here"] 3 spBook := by
  refine D.own scBook (fun vs H Q E h => ?_) (fun _ _ _ _ _ _ us hl => match us, hl with | [_], _ => rfl) ?_
  · obtain ⟨hv, ks, evs, rfl, _⟩ := h
    rfl
  · rintro X H vs Q E ⟨f, cdv, A, outer, st, rfl⟩ hr h
    obtain ⟨hv, ks, evs, rfl, ⟨as, hh, hall⟩, hV, hz, q⟩ := h
    have nd := scBook.nd
    refine rx_setM 1 (em_dict0 fun b nb => ?_) nd
    have e0 := Ex.new (o := .dK []) nb
    refine rx_forET (xs := as) 2 3 PassesOwn.never rfl (by rfl) me (ev_nm 0) (st_of (e0 _ _ hh)) (fun n σ' Hb => ∃ t1 t2, σ' = [some (.ref hv), some (.ref b), t1, t2] ∧ Ex H Hb ∧ BookAt (fun a => H a = none) Hb b (run (evs.take n))) ⟨none, none, rfl, e0, BookAt.zero upd_same nb⟩ (fun n σ' Hb _ ⟨_, _, _, eb, _⟩ => st_of (eb _ _ hh)) ?_ ?_ nd
    · rintro n v σ' Hb hv' ⟨t1, t2, rfl, eb, rb⟩
      obtain ⟨e, he, hev⟩ := hall.at hv'
      obtain ⟨ho, hm⟩ := hV n e he
      have g := (hV.take n).good
      have hl : n < evs.length := (List.getElem?_eq_some_iff.mp he).1
      have hn : (run (evs.take n)).n = n := by rw [run_n, List.length_take]; omega
      refine rx_exprM (em_own ON hr (by rfl) (AM.av (AV.cons (ev_nm 1) (AV.cons (ev_nm 2) (AV.cons (ev_nm 3) AV.nil))) fun H2 e2 => ⟨b, _, run (evs.take n), v, e, ks, by rw [hn], rb.mono e2, g, hev.tx (eb.trans e2).tx, hm, by omega, fun a ha => fresh_back (eb.trans e2) ha, fun H3 k3 t3 b3 => ⟨H3, Ex.refl _, rx_up rfl ⟨_, _, rfl, Ex.ofKp (eb.trans e2) k3, ?_⟩⟩⟩))
      rw [run_more he]; exact b3
    · rintro σ' Hb ⟨t1, t2, rfl, eb, rb⟩
      rw [hall.len, List.take_length] at rb
      exact rx_ret (ev_nm 1) fun H1 e1 => q b H1 (eb.trans e1) (rb.mono e1)
/-- a row of a book -/
def RowAt (H : Hp) (v : V) (s : S) (t : Int) : Prop := ∃ p ls lb, v = .ref p ∧ H p = some (.dK (rowK ls lb (endS (s.ends t)))) ∧ H ls = some (.lst ((s.steps t).map V.int)) ∧ H lb = some (.lst ((s.taken t).map V.int))
section
variable {X : Cx} {σ : L2.St} {H : Hp} {o a : Expr} {b : Addr} {s : S} {t : Int} {F : Addr → Prop} {apos cpos q1 q2 : Pos}
theorem en_row (OB : Own X.prog X.w X.K X.mg X.base "_law_blank" [] 1 spBlank) (hr : Room 1 X.A) (hg : Gl X "_law_blank") (g : Good s) (ho : EV X o σ H (.ref b)) (ha : EV X a σ H (.int t)) (hb : BookAt F H b s) (m : M2 X o "get" apos a (.Call (.Name "_law_blank" q1) [] [] q2) cpos := by exact ⟨rfl, rfl, rfl, rfl⟩) :
    EN X (.Call (.Attribute o "get" apos) [a, .Call (.Name "_law_blank" q1) [] [] q2] [] cpos) σ H fun v H2 => RowAt H2 v s t := by
  obtain ⟨kvs, rw, ls, lb, hb, fb, hK, hB⟩ := hb
  refine en_get2 (ky := Sum.inl t) (hu_of hr) ho ha hb (en_own0 (φ := fun v H1 => ∃ p l1 l2, v = .ref p ∧ H1 p = some (.dK (rowK l1 l2 "")) ∧ H1 l1 = some (.lst []) ∧ H1 l2 = some (.lst [])) OB hr hg fun H1 e1 Q' k => ⟨rfl, fun p l1 l2 H2 e2 a1 a2 a3 a4 a5 a6 a7 => k _ _ e2 ⟨p, l1, l2, rfl, a4, a5, a6⟩⟩) (fun z H2 e2 ⟨p, l1, l2, ez, c1, c2, c3⟩ => ?_) m
  rw [hK.at_]
  by_cases hne : s.steps t = []
  · rw [if_pos hne]
    refine ⟨p, l1, l2, ez, ?_, ?_, ?_⟩
    · rw [g.ends t hne]; exact c1
    · rw [hne]; exact c2
    · rw [g.tk t (by rw [g.ends t hne]; exact nofun)]; exact c3
  · rw [if_neg hne]
    exact ⟨rw t, ls t, lb t, rfl, e2 _ _ (hB.row t hne), e2 _ _ (hB.st t hne), e2 _ _ (hB.bk t hne)⟩
end
end
end E5
set_option Elab.async false
set_option linter.all false
set_option maxRecDepth 100000
set_option maxHeartbeats 4000000
namespace Y
open PySem PySem.Spec PyProof.Rows L2 Evl
section
variable {X : Cx} {σ : L2.St} {H H' : Hp} {v w x y z : V} {e a b c f o : Expr} {i j k : Nat} {n m : Int} {pos pos' apos cpos p1 p2 p3 q1 q2 px py pt : Pos} {l p r C dx : Addr} {xs ys : List V} {φ ψ : V → Hp → Prop} {bb : Bool}
/-- x in a list that is told -/
theorem ev_inN (ha : EV X a σ H x) (hb : EN X b σ H fun v H2 => ∃ r xs, v = .ref r ∧ (SqL X.K H2 r xs ∨ SqT X.K H2 r xs) ∧ xs.all flatV = true ∧ inV x xs = bb) (fx : flatV x = true) (hm : behindInMarks .In b = false := by rfl) : EV X (.Compare a [.In] [b] pos) σ H (.bl bb) :=
  EN.of (pe_cmpR op_in_seq pe_sem pe_sem hm) fun H1 e1 => EV.ev ha H1 e1 _ fun H2 e2 => sem_mono (hb H2 (e1.trans e2)) fun v H3 ⟨e3, r, xs, ev, h, hf, hi⟩ => ⟨r, xs, ev, h, fx, hf, e2.trans e3, by rw [← hi]; rfl⟩
end
end Y
namespace E5
open PySem PySem.Spec PyProof.Rows L2 Evl Y
theorem end_none (o : Option Bool) : decide (V.str (endS o) = V.str "") = o.isNone := by
  cases o with
  | none => rfl
  | some b => cases b <;> decide +kernel
theorem end_drop (o : Option Bool) : decide (V.str (endS o) = V.str "drop") = decide (o = some false) := by
  cases o with
  | none => decide +kernel
  | some b => cases b <;> decide +kernel
theorem end_keep (o : Option Bool) : decide (V.str (endS o) = V.str "keep") = decide (o = some true) := by
  cases o with
  | none => decide +kernel
  | some b => cases b <;> decide +kernel
theorem isEmpty_dec (l : List Int) : l.isEmpty = decide (l = []) := by cases l <;> rfl
end E5
set_option Elab.async false
set_option linter.all false
set_option maxRecDepth 100000
set_option maxHeartbeats 4000000
namespace E5
open PySem PySem.Spec PyProof.Rows L2 Evl Y
abbrev sEvent : Stmt := topS 40
abbrev nEvent : List Str := ["_law_deck_here", "_law_table_here", "_law_book_here", "_law_people", "_law_t", "_law_row", "_law_way", "_law_left_here", "_law_i"]
abbrev psEvent : List Str := ["_law_deck_here", "_law_table_here", "_law_book_here", "_law_people"]
theorem scEvent : FnScope nEvent psEvent (defScope sEvent) := ⟨rfl, rfl, rfl, by decide +kernel, rfl, by decide +kernel, by decide +kernel⟩
theorem atI_last {α : Type} {l : List α} (h : l ≠ []) : ∃ x, x ∈ l ∧ atI l (-1) = some x := by
  have hp : 0 < l.length := List.length_pos_iff.mpr h
  refine ⟨l[l.length - 1], List.getElem_mem _, ?_⟩
  have e : ixN l.length (-1) = some (l.length - 1) := by
    unfold ixN
    rw [if_neg (by omega), if_pos (by omega)]
    congr 1
    omega
  unfold atI
  rw [e]
  exact List.getElem?_eq_getElem (by omega)
theorem Wd.ok {k : Str} (h : Wd k) : PyData.strOk k = true := by
  unfold PyData.strOk
  rw [Array.all_eq_true']
  intro c hc
  have := h.2.2 c (Array.mem_toList_iff.mpr hc)
  exact decide_eq_true (by omega)
theorem flat_words {ks : List Str} (h : ∀ k ∈ ks, Wd k) : ∀ x ∈ ks.map V.str, (∃ i, x = V.int i) ∨ ∃ t, x = V.str t ∧ PyData.strOk t = true := fun x hx => by
  obtain ⟨k, hk, rfl⟩ := List.mem_map.mp hx
  exact .inr ⟨k, rfl, (h k hk).ok⟩
section
variable {P : Program} {w : World} {K : PySem.W.Frag} {mg : Str → Option Value} {base : Heap}
/-- the kinds of a table, some words -/
structure KindsAt (H : Hp) (tv : Addr) (ks : List Str) : Prop where
  ex : ∃ kv c, H tv = some (.tup [.ref kv, c]) ∧ H kv = some (.tup (ks.map V.str))
  ne : ks ≠ []
  few : ks.length ≤ 12
  wd : ∀ k ∈ ks, Wd k
theorem KindsAt.tx {H H' : Hp} {tv : Addr} {ks : List Str} (h : KindsAt H tv ks) (x : Tx H H') : KindsAt H' tv ks := ⟨let ⟨k, c, a, b⟩ := h.ex; ⟨k, c, x _ _ a, x _ _ b⟩, h.ne, h.few, h.wd⟩
structure People (ts : List Int) : Prop where
  ne : ts ≠ []
  few : ts.length ≤ 100
  pos : ∀ t ∈ ts, 0 ≤ t
  top : ∀ t ∈ ts, t < 10 ^ 40
def spEvent (P : Program) (w : World) (K : PySem.W.Frag) : Sp := fun vs H Q _ => ∃ (dk tv b pl : Addr) (ks : List Str) (F : Addr → Prop) (s : S) (ts : List Int), vs = [.ref dk, .ref tv, .ref b, .ref pl] ∧ Deck P w H dk ∧ KindsAt H tv ks ∧ BookAt F H b s ∧ Good s ∧ s.n < 1000 ∧ SqL K H pl (ts.map V.int) ∧ People ts ∧
  (∀ (p : Addr) (H' : Hp), Ex H H' → H' p = some (.tup []) → Q (.ref p) H') ∧ ∀ (v : V) (e : Ev) (H' : Hp), Ex H H' → EvAt H' v e → e.ok → s.may ks e = true → e.t < 10 ^ 40 → Q v H'
theorem own_event (D : Def K mg "_law_event" sEvent) (OW : Own P w K mg base "_law_draw" psDraw 1 (spDraw P w)) (OP : Own P w K mg base "_law_pick" psPick 2 (spPick P w K)) (OB : Own P w K mg base "_law_blank" [] 1 spBlank) (ml : mg "list" = none) : Own P w K mg base "_law_event" psEvent 3 (spEvent P w K) := by
  refine D.own scEvent (fun vs H Q E h => ?_) (fun _ _ _ _ _ _ us hl => match us, hl with | [_, _, _, _], _ => rfl) ?_
  · obtain ⟨dk, tv, b, pl, ks, F, s, ts, rfl, _⟩ := h
    rfl
  · rintro X H vs Q E ⟨f, cdv, A, outer, st, rfl⟩ hr h
    obtain ⟨dk, tv, b, pl, ks, F, s, ts, rfl, hd, hk, hB, g, hz, hpl, pp, q0, q1⟩ := h
    have nd := scEvent.nd
    have hu := hu_of hr
    have hr1 : Room 1 _ := hr.mono (by decide)
    obtain ⟨kv, c, ht, hks⟩ := hk.ex
    refine rx_setM 4 (EM.en (en_pick (xs := ts.map V.int) (φ := fun v _ => ∃ t, v = .int t ∧ t ∈ ts) OP hr (by rfl) (ev_nm 0) (srcL (ev_nm 3) hpl) hd (by rw [List.length_map]; exact List.length_pos_iff.mpr pp.ne) (by rw [List.length_map]; have := pp.few; omega) (fun v H2 hv _ => by
      obtain ⟨t, ht, e⟩ := List.mem_map.mp hv
      exact ⟨t, e.symm, ht⟩)) fun v H1 e1 ⟨t, ev, htm⟩ => ?_) nd
    subst ev
    have t0 := pp.pos t htm
    have t1 := pp.top t htm
    refine rx_tup2 5 6 (em_tup (AM.cons (EM.en (en_row (s := s) (t := t) OB hr1 (by rfl) g (ev_nm 2) (ev_nm 4) (hB.mono e1)) fun vr H2 e2 hrow => AM.cons (EM.en (en_draw (n := 8) OW hr1 (by rfl) (ev_nm 0) ev_i (hd.mono (e1.trans e2)) (by decide) (by decide)) fun vw H3 e3 ⟨way, ew, w0, w1⟩ => AM.nil ⟨by show 2 ≤ 100000; decide, fun pt hpt => ⟨pt, _, _, rfl, st_of upd_same, ?_⟩⟩)))) rfl nd
    obtain ⟨rp, ls, lb, evr, h1, h2, h3⟩ := hrow
    subst evr ew
    have e4 : Ex H2 (upd H3 pt (.tup [.ref rp, .int way])) := e3.trans (Ex.new hpt)
    have eH : Ex H (upd H3 pt (.tup [.ref rp, .int way])) := (e1.trans e2).trans e4
    revert e4 eH
    generalize upd H3 pt (.tup [.ref rp, .int way]) = H4
    intro e4 eH
    have h1 := e4 _ _ h1
    have h2 := e4 _ _ h2
    have h3 := e4 _ _ h3
    refine rx_setLt (xs := (s.steps t).map V.int) (own := [("_law_i", 8)]) 7 8 rfl nd (blkOk_by (N := nEvent) (sc := defScope sEvent) (by decide +kernel)) (srcL (ev_dgetS hu (ev_nm 5) ev_s h1 (row_steps _ _ _)) (sq_of h2)) (by rw [List.length_map]; have := g.steps_len t; omega)
      (fun _ _ _ _ _ => pg_name (i := 8) nd rfl (Or.inl rfl)) (fun v => rfl) (fun n acc _ => acc = (((s.steps t).take n).filter fun i => !decide (i ∈ s.taken t)).map V.int) (fun _ _ _ _ _ z => z) rfl ?_ ?_
    · intro n x acc Hb st' H' C' cl fp hx eb ea
      rw [List.getElem?_map] at hx
      obtain ⟨i, hi, rfl⟩ := Option.map_eq_some_iff.mp hx
      refine td_of (TN.is (tn_notIn (ev_nm 8) (ev_dgetS (by exact hu) (ev_nm 5) ev_s (eb _ _ h1) (row_backs _ _ _)) (.inl (sq_of (eb _ _ h3))) (by rfl) (flat_ints _)) (congrArg (!·) in_ints)) fun H5 e5 => ?_
      rw [take_more hi, List.filter_append, List.map_append]
      by_cases hj : i ∈ s.taken t
      · rw [decide_eq_true hj]
        refine iteF ?_
        rw [ea]
        simp [hj]
      · rw [decide_eq_false hj]
        refine iteT fun _ _ _ _ _ => EN.weak (ev_nm 8) fun v H3 _ ev => ?_
        rw [ev, ea]
        simp [hj]
    intro Dl acc H5 e5 hn hD hl ha
    rw [List.length_map, List.take_length] at ha
    generalize hleft : (s.steps t).filter (fun i => !decide (i ∈ s.taken t)) = left at ha
    subst ha
    have hmem : ∀ i ∈ left, i ∈ s.steps t ∧ i ∉ s.taken t := fun i hi => by
      rw [← hleft, List.mem_filter] at hi
      exact ⟨hi.1, by simpa using hi.2⟩
    have hlen : left.length ≤ 1000 := by rw [← hleft]; exact Nat.le_trans (List.length_filter_le _ _) (by have := g.steps_len t; omega)
    have h1 := e5 _ _ h1
    have h2 := e5 _ _ h2
    have eH5 := eH.trans e5
    refine rx_when (tn_and (TN.is (tn_eq (ev_dgetS hu (ev_nm 5) ev_s h1 (row_end _ _ _)) ev_s (by rfl)) (end_drop _)) fun _ => tn_neNil hr.units (ev_nm 7) (sq_of hD)) (fun hc => ?_) fun hc => ?_
    · rw [Bool.and_eq_true, decide_eq_true_eq, isEmpty_dec, Bool.not_eq_true', decide_eq_false_iff_not] at hc
      obtain ⟨hend, hne⟩ := hc
      obtain ⟨x, hx, hxl⟩ := atI_last (l := left.map V.int) (fun z => hne (List.map_eq_nil_iff.mp z))
      obtain ⟨i, hi, rfl⟩ := List.mem_map.mp hx
      refine rx_retM (EM.en (en_tup3N (w := .int t) (φ := fun v _ => ∃ i, v = .int i ∧ i ∈ left) (ev_s (n := "back")) (ev_nm 4) (en_if (tn_lt (ev_nm 6) ev_i) (fun _ => EN.weak (ev_ixL (ev_nm 7) (ev_neg ev_i) (sq_of hD) hxl) fun v _ _ ev => ⟨i, ev, hi⟩) fun _ => en_pick (xs := left.map V.int) OP hr (by rfl) (ev_nm 0) (srcL (ev_nm 7) (sq_of hD)) (hd.mono eH5) (by rw [List.length_map]; exact List.length_pos_iff.mpr hne) (by rw [List.length_map]; omega) (fun v H2 hv _ => by
        obtain ⟨t, ht, e⟩ := List.mem_map.mp hv
        exact ⟨t, e.symm, ht⟩))) fun v H6 e6 ⟨p, z, H7, ev, hp, ⟨j, ez, hj⟩, _⟩ H8 e8 => ?_)
      subst ev ez
      obtain ⟨j1, j2⟩ := hmem j hj
      exact q1 (.ref p) (.back t j) H8 ((eH5.trans e6).trans e8) ⟨p, rfl, e8 _ _ hp⟩ ⟨t0, (g.lt t j j1).1⟩ (by rw [S.may, decide_eq_true hend, decide_eq_true j1, decide_eq_false j2]; rfl) t1
    refine rx_when (TW.tn (tw_and (TN.is (tn_eq (ev_dgetS hu (ev_nm 5) ev_s h1 (row_end _ _ _)) ev_s (by rfl)) (end_none _)) fun _ => tw_and (tn_neNil hr.units (ev_dgetS hu (ev_nm 5) ev_s h1 (row_steps _ _ _)) (sq_of h2)) fun _ => tw_and1 (tn_gt (ev_nm 6) ev_i))) (fun hc => ?_) fun _ => ?_
    · rw [Bool.and_eq_true, Bool.and_eq_true, isEmpty_dec, Bool.not_eq_true', decide_eq_false_iff_not] at hc
      obtain ⟨hend, hne, _⟩ := hc
      refine rx_retM (EM.en (en_tupV (vs := [.str (finS (decide (way = 6))), .int t]) (AV.cons (ev_if (v := .str (finS (decide (way = 6)))) (tn_eq (ev_nm 6) ev_i (by rfl)) (fun z => EV.is ev_s ?_) fun z => EV.is ev_s ?_) (AV.cons (ev_nm 4) AV.nil)) (by show 2 ≤ 100000; decide)) fun v H6 e6 ⟨p, ev, _, hp⟩ H8 e8 => ?_)
      · rw [decide_eq_true_eq] at z
        rw [V.int.inj z]; rfl
      · rw [decide_eq_false_iff_not] at z
        rw [decide_eq_false fun y => z (by rw [y])]; rfl
      · subst ev
        exact q1 (.ref p) (.fin t (decide (way = 6))) H8 ((eH5.trans e6).trans e8) ⟨p, rfl, e8 _ _ hp⟩ t0 (by rw [S.may, hend, decide_eq_false hne]; rfl) t1
    · refine rx_retM (EM.en (en_if (φ := fun v H' => (∃ p, v = .ref p ∧ H' p = some (.tup [])) ∨ ∃ k, EvAt H' v (.doo t k) ∧ s.may ks (.doo t k) = true) (tn_and (TN.is (tn_eq (ev_dgetS hu (ev_nm 5) ev_s h1 (row_end _ _ _)) ev_s (by rfl)) (end_none _)) fun _ => tn_neUnit hr.units (ev_ixT (ev_nm 1) ev_i (st_of (eH5 _ _ ht)) (by rfl)) (st_of (eH5 _ _ hks)) (flat_words hk.wd)) (fun hc => ?_) fun _ => ?_) fun v H6 e6 hv H8 e8 => ?_)
      · rw [Bool.and_eq_true] at hc
        refine EN.weak (en_tup3N (w := .int t) (φ := fun v _ => ∃ k, v = .str k ∧ k ∈ ks) (ev_s (n := "do")) (ev_nm 4) (en_pick (xs := ks.map V.str) OP hr (by rfl) (ev_nm 0) (EN.weak (en_listT (xs := ks.map V.str) (by rfl) ml (EN.weak (ev_ixT (ev_nm 1) ev_i (st_of (eH5 _ _ ht)) (by rfl)) fun v H6 e6 ev => ⟨kv, ev, .inr (st_of ((eH5.trans e6) _ _ hks))⟩)) fun v H6 e6 ⟨p, ev, _, hp⟩ => ⟨p, ev, sq_of hp⟩) (hd.mono eH5) (by rw [List.length_map]; exact List.length_pos_iff.mpr hk.ne) (by rw [List.length_map]; have := hk.few; omega) (fun v H2 hv _ => by
          obtain ⟨t, ht, e⟩ := List.mem_map.mp hv
          exact ⟨t, e.symm, ht⟩))) fun v H6 e6 ⟨p, z, H7, ev, hp, ⟨k, ez, hk'⟩, _⟩ => .inr ⟨k, ⟨p, ev, ?_⟩, ?_⟩
        · rw [hp, ez]; rfl
        · rw [S.may, decide_eq_true hk', hc.1]; rfl
      · exact EN.weak (en_tupV AV.nil (Nat.zero_le _)) fun v H6 e6 ⟨p, ev, _, hp⟩ => .inl ⟨p, ev, hp⟩
      · rcases hv with ⟨p, ev, hp⟩ | ⟨k, hev, hm⟩
        · subst ev
          exact q0 p H8 ((eH5.trans e6).trans e8) (e8 _ _ hp)
        · exact q1 v (.doo t k) H8 ((eH5.trans e6).trans e8) (hev.tx e8.tx) t0 hm t1
end
end E5
set_option Elab.async false
set_option linter.all false
set_option maxRecDepth 100000
set_option maxHeartbeats 4000000
namespace E5
open PySem PySem.Spec PyProof.Rows L2 Evl Y
abbrev sHistory : Stmt := topS 41
abbrev nHistory : List Str := ["_law_deck_here", "_law_table_here", "_law_many", "_law_people", "_law_found", "_law_book_here", "_law_turn", "_law_t", "_law_event_here"]
abbrev psHistory : List Str := ["_law_deck_here", "_law_table_here", "_law_many"]
theorem scHistory : FnScope nHistory psHistory (defScope sHistory) := ⟨rfl, rfl, rfl, by decide +kernel, rfl, by decide +kernel, by decide +kernel⟩
theorem BookAt.out {F : Addr → Prop} {H : Hp} {b p : Addr} {s : S} {o : HO} (h : BookAt F H b s) (n : ¬ F p) : BookAt F (upd H p o) b s := by
  obtain ⟨kvs, rw, ls, lb, hb, fb, hK, hB⟩ := h
  have ne : ∀ {a : Addr}, F a → a ≠ p := fun f z => n (z ▸ f)
  refine ⟨kvs, rw, ls, lb, by rw [upd_ne (ne fb)]; exact hb, fb, hK, ⟨fun t ht => ?_, fun t ht => ?_, fun t ht => ?_, hB.fp, hB.nb, hB.sb, hB.ap⟩⟩
  · rw [upd_ne (ne (hB.fp t ht).1)]; exact hB.row t ht
  · rw [upd_ne (ne (hB.fp t ht).2.1)]; exact hB.st t ht
  · rw [upd_ne (ne (hB.fp t ht).2.2)]; exact hB.bk t ht
theorem ev_flat {ks : List Str} {s : S} {e : Ev} (hw : ∀ k ∈ ks, Wd k) (hm : s.may ks e = true) : ∀ x ∈ e.vals, (∃ i, x = V.int i) ∨ ∃ t, x = V.str t ∧ PyData.strOk t = true := by
  have h1 : PyData.strOk "do" = true := by decide +kernel
  have h2 : PyData.strOk "back" = true := by decide +kernel
  have h3 : ∀ b, PyData.strOk (finS b) = true := fun b => by cases b <;> decide +kernel
  cases e with
  | doo t k =>
    rw [S.may, Bool.and_eq_true, decide_eq_true_eq] at hm
    intro x hx
    rcases List.mem_cons.mp hx with z | hx
    · exact .inr ⟨_, z, h1⟩
    rcases List.mem_cons.mp hx with z | hx
    · exact .inl ⟨_, z⟩
    rcases List.mem_cons.mp hx with z | hx
    · exact .inr ⟨_, z, (hw k hm.1).ok⟩
    · exact nomatch hx
  | back t i =>
    intro x hx
    rcases List.mem_cons.mp hx with z | hx
    · exact .inr ⟨_, z, h2⟩
    rcases List.mem_cons.mp hx with z | hx
    · exact .inl ⟨_, z⟩
    rcases List.mem_cons.mp hx with z | hx
    · exact .inl ⟨_, z⟩
    · exact nomatch hx
  | fin t b =>
    intro x hx
    rcases List.mem_cons.mp hx with z | hx
    · exact .inr ⟨_, z, h3 b⟩
    rcases List.mem_cons.mp hx with z | hx
    · exact .inl ⟨_, z⟩
    · exact nomatch hx
theorem vals_ne (e : Ev) : (!e.vals.isEmpty) = true := by cases e <;> rfl
section
variable {P : Program} {w : World} {K : PySem.W.Frag} {mg : Str → Option Value} {base : Heap}
def spHistory (P : Program) (w : World) : Sp := fun vs H Q _ => ∃ (dk tv : Addr) (m : Int) (ks : List Str), vs = [.ref dk, .ref tv, .int m] ∧ Deck P w H dk ∧ KindsAt H tv ks ∧ 0 ≤ m ∧ m ≤ 100 ∧
  ∀ (hv : Addr) (evs : List Ev) (H' : Hp), Ex H H' → HistAt H' hv evs → Valid ks evs → (evs.length : Int) ≤ m → (∀ e ∈ evs, e.t < 10 ^ 40) → Q (.ref hv) H'
theorem own_history (D : Def K mg "_law_history" sHistory) (OP : Own P w K mg base "_law_pick" psPick 2 (spPick P w K)) (OE : Own P w K mg base "_law_event" psEvent 3 (spEvent P w K)) (ON : Own P w K mg base "_law_note" ["_law_book_here", "_law_at", "_law_event_here"] 2 spNote)
    (mr : mg "range" = none) (ml : mg "len" = none) (mt : mg "tuple" = none) : Own P w K mg base "_law_history" psHistory 4 (spHistory P w) := by
  refine D.own scHistory (fun vs H Q E h => ?_) (fun _ _ _ _ _ _ us hl => match us, hl with | [_, _, _], _ => rfl) ?_
  · obtain ⟨dk, tv, m, ks, rfl, _⟩ := h
    rfl
  · rintro X H vs Q E ⟨f, cdv, A, outer, st, rfl⟩ hr h
    obtain ⟨dk, tv, m, ks, rfl, hd, hk, m0, m1, q⟩ := h
    have nd := scHistory.nd
    have hu := hu_of hr
    have hr2 : Room 2 _ := hr.mono (by decide)
    refine rx_par3 3 4 5 (AM.cons (em_lstV AV.nil (Nat.zero_le _) fun pl npl => AM.cons (em_lstV AV.nil (Nat.zero_le _) fun fl nfl => AM.cons (em_dict0 fun bl nbl => AM.nil ⟨_, _, _, rfl, ?_⟩)))) rfl nd (by decide) (by decide) (by decide)
    have npf : pl ≠ fl := fun z => by rw [← z, upd_same] at nfl; cases nfl
    have hfl : H fl = none := by rw [upd_ne (Ne.symm npf)] at nfl; exact nfl
    have nfb : fl ≠ bl := fun z => by rw [← z, upd_same] at nbl; cases nbl
    have npb : pl ≠ bl := fun z => by rw [← z, upd_ne npf, upd_same] at nbl; cases nbl
    have hbl : H bl = none := by rw [upd_ne (Ne.symm nfb), upd_ne (Ne.symm npb)] at nbl; exact nbl
    generalize eA : upd (upd (upd H pl (.lst [])) fl (.lst [])) bl (.dK []) = HA
    have eHA : Ex H HA := by rw [← eA]; exact ((Ex.new npl).trans (Ex.new nfl)).trans (Ex.new nbl)
    have hAp : HA pl = some (.lst []) := by rw [← eA, upd_ne npb, upd_ne npf, upd_same]
    have hAf : HA fl = some (.lst []) := by rw [← eA, upd_ne nfb, upd_same]
    have hAb : HA bl = some (.dK []) := by rw [← eA, upd_same]
    refine rx_forRN 6 PassesOwn.never rfl (by rfl) mr (en_pick (φ := fun v _ => ∃ n, v = .int n ∧ 2 ≤ n ∧ n ≤ 6) OP hr2 (by rfl) (ev_nm 0) (srcN (en_lstV (AV.cons ev_i (AV.cons ev_i (AV.cons ev_i (AV.cons ev_i (AV.cons ev_i (AV.cons ev_i AV.nil)))))) (by show 6 ≤ 100000; decide))) (hd.mono eHA) (by show 1 ≤ 6; decide) (by show 6 < 1000000; decide) (fun v H2 hv _ => by
      simp only [List.mem_cons, List.not_mem_nil, or_false] at hv
      rcases hv with rfl | rfl | rfl | rfl | rfl | rfl <;> exact ⟨_, rfl, by decide, by decide⟩)) (fun v H2 e2 ⟨n, ev, n2, n6⟩ => ⟨n, fun t σ' Hb => ∃ (ts : List Int) (x1 x2 : Option V), σ' = [some (.ref dk), some (.ref tv), some (.int m), some (.ref pl), some (.ref fl), some (.ref bl), x1, x2, none] ∧ Ex H Hb ∧ Hb pl = some (.lst (ts.map V.int)) ∧ Hb fl = some (.lst []) ∧ Hb bl = some (.dK []) ∧ ts.length = t ∧ ∀ t ∈ ts, 0 ≤ t ∧ t < 10 ^ 40, ev, by omega, by omega,
        ⟨[], none, none, rfl, eHA.trans e2, e2 _ _ hAp, e2 _ _ hAf, e2 _ _ hAb, rfl, fun _ z => nomatch z⟩, ?_, ?_⟩) nd
    · rintro t σ' Hb ht ⟨ts, x1, x2, rfl, eb, hp, hf, hb, hl, hpos⟩
      refine rx_setM 7 (EM.en (en_pick (φ := fun v _ => ∃ n, v = .int n ∧ 0 ≤ n ∧ n < 10 ^ 40) OP hr2 (by rfl) (ev_nm 0) (srcN (en_lstV (AV.cons ev_i (AV.cons ev_i (AV.cons ev_i (AV.cons ev_i (AV.cons ev_i (AV.cons ev_i (AV.cons ev_i (AV.cons ev_i (AV.cons ev_i (AV.cons ev_i (AV.cons ev_i (AV.cons (ev_pow ev_i ev_i ?_) (AV.cons (ev_pow ev_i ev_i ?_) AV.nil))))))))))))) (by show 13 ≤ 100000; decide))) (hd.mono eb) (by show 1 ≤ 13; decide) (by show 13 < 1000000; decide) (fun v H2 hv _ => by
        simp only [List.mem_cons, List.not_mem_nil, or_false] at hv
        rcases hv with rfl | rfl | rfl | rfl | rfl | rfl | rfl | rfl | rfl | rfl | rfl | rfl | rfl <;> exact ⟨_, rfl, by decide +kernel⟩)) fun v H3 e3 ⟨x, ev, x0⟩ => ?_) nd
      · exact ⟨by decide, by decide, by decide⟩
      · exact ⟨by decide, by decide, by decide⟩
      subst ev
      have hp3 := e3 _ _ hp
      refine rx_exprM (em_appendV (v := .int (if x ∈ ts then 20 + (t : Int) else x)) (ev_nm 3) (ev_if (tn_notIn (ev_nm 7) (ev_nm 3) (.inl (sq_of hp3)) (by rfl) (flat_ints ts)) (fun z => EV.is (ev_nm 7) ?_) fun z => EV.is (ev_add ev_i (ev_nm 6)) ?_) hp3 (by rw [List.length_map]; omega) (rx_up rfl ⟨ts ++ [if x ∈ ts then 20 + (t : Int) else x], _, _, rfl, Ex.mut (eb.trans e3) npl, ?_, ?_, ?_, by rw [List.length_append, hl]; rfl, ?_⟩))
      · rw [in_ints, Bool.not_eq_true', decide_eq_false_iff_not] at z
        rw [if_neg z]
      · rw [in_ints, Bool.not_eq_false', decide_eq_true_eq] at z
        rw [if_pos z]
      · rw [upd_same, List.map_append]; rfl
      · rw [upd_ne (Ne.symm npf)]; exact e3 _ _ hf
      · rw [upd_ne (Ne.symm npb)]; exact e3 _ _ hb
      · intro y hy
        rcases List.mem_append.mp hy with z | z
        · exact hpos y z
        · rw [List.mem_singleton] at z
          rw [z]
          by_cases hx : x ∈ ts
          · rw [if_pos hx]; exact ⟨by omega, by omega⟩
          · rw [if_neg hx]; exact x0
    · rintro σ' Hb ⟨ts, x1, x2, rfl, eb, hp, hf, hb, hl, hpos⟩
      have pp : People ts := ⟨fun z => by rw [z] at hl; simp at hl; omega, by omega, fun t ht => (hpos t ht).1, fun t ht => (hpos t ht).2⟩
      refine rx_forR 6 PassesOwn.never rfl (by rfl) mr (ev_nm 2) ⟨m0, by omega⟩ (fun t σ' Hc => ∃ (as : List V) (evs : List Ev) (x1 x2 x3 : Option V), σ' = [some (.ref dk), some (.ref tv), some (.int m), some (.ref pl), some (.ref fl), some (.ref bl), x1, x2, x3] ∧ Ex H Hc ∧ Hc pl = some (.lst (ts.map V.int)) ∧ Hc fl = some (.lst as) ∧ All2 (EvAt Hc) as evs ∧ BookAt (fun a => H a = none ∧ a ≠ pl ∧ a ≠ fl) Hc bl (run evs) ∧ Valid ks evs ∧ evs.length ≤ t ∧ ∀ e ∈ evs, e.t < 10 ^ 40)
        ⟨[], [], x1, x2, none, rfl, eb, hp, hf, True.intro, BookAt.zero hb ⟨hbl, Ne.symm npb, Ne.symm nfb⟩, Valid.nil, Nat.le_refl _, fun _ z => nomatch z⟩ ?_ ?_ nd
      · rintro t σ' Hc ht ⟨as, evs, y1, y2, y3, rfl, ec, hp, hf, hall, hB, hV, hlen, htop⟩
        have g := hV.good
        have hz : (run evs).n < 1000 := by rw [run_n]; omega
        refine rx_setM 8 (EM.en (en_own (φ := fun v H' => (∃ p, v = .ref p ∧ H' p = some (.tup [])) ∨ ∃ e, EvAt H' v e ∧ e.ok ∧ (run evs).may ks e = true ∧ e.t < 10 ^ 40) OE hr (by rfl) (AV.cons (ev_nm 0) (AV.cons (ev_nm 1) (AV.cons (ev_nm 5) (AV.cons (ev_nm 3) AV.nil)))) fun H1 e1 Q' k => ⟨dk, tv, bl, pl, ks, _, run evs, ts, rfl, hd.mono (ec.trans e1), hk.tx (ec.trans e1).tx, hB.mono e1, g, hz, sq_of (e1 _ _ hp), pp,
          fun p H2 e2 hp2 => k _ _ e2 (.inl ⟨p, rfl, hp2⟩), fun v e H2 e2 a b c d => k _ _ e2 (.inr ⟨e, a, b, c, d⟩)⟩) fun v H3 e3 hv => ?_) nd
        rcases hv with ⟨p, ev, hp0⟩ | ⟨e, hev, ho, hm, ht1⟩
        · subst ev
          refine rx_when (tn_neUnit hr.units (ev_nm 8) (st_of hp0) (fun _ z => nomatch z)) (fun z => by cases z) fun _ => ?_
          exact rx_up rfl ⟨as, evs, _, _, _, rfl, ec.trans e3, e3 _ _ hp, e3 _ _ hf, hall.imp fun _ _ => EvAt.tx e3.tx, hB.mono e3, hV, Nat.le_succ_of_le hlen, htop⟩
        · obtain ⟨p, ev, hp0⟩ := id hev
          subst ev
          refine rx_when (bb := true) (TN.is (tn_neUnit hr.units (ev_nm 8) (st_of hp0) (ev_flat hk.wd hm)) (vals_ne e)) (fun _ => ?_) fun z => by cases z
          have hn : ((as.length : Nat) : Int) = ((run evs).n : Int) := by rw [run_n, hall.len]
          refine rx_exprM (em_own ON hr2 (by rfl) (AM.av (AV.cons (ev_nm 5) (AV.cons (EV.is (ev_len (by rfl) ml (ev_nm 4) (.inl (sq_of (e3 _ _ hf)))) (congrArg V.int hn)) (AV.cons (ev_nm 8) AV.nil))) fun H4 e4 => ⟨bl, _, run evs, .ref p, e, ks, rfl, (hB.mono e3).mono e4, g, hev.tx e4.tx, hm, hz, fun a ha => ?_, fun H5 k5 t5 b5 => ⟨H5, Ex.refl _, ?_⟩⟩))
          · have e' := (ec.trans e3).trans e4
            exact ⟨fresh_back e' ha, fun z => (by rw [z, e4 _ _ (e3 _ _ hp)] at ha; cases ha), fun z => (by rw [z, e4 _ _ (e3 _ _ hf)] at ha; cases ha)⟩
          · have hp5 : H5 pl = some (.lst (ts.map V.int)) := k5 _ _ (fun z => z.2.1 rfl) (e4 _ _ (e3 _ _ hp))
            have hf5 : H5 fl = some (.lst as) := k5 _ _ (fun z => z.2.2 rfl) (e4 _ _ (e3 _ _ hf))
            have e5 : Ex H H5 := fun a o h => k5 a o (fun z => by rw [z.1] at h; cases h) (((ec.trans e3).trans e4) _ _ h)
            have tx5 := ((e3.trans e4).tx.trans t5).trans (Tx.of_lst (o := .lst (as ++ [.ref p])) hf5)
            refine rx_exprM (em_appendV (ev_nm 4) (ev_nm 8) hf5 (by rw [hall.len]; omega) (rx_out rfl (rx_up rfl ⟨as ++ [.ref p], evs ++ [e], _, _, _, rfl, Ex.mut e5 hfl, by rw [upd_ne npf]; exact hp5, upd_same, (hall.imp fun _ _ => EvAt.tx tx5).app (All2.one (hev.tx ((e4.tx.trans t5).trans (Tx.of_lst hf5)))), ?_, hV.snoc ho hm, by rw [List.length_append]; exact Nat.succ_le_succ hlen, fun e' he' => (List.mem_append.mp he').elim (htop e') fun z => by rw [List.mem_singleton.mp z]; exact ht1⟩)))
            rw [run_snoc]
            exact b5.out fun z => z.2.2 rfl
      · rintro σ' Hc ⟨as, evs, y1, y2, y3, rfl, ec, hp, hf, hall, hB, hV, hlen, htop⟩
        refine rx_retM (EM.en (en_tuple (by rfl) mt (ev_nm 4) (sq_of hf)) fun v H3 e3 ⟨r, ev, _, hr'⟩ H4 e4 => ?_)
        subst ev
        exact q r evs H4 ((ec.trans e3).trans e4) ⟨as, e4 _ _ hr', hall.imp fun _ _ => EvAt.tx (e3.trans e4).tx⟩ hV (by omega) htop
end
end E5
set_option Elab.async false
set_option linter.all false
set_option maxRecDepth 100000
set_option maxHeartbeats 4000000
namespace Y
open PySem PySem.Spec PyProof.Rows L2 Evl
section
variable {X : Cx} {σ : L2.St} {H H' : Hp} {v w x y z : V} {e a b c f o : Expr} {i j k : Nat} {n m : Int} {pos pos' apos cpos p1 p2 p3 q1 q2 q3 px py pt spos : Pos} {D : Ends} {rest : List Stmt} {l p r d : Addr} {xs ys : List V} {φ ψ : V → Hp → Prop} {nm : Str} {ns : List Int} {kvs : List (Key × V)} {ky : Key}
theorem en_revLP {α β : List V → Hp → Prop} {k0 : Nat} (h : EN X e σ H (LP α)) (k : ∀ xs H2 H3, Ex H H2 → α xs H2 → Ex H2 H3 → β xs.reverse H3) : EN X (.Subscript e (.Slice none none (some (.UnaryOp .USub (.Constant (.int 1) k0 p1) p2)) p3) pos) σ H (LP β) :=
  EN.of (pe_revL pe_sem) fun H1 e1 => sem_mono (h H1 e1) fun v H2 ⟨e2, r, xs, er, hr, q⟩ => ⟨r, xs, er, sq_of hr, fun q0 hq => ⟨e2.trans (Ex.new hq), q0, _, rfl, upd_same, k xs H2 _ (e1.trans e2) q (Ex.new hq)⟩⟩
/-- a tuple of which α is true -/
def TP (α : List V → Hp → Prop) : V → Hp → Prop := fun v H => ∃ p xs, v = .ref p ∧ H p = some (.tup xs) ∧ α xs H
theorem en_catT {α β γ : List V → Hp → Prop} (ha : EN X a σ H (TP α)) (hb : ∀ H2, Ex H H2 → EN X b σ H2 (TP β))
    (k : ∀ xs ys H2 H3, Ex H H2 → α xs H2 → Ex H2 H3 → β ys H3 → xs.length + ys.length ≤ 100000 ∧ ∀ H4, Ex H3 H4 → γ (xs ++ ys) H4) : EN X (.BinOp a .Add b pos) σ H (TP γ) :=
  EN.of (pe_op op_catA pe_sem pe_sem) fun H1 e1 => sem_mono (ha H1 e1) fun v H2 ⟨e2, p, xs, ev, hp, qa⟩ => sem_mono (hb H2 (e1.trans e2) H2 (Ex.refl _)) fun v' H3 ⟨e3, p', ys, ev', hp', qb⟩ => by
    obtain ⟨hl, kk⟩ := k xs ys H2 H3 (e1.trans e2) qa e3 qb
    refine ⟨p, p', xs, ys, ev, ev', st_of (e3 _ _ hp), st_of hp', sz_of hl, fun z => ?_, fun _ z => ?_, fun _ _ q hq => ?_⟩
    · subst z
      exact ⟨e2.trans e3, p', ys, rfl, hp', kk _ (Ex.refl _)⟩
    · subst z
      refine ⟨e2.trans e3, p, xs, rfl, e3 _ _ hp, ?_⟩
      have := kk H3 (Ex.refl _)
      rwa [List.append_nil] at this
    · exact ⟨(e2.trans e3).trans (Ex.new hq), q, xs ++ ys, rfl, upd_same, kk _ (Ex.new hq)⟩
/-- sum(ints) -/
theorem ev_sum (hc : X.calm = true) (hg : Gl X "sum") (hm : X.mg "sum" = none) (ha : EN X a σ H (LP fun zs _ => zs = ns.map V.int)) (hst : starEach [a] X.env = (false, eval a X.env) :: starEach [] X.env := by rfl) : EV X (.Call (.Name "sum" q1) [a] [] q2) σ H (.int ns.sum) :=
  EN.of (pe_callB (cr_sum hc) hg hm (by decide +kernel) (pa_cons pe_sem pa_nil hst) (he := hst)) fun H1 e1 => sem_mono (ha H1 e1) fun v H2 ⟨e2, p, zs, ev, hp, ez⟩ => ⟨p, ns, by rw [ev], sq_of (by rw [hp, ez]), e2, rfl⟩
/-- d.get(k, e), d made on the way -/
theorem en_get2N {α : V → Hp → Prop} (hu : X.A.units + 1 < cLine) (ho : EN X o σ H α) (k : ∀ v H2, Ex H H2 → α v H2 → ∃ (p : Addr) (kvs : List (Key × V)) (ky : Key), v = .ref p ∧ H2 p = some (.dK kvs) ∧ EV X a σ H2 (kV ky) ∧ EN X b σ H2 fun z H3 => ψ ((valV kvs ky).getD z) H3) (m : M2 X o "get" apos a b cpos := by exact ⟨rfl, rfl, rfl, rfl⟩) :
    EN X (.Call (.Attribute o "get" apos) [a, b] [] cpos) σ H ψ :=
  EN.of (pe_dget2 hu pe_sem pe_sem pe_sem m) fun H1 e1 => sem_mono (ho H1 e1) fun v H2 ⟨e2, q⟩ => by
    obtain ⟨p, kvs, ky, ev, hp, ha, hb⟩ := k v H2 (e1.trans e2) q
    exact ⟨p, ev, .inl ⟨kvs, .inl hp⟩, EV.ev ha H2 (Ex.refl _) _ fun H3 e3 => sem_mono (hb H3 e3) fun z H4 ⟨e4, q4⟩ => ⟨_, DGet.k ((e3.trans e4) _ _ hp), (e2.trans e3).trans e4, q4⟩⟩
/-- {'..': a, '..': b} -/
theorem en_disp2 {s1 s2 : Str} {j1 j2} {v1 v2 : Expr} {φ1 φ2 : V → Hp → Prop} (h1 : EN X v1 σ H φ1) (h2 : EN X v2 σ H φ2) (hk : ∀ x1 x2 : V, mergeK [] [(Sum.inr s1, x1), (Sum.inr s2, x2)] = [(Sum.inr s1, x1), (Sum.inr s2, x2)]) :
    EN X (.Dict [some (.Constant (.str s1) j1 q1), some (.Constant (.str s2) j2 q2)] [v1, v2] pos) σ H fun v H' => ∃ p x1 x2 Ha Hb, v = .ref p ∧ H' p = some (.dK [(Sum.inr s1, x1), (Sum.inr s2, x2)]) ∧ Ex H Ha ∧ φ1 x1 Ha ∧ Ex Ha Hb ∧ φ2 x2 Hb ∧ Tx Hb H' :=
  EN.of (pe_disp (pps_cons pe_str pe_sem (pps_cons pe_str pe_sem pps_nil)) (by rfl) (by rfl) (fun z => by cases z) (by show 2 ≤ 15; decide)) fun H1 e1 p hp => by
    have e0 : Ex H (upd H1 p (.dK [])) := e1.trans (Ex.new hp)
    refine sem_mono (h1 _ e0) fun x1 Ha ⟨ea, f1⟩ => sem_mono (h2 _ (e0.trans ea)) fun x2 Hb ⟨eb, f2⟩ => ?_
    have hpb : Hb p = some (.dK []) := (ea.trans eb) _ _ upd_same
    refine ⟨hpb, [(Sum.inr s1, x1), (Sum.inr s2, x2)], rfl, by show 2 ≤ 15; decide, ?_⟩
    rw [hk]
    refine ⟨fun a o h => ?_, p, x1, x2, Ha, Hb, rfl, upd_same, e0.trans ea, f1, eb, f2, Tx.dK hpb⟩
    have hne : a ≠ p := fun z => by rw [z, hp] at h; cases h
    rw [upd_ne hne]
    exact (ea.trans eb) _ _ (by rw [upd_ne hne]; exact h)
/-! ### loops and comprehensions over what is made on the way -/
/-- for i, x in enumerate(a tuple made on the way) -/
theorem rx_forETN {kt : Nat} {nx ny : Str} (i j : Nat) {l : Expr} {body : List Stmt} (hp : PassesOwn (model X.prog X.w) X.A X.env X.xe) (hc : X.calm = true) (hg : Gl X "enumerate") (hm : X.mg "enumerate" = none) (hl : EN X l σ H φ)
    (k : ∀ v H2, Ex H H2 → φ v H2 → ∃ (r : Addr) (xs : List V) (P : Nat → L2.St → Hp → Prop), v = .ref r ∧ SqT X.K H2 r xs ∧ P 0 σ H2 ∧ (∀ n σ' Hb, n ≤ xs.length → P n σ' Hb → SqT X.K Hb r xs) ∧
      (∀ n x σ' Hb, xs[n]? = some x → P n σ' Hb → RX X body { D with nx := UpS (P (n + 1)), ct := UpS (P (n + 1)), bk := semS X rest D } ((σ'.set i (some (.int (n : Int)))).set j (some x)) Hb) ∧ ∀ σ' Hb, P xs.length σ' Hb → RX X rest D σ' Hb)
    (hN : X.N.Nodup) (hi : X.N[i]? = some nx := by rfl) (hj : X.N[j]? = some ny := by rfl) (hlo : Loc X.env.scope nx := by first | exact Or.inl rfl | exact Or.inr rfl) (hlo2 : Loc X.env.scope ny := by first | exact Or.inl rfl | exact Or.inr rfl)
    (hf : X.fn nx = true ∨ X.env.scope.names.lookup nx = some .local := by first | exact .inl rfl | exact .inr rfl) (hf2 : X.fn ny = true ∨ X.env.scope.names.lookup ny = some .local := by first | exact .inl rfl | exact .inr rfl)
    (hst : starEach [l] X.env = (false, eval l X.env) :: starEach [] X.env := by rfl) :
    RX X (.For (.Tuple [.Name nx px, .Name ny py] kt p3) (.Call (.Name "enumerate" q1) [l] [] q2) body [] pos :: rest) D σ H :=
  rx_of (ps_for hp hc (pi_enumT hg hm (pa_cons pe_sem pa_nil hst) hst) (pg_tup hc (pgs_cons (pg_name hN hi hlo hf) (pgs_cons (pg_name hN hj hlo2 hf2) pgs_nil))) pss_sem) fun H1 e1 => sem_mono (hl H1 e1) fun v H2 ⟨e2, q⟩ => by
    obtain ⟨r, xs, P, rfl, hx, h0, hk, hs, hd⟩ := k v H2 (e1.trans e2) q
    exact ⟨r, xs, rfl, hx, for_it (D := { D with nx := semS X rest D }) (walk_enumT (K := X.K) (a := r) (xs := xs)) (fun n => UpS (P n)) ⟨H2, Ex.refl _, h0⟩ (fun n σ' H' hn ⟨Hb, e, p⟩ => ex_t e (hk n σ' Hb hn p))
      (fun n v σ' H' H'' hn ⟨Hb, e, p⟩ ⟨T, x, y, ev, hT, eh, fx, fy⟩ => by
        subst ev eh
        cases fx
        exact ⟨T, _, rfl, .inl (.inl upd_same), rfl, _, _, rfl, _, _, rfl, rfl, hs n y σ' Hb fy p _ (e.trans (Ex.new hT))⟩) fun σ' H' ⟨Hb, e, p⟩ => hd σ' Hb p H' e⟩
section
variable {elt tst : Expr} {xn yn yv : Str} {scope : Scope} {own : List (Str × Nat)} {kt : Nat}
/-- [.. for x in a tuple made on the way if ..] -/
theorem en_lcTNt (j : Nat) {l : Expr} (hc : X.calm = true) (hN : X.N.Nodup) (ok : BlkOk X.N X.env.scope scope own) (hl : EN X l σ H fun v H2 => ∃ r, v = .ref r ∧ SqT X.K H2 r xs) (hz : xs.length ≤ 100000)
    (hg : ∀ (s : Shared) (H : Hp) (C : Addr) (cl : List (Str × Addr)) (fp : List Addr), PG (X.blk s H scope (compEnvC scope cl C X.env) fp) (.Name xn px) (gName j))
    (hw : ∀ v, wipe ((wipe σ (own.map (·.2))).set j (some v)) (own.map (·.2)) = wipe σ (own.map (·.2)))
    (P : Nat → List V → Hp → Prop) (hP : ∀ n acc H1 H2, Tx H1 H2 → P n acc H1 → P n acc H2) (h0 : P 0 [] H)
    (hs : ∀ n x acc Hb (s : Shared) (H' : Hp) (C : Addr) (cl : List (Str × Addr)) (fp : List Addr), xs[n]? = some x → Ex H Hb → P n acc Hb →
      TD (X.blk s H' scope (compEnvC scope cl C X.env) fp) tst ((wipe σ (own.map (·.2))).set j (some x)) Hb fun b H3 => if b = true then
        ∀ (s : Shared) (H' : Hp) (C : Addr) (cl : List (Str × Addr)) (fp : List Addr), EN (X.blk s H' scope (compEnvC scope cl C X.env) fp) elt ((wipe σ (own.map (·.2))).set j (some x)) H3 fun v H2 => P (n + 1) (acc ++ [v]) H2 else P (n + 1) acc H3)
    (hfo : ∀ x, foldedSetIterable l X.env x = pure x := by intro _; rfl) :
    EN X (.ListComp elt [⟨.Name xn px, l, [tst], 0⟩] scope pos) σ H fun v H2 => ∃ D acc, v = .ref D ∧ H D = none ∧ H2 D = some (.lst acc) ∧ acc.length ≤ xs.length ∧ P xs.length acc H2 :=
  EN.of (pe_lc hc hN (pi_tup pe_sem) ok hg (fun s H' C cl fp => pts_one (pt_blk s H' C cl fp)) (fun s H' C cl fp => pe_blk s H' C cl fp) hfo) fun H1 e1 => sem_mono (hl H1 e1) fun v H2 ⟨e2, r, ev, hx⟩ => ⟨r, ev, ⟨xs, hx⟩, fun D hD =>
    lc_it (walk_tup (K := X.K) (a := r) (xs := xs)) (LcW H2 D P) ⟨[], Nat.le_refl _, hD, Ex.new hD, upd_same, hP _ _ _ _ (Tx.trans (e1.trans e2).tx (Ex.new hD).tx) h0⟩ (fun i H' _ p => let ⟨_, _, _, e, _, _⟩ := p; ex_t e hx)
      (fun i x H' H'' hi ⟨acc, q1, q2, q3, q4, q5⟩ ⟨eh, hx⟩ => by
        subst eh
        refine ⟨hw _, fun s H'' C cl fp => semT_mono (hs i x acc _ s H'' C cl fp hx ((e1.trans e2).trans q3) q5 _ (Ex.refl _)) fun b H3 ⟨e3, q6⟩ => ?_⟩
        cases b with
        | true =>
          rw [if_pos rfl] at q6 ⊢
          exact fun s H'' C cl fp => sem_mono (q6 s H'' C cl fp H3 (Ex.refl H3)) fun v H4 ⟨e4, q7⟩ =>
            LcW.push hP q1 q2 ((q3.trans e3).trans e4) ((e3.trans e4) D _ q4) (by omega) q7
        | false =>
          rw [if_neg Bool.false_ne_true] at q6 ⊢
          exact ⟨acc, Nat.le_succ_of_le q1, q2, q3.trans e3, e3 D _ q4, q6⟩)
      (fun H' ⟨acc, q1, q2, q3, q4, q5⟩ => ⟨e2.trans q3, D, acc, rfl, fresh_back (e1.trans e2) q2, q4, q1, q5⟩)⟩
/-- y = [.. for a, b in a tuple of pairs if ..] on one line -/
theorem rx_setTP (i j1 j2 : Nat) {l : Expr} (hc : X.calm = true) (hN : X.N.Nodup) (ok : BlkOk X.N X.env.scope scope own)
    (hl : EV X l σ H (.ref p)) (hx : SqT X.K H p xs) (hz : xs.length ≤ 100000) (hpr : ∀ x ∈ xs, ∃ q y z, x = .ref q ∧ H q = some (.tup [y, z]))
    (hg : ∀ (s : Shared) (H : Hp) (C : Addr) (cl : List (Str × Addr)) (fp : List Addr), PG (X.blk s H scope (compEnvC scope cl C X.env) fp) (.Tuple [.Name xn px, .Name yn py] kt p3) (gTup X.K 2 (gCons (gName j1) (gCons (gName j2) gNil))))
    (hw : ∀ v v', wipe (((wipe σ (own.map (·.2))).set j1 (some v)).set j2 (some v')) (own.map (·.2)) = wipe σ (own.map (·.2)))
    (P : Nat → List V → Prop) (h0 : P 0 [])
    (hs : ∀ (n : Nat) q y z acc Hb (s : Shared) (H' : Hp) (C : Addr) (cl : List (Str × Addr)) (fp : List Addr), xs[n]? = some (.ref q) → H q = some (.tup [y, z]) → Ex H Hb → P n acc →
      TD (X.blk s H' scope (compEnvC scope cl C X.env) fp) tst (((wipe σ (own.map (·.2))).set j1 (some y)).set j2 (some z)) Hb fun b H3 => if b = true then
        ∀ (s : Shared) (H' : Hp) (C : Addr) (cl : List (Str × Addr)) (fp : List Addr), EN (X.blk s H' scope (compEnvC scope cl C X.env) fp) elt (((wipe σ (own.map (·.2))).set j1 (some y)).set j2 (some z)) H3 fun v H2 => P (n + 1) (acc ++ [v]) else P (n + 1) acc)
    (k : ∀ (D' : Addr) (acc : List V) (H2 : Hp), Ex H H2 → H D' = none → H2 D' = some (.lst acc) → acc.length ≤ xs.length → P xs.length acc → RX X rest D (σ.set i (some (.ref D'))) H2)
    (hi : X.N[i]? = some yv := by rfl) (hyl : X.env.scope.names.lookup yv = some .local := by rfl)
    (hsw : swapsWith (.ListComp elt [⟨.Tuple [.Name xn px, .Name yn py] kt p3, l, [tst], 0⟩] scope pos) (some (.Name yv p1)) spos.line X.env = pure true := by rfl)
    (hfo : ∀ x, foldedSetIterable l X.env x = pure x := by intro _; rfl) :
    RX X (.Assign [.Name yv p1] (.ListComp elt [⟨.Tuple [.Name xn px, .Name yn py] kt p3, l, [tst], 0⟩] scope pos) spos :: rest) D σ H :=
  rx_of (ps_setLc hc hN hi hyl hsw (pi_tup pe_sem) ok hg (fun s H' C cl fp => pts_one (pt_blk s H' C cl fp)) (fun s H' C cl fp => pe_blk s H' C cl fp) hfo) fun H1 e1 => EV.ev hl H1 e1 _ fun H2 e2 => ⟨p, rfl, ⟨xs, ex_t (e1.trans e2) hx⟩, fun D' hD => by
    have e12 := e1.trans e2
    refine lc_it (walk_tup (K := X.K) (a := p) (xs := xs)) (LcW H2 D' fun n acc _ => P n acc) ⟨[], Nat.le_refl _, hD, Ex.new hD, upd_same, h0⟩ (fun i H' _ p => let ⟨_, _, _, e, _, _⟩ := p; ex_t (e12.trans e) hx) ?_ ?_
    · rintro n x H' H'' hn ⟨acc, q1, q2, q3, q4, q5⟩ ⟨eh, hxn⟩
      cases eh
      obtain ⟨q, y, z, ex, hq⟩ := hpr x (List.mem_of_getElem? hxn)
      subst ex
      refine ⟨q, [y, z], rfl, .inl (.inl ((e12.trans q3) _ _ hq)), rfl, y, [z], rfl, z, [], rfl, rfl, hw _ _, fun s H'' C cl fp => semT_mono (hs n q y z acc _ s H'' C cl fp hxn hq (e12.trans q3) q5 _ (Ex.refl _)) fun b H3 ⟨e3, q6⟩ => ?_⟩
      cases b with
      | true =>
        rw [if_pos rfl] at q6 ⊢
        exact fun s H'' C cl fp => sem_mono (q6 s H'' C cl fp H3 (Ex.refl H3)) fun v H4 ⟨e4, q7⟩ =>
          LcW.push (fun _ _ _ _ _ z => z) q1 q2 ((q3.trans e3).trans e4) ((e3.trans e4) D' _ q4) (by omega) q7
      | false =>
        rw [if_neg Bool.false_ne_true] at q6 ⊢
        exact ⟨acc, Nat.le_succ_of_le q1, q2, q3.trans e3, e3 D' _ q4, q6⟩
    · rintro H' ⟨acc, q1, q2, q3, q4, q5⟩
      exact k D' acc H' (e12.trans q3) (fresh_back e12 q2) q4 q1 q5 H' (Ex.refl H')⟩
end
end
end Y
set_option Elab.async false
set_option linter.all false
set_option maxRecDepth 100000
set_option maxHeartbeats 4000000
namespace E5
open PySem PySem.Spec PyProof.Rows L2 Evl Y
abbrev sLeft : Stmt := topS 42
abbrev sWAt : Stmt := topS 43
abbrev sKept : Stmt := topS 44
abbrev nLeft : List Str := ["_law_history_here", "_law_p", "_law_book_here", "_law_found", "_law_t", "_law_i"]
abbrev nWAt : List Str := ["_law_history_here", "_law_p", "_law_found", "_law_at", "_law_event_here", "_law_i"]
abbrev nKept : List Str := ["_law_history_here", "_law_p", "_law_event_here"]
abbrev psHP : List Str := ["_law_history_here", "_law_p"]
theorem scLeft : FnScope nLeft psHP (defScope sLeft) := ⟨rfl, rfl, rfl, by decide +kernel, rfl, by decide +kernel, by decide +kernel⟩
theorem scWAt : FnScope nWAt psHP (defScope sWAt) := ⟨rfl, rfl, rfl, by decide +kernel, rfl, by decide +kernel, by decide +kernel⟩
theorem scKept : FnScope nKept psHP (defScope sKept) := ⟨rfl, rfl, rfl, by decide +kernel, rfl, by decide +kernel, by decide +kernel⟩
/-- a history and a cut of it -/
def HP (H : Hp) (hv : Addr) (ks : List Str) (evs : List Ev) (p : Nat) : Prop := HistAt H hv evs ∧ Valid ks evs ∧ evs.length < 1000 ∧ p ≤ evs.length
theorem HP.tx {H H' : Hp} (x : Tx H H') {hv : Addr} {ks : List Str} {evs : List Ev} {p : Nat} (h : HP H hv ks evs p) : HP H' hv ks evs p := ⟨h.1.tx x, h.2⟩
theorem ev0_do (t : Int) (k : Str) : atI (Ev.doo t k).vals 0 = some (V.str "do") := rfl
section
variable {P : Program} {w : World} {K : PySem.W.Frag} {mg : Str → Option Value} {base : Heap}
def spLeft : Sp := fun vs H Q _ => ∃ (hv : Addr) (p : Nat) (ks : List Str) (evs : List Ev), vs = [.ref hv, .int (p : Int)] ∧ HP H hv ks evs p ∧ ∀ (q : Addr) (H' : Hp), Ex H H' → H' q = some (.lst ((openL (run (evs.take p))).map V.int)) → Q (.ref q) H'
theorem own_left (D : Def K mg "_law_left" sLeft) (OB : Own P w K mg base "_law_book" ["_law_history_here"] 3 spBook) (ms : mg "sorted" = none) : Own P w K mg base "_law_left" psHP 4 spLeft := by
  refine D.own scLeft (fun vs H Q E h => ?_) (fun _ _ _ _ _ _ us hl => match us, hl with | [_, _], _ => rfl) ?_
  · obtain ⟨hv, p, ks, evs, rfl, _⟩ := h
    rfl
  · rintro X H vs Q E ⟨f, cdv, A, outer, st, rfl⟩ hr h
    obtain ⟨hv, p, ks, evs, rfl, ⟨⟨as, ha, hall⟩, hV, hz, hp⟩, q⟩ := h
    have nd := scLeft.nd
    have hu := hu_of hr
    have hr3 : Room 3 _ := hr.mono (by decide)
    have hVp := hV.take p
    have g := hVp.good
    have hn : (run (evs.take p)).n = p := by rw [run_n, List.length_take]; omega
    refine rx_tup2 2 3 (em_tup (AM.cons (EM.en (en_ownA (Φ := fun us H1 => ∃ q0, us = [.ref q0] ∧ HistAt H1 q0 (evs.take p)) (φ := fun v H1 => ∃ b F, v = .ref b ∧ BookAt F H1 b (run (evs.take p))) OB hr3 (by rfl)
      (AN.cons (en_slTt (lv := none) (hv := some (p : Int)) (ev_nm 0) ha ov_n (ov_s (ev_nm 1))) fun v' H1 e1 ⟨q1, ev', hr'⟩ => AN.nil fun H2 e2 => ⟨q1, by rw [ev'], as.take p, by rw [cutV_take] at hr'; exact e2 _ _ hr', (hall.take p).imp fun _ _ => EvAt.tx (e1.trans e2).tx⟩)
      fun us H1 e1 ⟨q0, eu, hh⟩ Q' kk => ⟨q0, ks, evs.take p, eu, hh, hVp, by rw [List.length_take]; omega, fun b H2 e2 hb => kk _ _ e2 ⟨b, _, rfl, hb⟩⟩) fun v H1 e1 ⟨b, F, ev, hB⟩ => AM.cons (em_lstV AV.nil (Nat.zero_le _) fun lf nlf => AM.nil ⟨by show 2 ≤ 100000; decide, fun pt hpt => ⟨pt, _, _, rfl, st_of upd_same, ?_⟩⟩)))) rfl nd
    subst ev
    generalize run (evs.take p) = s at *
    obtain ⟨kvs, rw, ls, lb, hb, fb, hK, hB⟩ := hB
    obtain ⟨ts, ekv, htn⟩ := hK.ts
    have hts : ∀ t, t ∈ ts ↔ s.steps t ≠ [] := fun t => by
      have hv := hK.at_ t
      constructor
      · intro ht hz
        rw [if_pos hz, ekv] at hv
        exact valV_not hv (List.mem_map.mpr ⟨(Sum.inl t, V.ref (rw t)), List.mem_map.mpr ⟨t, ht, rfl⟩, rfl⟩)
      · intro hz
        rw [if_neg hz, ekv] at hv
        obtain ⟨u, hu', e⟩ := List.mem_map.mp (valV_pair hv)
        have : u = t := Sum.inl.inj (Prod.mk.inj e).1
        exact this ▸ hu'
    have eN := (Ex.new (o := .lst []) nlf).trans (Ex.new (o := .tup [.ref b, .ref lf]) hpt)
    have hlf0 := (Ex.new (o := .tup [.ref b, .ref lf]) hpt) _ _ (upd_same (H := H1) (a := lf) (o := .lst []))
    revert eN hlf0
    generalize upd (upd H1 lf (.lst [])) pt (.tup [.ref b, .ref lf]) = Hc
    intro eN hlf0
    have nfd : lf ≠ b := Ne.symm (ne_of_none hb nlf)
    refine rx_forD (d := b) (kvs := kvs) 4 PassesOwn.never rfl (eN _ _ hb) (fun od => ev_nm 2)
      (fun od n σ' Hb => ∃ (x4 : Option V), σ' = [some (.ref hv), some (.int (p : Int)), some (.ref b), some (.ref lf), x4, none] ∧ Ex (upd H1 b (.frz od (.dK kvs))) Hb ∧ Hb lf = some (.lst (((ts.take n).flatMap (openT s)).map V.int)))
      (fun od => ⟨none, rfl, ex_upd eN, by rw [upd_ne nfd]; exact hlf0⟩) (fun od n σ' Hb _ ⟨_, _, e, _⟩ => e _ _ upd_same) ?_ ?_ nd
    · rintro od n k v σ' Hb hkv ⟨x4, rfl, eb, hlf⟩
      rw [ekv, List.getElem?_map] at hkv
      obtain ⟨t, ht, e⟩ := Option.map_eq_some_iff.mp hkv
      cases e
      have hne := (hts t).mp (List.mem_of_getElem? ht)
      have hbk : Rd Hb b (.dK kvs) := .inr ⟨od, eb _ _ upd_same⟩
      have hvt : valV kvs (Sum.inl t) = some (.ref (rw t)) := (hK.at_ t).trans (if_neg hne)
      have hrow := eb _ _ (by rw [upd_ne (hB.nb t hne)]; exact hB.row t hne)
      have hst := eb _ _ (by rw [upd_ne (ne_of (hB.st t hne) hb (fun z => nomatch z))]; exact hB.st t hne)
      have hbt := eb _ _ (by rw [upd_ne (ne_of (hB.bk t hne) hb (fun z => nomatch z))]; exact hB.bk t hne)
      have hlen := g.steps_len t
      have hll : ((ts.take n).flatMap (openT s)).length ≤ 1000 := by
        have := open_len g (htn.sublist (List.take_sublist n ts))
        omega
      have hfm : (ts.take (n + 1)).flatMap (openT s) = (ts.take n).flatMap (openT s) ++ openT s t := by
        rw [take_more ht, List.flatMap_append, List.flatMap_cons, List.flatMap_nil, List.append_nil]
      refine rx_when (TN.is (tn_ne (ev_dgetS hu (ev_dgetR (ky := Sum.inl t) hu (ev_nm 2) (ev_nm 4) hbk hvt) ev_s hrow (row_end _ _ _)) ev_s (by rfl)) (congrArg (!·) (end_keep _))) (fun hb => ?_) fun hb => ?_
      · rw [Bool.not_eq_true', decide_eq_false_iff_not] at hb
        refine rx_exprM (em_extend (ev_nm 3) (en_lcLt (xs := (s.steps t).map V.int) (own := [("_law_i", 5)]) 5 rfl nd (blkOk_by (N := nLeft) (sc := defScope sLeft) (by decide +kernel)) (srcL (ev_dgetS hu (ev_dgetR (ky := Sum.inl t) hu (ev_nm 2) (ev_nm 4) hbk hvt) ev_s hrow (row_steps _ _ _)) (sq_of hst)) (by rw [List.length_map]; omega)
          (fun _ _ _ _ _ => pg_name (i := 5) nd rfl (Or.inl rfl)) (fun v => rfl) (fun m acc _ => acc = (((s.steps t).take m).filter fun i => !decide (i ∈ s.taken t)).map V.int) (fun _ _ _ _ _ z => z) rfl ?_) hlf fun v H2 e2 ⟨D', acc, ev, _, hD, hal, ea⟩ => ⟨D', acc, ev, hD, ?_, rx_out rfl (rx_up rfl ⟨_, rfl, Ex.mut (eb.trans e2) (by rw [upd_ne nfd]; exact nlf), ?_⟩)⟩)
        · intro m x acc Hc st' H' C' cl fp hx ec ea
          rw [List.getElem?_map] at hx
          obtain ⟨i, hi, rfl⟩ := Option.map_eq_some_iff.mp hx
          refine td_of (TN.is (tn_notIn (ev_nm 5) (ev_dgetS (by exact hu) (ev_dgetR (ky := Sum.inl t) (by exact hu) (ev_nm 2) (ev_nm 4) (rd_mono hbk ec) hvt) ev_s (ec _ _ hrow) (row_backs _ _ _)) (.inl (sq_of (ec _ _ hbt))) (by rfl) (flat_ints _)) (congrArg (!·) in_ints)) fun H5 e5 => ?_
          rw [take_more hi, List.filter_append, List.map_append]
          by_cases hj : i ∈ s.taken t
          · rw [decide_eq_true hj]
            refine iteF ?_
            rw [ea]
            simp [hj]
          · rw [decide_eq_false hj]
            refine iteT fun _ _ _ _ _ => EN.weak (ev_nm 5) fun v H3 _ ev => ?_
            rw [ev, ea]
            simp [hj]
        · rw [List.length_map] at hal ⊢; omega
        · rw [upd_same, hfm, List.map_append, ea, List.length_map, List.take_length]
          unfold openT
          rw [if_neg hb]
      · rw [Bool.not_eq_false', decide_eq_true_eq] at hb
        refine rx_up rfl ⟨_, rfl, eb, ?_⟩
        rw [hfm, show openT s t = [] from if_pos hb, List.append_nil]; exact hlf
    · rintro od σ' Hb ⟨x4, rfl, eb, hlf⟩
      rw [ekv, List.length_map, List.take_length] at hlf
      have hlf2 : upd Hb b (.dK kvs) lf = some (.lst ((ts.flatMap (openT s)).map V.int)) := by rw [upd_ne nfd]; exact hlf
      have eF : Ex H1 (upd Hb b (.dK kvs)) := fun a o h => by
        by_cases z : a = b
        · subst z
          rw [upd_same]; rw [hb] at h; exact h
        · rw [upd_ne z]
          exact eb _ _ (by rw [upd_ne z]; exact h)
      refine rx_retM (EM.en (en_revLP (β := fun zs _ => zs = (openL s).map V.int) (en_sortedI (by rfl) ms (srcL (ev_nm 3) (sq_of hlf2))) fun zs H2 H3 e2 ⟨ns', ez, hperm, hpw⟩ e3 => ?_) fun v H2 e2 ⟨q2, zs, ev, hq2, ez⟩ H3 e3 => ?_)
      · subst ez
        rw [← List.map_reverse]
        refine congrArg _ (openL_of2 g ?_ (fun i => ?_) ?_)
        · exact (List.reverse_perm ns').nodup_iff.mpr (hperm.nodup_iff.mpr (open_nodup g htn))
        · rw [List.mem_reverse, hperm.mem_iff]; exact open_mem hts i
        · rw [List.pairwise_reverse]; exact hpw
      · subst ev ez
        exact q q2 H3 ((e1.trans eF).trans (e2.trans e3)) (e3 _ _ hq2)
def spKept : Sp := fun vs H Q _ => ∃ (hv : Addr) (p : Nat) (ks : List Str) (evs : List Ev), vs = [.ref hv, .int (p : Int)] ∧ HP H hv ks evs p ∧ ∀ (q : Addr) (H' : Hp), Ex H H' → H' q = some (.tup ((keptE (evs.take p)).map V.int)) → Q (.ref q) H'
theorem keptE_len (l : List Ev) : (keptE l).length ≤ l.length := by unfold keptE; exact List.length_filterMap_le _ _
theorem keptE_more {l : List Ev} {n : Nat} {e : Ev} (h : l[n]? = some e) : keptE (l.take (n + 1)) = keptE (l.take n) ++ keptE [e] := by rw [take_more h, keptE_snoc]
theorem own_kept (D : Def K mg "_law_kept" sKept) (mt : mg "tuple" = none) : Own P w K mg base "_law_kept" psHP 1 spKept := by
  refine D.own scKept (fun vs H Q E h => ?_) (fun _ _ _ _ _ _ us hl => match us, hl with | [_, _], _ => rfl) ?_
  · obtain ⟨hv, p, ks, evs, rfl, _⟩ := h
    rfl
  · rintro X H vs Q E ⟨f, cdv, A, outer, st, rfl⟩ hr h
    obtain ⟨hv, p, ks, evs, rfl, ⟨⟨as, ha, hall⟩, hV, hz, hp⟩, q⟩ := h
    have nd := scKept.nd
    have hallp := hall.take p
    have hl : (as.take p).length ≤ 1000 := by rw [List.length_take, hall.len]; omega
    refine rx_retM (EM.en (en_tupleN (α := fun zs _ => zs = (keptE (evs.take p)).map V.int) (by rfl) mt (EN.weak (en_lcTNt (own := [("_law_event_here", 2)]) (xs := as.take p) 2 rfl nd (blkOk_by (N := nKept) (sc := defScope sKept) (by decide +kernel)) (EN.weak (en_slTt (lv := none) (hv := some (p : Int)) (ev_nm 0) ha ov_n (ov_s (ev_nm 1))) fun v H1 e1 ⟨r, ev, hr'⟩ => ⟨r, ev, st_of (by rw [cutV_take] at hr'; exact hr')⟩) (by omega)
      (fun _ _ _ _ _ => pg_name (i := 2) nd rfl (Or.inl rfl)) (fun v => rfl) (fun n acc _ => acc = (keptE ((evs.take p).take n)).map V.int) (fun _ _ _ _ _ z => z) rfl ?_) ?_)) fun v H2 e2 ⟨q2, zs, H3, ev, hq2, ez, _⟩ H4 e4 => ?_)
    · intro n x acc Hb st' H' C' cl fp hx eb ea
      obtain ⟨e, he, pe, evp, hpe⟩ := hallp.at hx
      subst evp
      have hpe := eb _ _ hpe
      rw [keptE_more he, List.map_append]
      cases e with
      | doo t k =>
        refine td_of (TN.is (tn_eq (ev_ixT (ev_nm 2) ev_i (st_of hpe) (by rfl)) ev_s (by rfl)) (b' := false) (by decide +kernel)) fun H5 e5 => iteF ?_
        rw [ea]; exact (List.append_nil _).symm
      | back t i =>
        refine td_of (TN.is (tn_eq (ev_ixT (ev_nm 2) ev_i (st_of hpe) (by rfl)) ev_s (by rfl)) (b' := false) (by decide +kernel)) fun H5 e5 => iteF ?_
        rw [ea]; exact (List.append_nil _).symm
      | fin t b =>
        refine td_of (TN.is (tn_eq (ev_ixT (ev_nm 2) ev_i (st_of hpe) (by rfl)) ev_s (by rfl)) (b' := b) (by cases b <;> decide +kernel)) fun H5 e5 => ?_
        cases b with
        | true =>
          refine iteT fun _ _ _ _ _ => EN.weak (ev_ixT (ev_nm 2) ev_i (st_of (e5 _ _ hpe)) (by rfl)) fun v H6 _ ev => ?_
          rw [ev, ea]; rfl
        | false =>
          refine iteF ?_
          rw [ea]; exact (List.append_nil _).symm
    · rintro v H2 e2 ⟨D', acc, ev, _, hD, _, ea⟩
      refine ⟨D', acc, ev, hD, ?_⟩
      rw [ea, hallp.len, List.take_length]
    · subst ev ez
      exact q q2 H4 (e2.trans e4) (e4 _ _ hq2)
def spWAt : Sp := fun vs H Q _ => ∃ (hv : Addr) (p : Nat) (ks : List Str) (evs : List Ev), vs = [.ref hv, .int (p : Int)] ∧ HP H hv ks evs p ∧ ∀ (q : Addr) (zs : List V) (H' : Hp), Ex H H' → H' q = some (.tup zs) → All2 (PairI H') zs (wordL (evs.take p)) → Q (.ref q) H'
theorem own_wat (D : Def K mg "_law_word_at" sWAt) (OL : Own P w K mg base "_law_left" psHP 4 spLeft) (me : mg "enumerate" = none) (mt : mg "tuple" = none) : Own P w K mg base "_law_word_at" psHP 5 spWAt := by
  refine D.own scWAt (fun vs H Q E h => ?_) (fun _ _ _ _ _ _ us hl => match us, hl with | [_, _], _ => rfl) ?_
  · obtain ⟨hv, p, ks, evs, rfl, _⟩ := h
    rfl
  · rintro X H vs Q E ⟨f, cdv, A, outer, st, rfl⟩ hr h
    obtain ⟨hv, p, ks, evs, rfl, hHP, q⟩ := h
    obtain ⟨⟨as, ha, hall⟩, hV, hz, hp⟩ := id hHP
    have nd := scWAt.nd
    have hallp := hall.take p
    have g := (hV.take p).good
    have hn : (run (evs.take p)).n = p := by rw [run_n, List.length_take]; omega
    have hol : (openL (run (evs.take p))).length < 1000 := Nat.lt_of_le_of_lt (openL_len g) (by omega)
    have hll : (evs.take p).length < 1000 := by rw [List.length_take]; omega
    refine rx_setM 2 (em_lstV AV.nil (Nat.zero_le _) fun lf nlf => ?_) nd
    have eN := Ex.new (o := .lst []) nlf
    refine rx_forETN 3 4 PassesOwn.never rfl (by rfl) me (en_slTt (lv := none) (hv := some (p : Int)) (ev_nm 0) (eN _ _ ha) ov_n (ov_s (ev_nm 1))) (fun v H1 e1 ⟨r, ev, hr'⟩ => ?_) nd
    rw [cutV_take] at hr'
    refine ⟨r, as.take p, fun n σ' Hb => ∃ (ls : List V) (x3 x4 : Option V), σ' = [some (.ref hv), some (.int (p : Int)), some (.ref lf), x3, x4, none] ∧ Ex H Hb ∧ Hb r = some (.tup (as.take p)) ∧ Hb lf = some (.lst ls) ∧ All2 (PairI Hb) ls (letF 0 ((evs.take p).take n)), ev, st_of hr', ⟨[], none, none, rfl, eN.trans e1, hr', e1 _ _ upd_same, True.intro⟩, fun n σ' Hb _ ⟨_, _, _, _, _, e, _⟩ => st_of e, ?_, ?_⟩
    · rintro n x σ' Hb hx ⟨ls, x3, x4, rfl, eb, hrb, hlf, hls⟩
      obtain ⟨e, he, pe, evp, hpe⟩ := hallp.at hx
      subst evp
      have hp' := eb _ _ hpe
      have hl : ls.length ≤ n := by
        rw [hls.len]
        exact Nat.le_trans (letF_len _ _) (by rw [List.length_take]; omega)
      have hn : n < (evs.take p).length := (List.getElem?_eq_some_iff.mp he).1
      have nrl : r ≠ lf := ne_of hrb hlf (fun z => nomatch z)
      have step : ∀ (u v : Int) (H2 : Hp) (q2 : Addr), Ex Hb H2 → H2 q2 = some (.tup [.int u, .int v]) → let1 n e = [(u, v)] → All2 (PairI (upd H2 lf (.lst (ls ++ [.ref q2])))) (ls ++ [.ref q2]) (letF 0 ((evs.take p).take (n + 1))) := fun u v H2 q2 e2 hq2 hl1 => by
        rw [letF_more he, hl1]
        have tx := Tx.of_lst (o := .lst (ls ++ [.ref q2])) (e2 _ _ hlf)
        exact (hls.imp fun _ _ => PairI.tx (e2.tx.trans tx)).app (All2.one ⟨q2, rfl, tx _ _ hq2⟩)
      cases e with
      | doo t k =>
        refine rx_if (bb := true) (TN.is (tn_eq (ev_ixT (ev_nm 4) ev_i (st_of hp') (by rfl)) ev_s (by rfl)) (by decide +kernel)) (fun _ => ?_) fun z => by cases z
        refine rx_exprM (em_append (ev_nm 2) (EM.en (en_tupV (vs := [.int (n : Int), .int 1]) (AV.cons (ev_nm 3) (AV.cons ev_i AV.nil)) (by show 2 ≤ 100000; decide)) fun v H2 e2 ⟨q2, ev, _, hq2⟩ => ⟨ls, e2 _ _ hlf, by omega, rx_out rfl (rx_up rfl ⟨ls ++ [v], _, _, rfl, Ex.mut (eb.trans e2) nlf, by rw [upd_ne nrl]; exact e2 _ _ hrb, upd_same, by subst ev; exact step _ _ H2 q2 e2 hq2 rfl⟩)⟩) hlf)
      | back t i =>
        refine rx_if (bb := false) (TN.is (tn_eq (ev_ixT (ev_nm 4) ev_i (st_of hp') (by rfl)) ev_s (by rfl)) (by decide +kernel)) (fun z => by cases z) fun _ => ?_
        refine rx_if (bb := true) (TN.is (tn_eq (ev_ixT (ev_nm 4) ev_i (st_of hp') (by rfl)) ev_s (by rfl)) (by decide +kernel)) (fun _ => ?_) fun z => by cases z
        refine rx_exprM (em_append (ev_nm 2) (EM.en (en_tupV (vs := [.int i, .int (-1)]) (AV.cons (ev_ixT (ev_nm 4) ev_i (st_of hp') (by rfl)) (AV.cons (ev_neg ev_i) AV.nil)) (by show 2 ≤ 100000; decide)) fun v H2 e2 ⟨q2, ev, _, hq2⟩ => ⟨ls, e2 _ _ hlf, by omega, rx_out rfl (rx_out rfl (rx_up rfl ⟨ls ++ [v], _, _, rfl, Ex.mut (eb.trans e2) nlf, by rw [upd_ne nrl]; exact e2 _ _ hrb, upd_same, by subst ev; exact step _ _ H2 q2 e2 hq2 rfl⟩))⟩) hlf)
      | fin t b =>
        refine rx_if (bb := false) (TN.is (tn_eq (ev_ixT (ev_nm 4) ev_i (st_of hp') (by rfl)) ev_s (by rfl)) (by cases b <;> decide +kernel)) (fun z => by cases z) fun _ => ?_
        refine rx_if (bb := false) (TN.is (tn_eq (ev_ixT (ev_nm 4) ev_i (st_of hp') (by rfl)) ev_s (by rfl)) (by cases b <;> decide +kernel)) (fun z => by cases z) fun _ => ?_
        exact rx_out rfl (rx_out rfl (rx_up rfl ⟨ls, _, _, rfl, eb, hrb, hlf, by rw [letF_more he]; show All2 _ _ (_ ++ []); rw [List.append_nil]; exact hls⟩))
    · rintro σ' Hb ⟨ls, x3, x4, rfl, eb, hrb, hlf, hls⟩
      rw [hallp.len, List.take_length] at hls
      refine rx_retM (EM.en (en_tupleN (α := fun zs H2 => All2 (PairI H2) zs (wordL (evs.take p))) (by rfl) mt (en_cat (α := fun zs H2 => All2 (PairI H2) zs (letF 0 (evs.take p))) (β := fun zs H2 => All2 (PairI H2) zs ((openL (run (evs.take p))).map bk))
        (EN.weak (ev_nm 2) fun v H2 e2 ev => ⟨lf, ls, ev, e2 _ _ hlf, hls.imp fun _ _ => PairI.tx e2.tx⟩)
        (EN.weak (en_lcL (own := [("_law_i", 5)]) (xs := (openL (run (evs.take p))).map V.int) 5 rfl nd (blkOk_by (N := nWAt) (sc := defScope sWAt) (by decide +kernel)) (en_own OL hr (by rfl) (AV.cons (ev_nm 0) (AV.cons (ev_nm 1) AV.nil)) fun H1 e1 Q' k => ⟨hv, p, ks, evs, rfl, hHP.tx (eb.trans e1).tx, fun q0 H2 e2 hq => k _ _ e2 ⟨q0, rfl, sq_of hq⟩⟩) (by rw [List.length_map]; omega)
          (fun _ _ _ _ _ => pg_name (i := 5) nd rfl (Or.inl rfl)) (fun v => rfl) (fun n acc H2 => All2 (PairI H2) acc (((openL (run (evs.take p))).take n).map bk)) (fun _ _ _ _ tx h => h.imp fun _ _ => PairI.tx tx) True.intro ?_) ?_) ?_)) fun v H1 e1 ⟨q2, zs, H2, ev, hq2, hz2, e2⟩ H3 e3 => ?_)
      · intro n x acc Hc st' H' C' cl fp hx ec ea
        rw [List.getElem?_map] at hx
        obtain ⟨i, hi, rfl⟩ := Option.map_eq_some_iff.mp hx
        refine EN.weak (en_tupV (vs := [.int i, .int (-1)]) (AV.cons (ev_nm 5) (AV.cons (ev_neg ev_i) AV.nil)) (by show 2 ≤ 100000; decide)) fun v H2 e2 ⟨q2, ev, _, hq2⟩ => ?_
        rw [take_more hi, List.map_append]
        exact (ea.imp fun _ _ => PairI.tx e2.tx).app (All2.one ⟨q2, ev, hq2⟩)
      · rintro v H2 e2 ⟨D', acc, ev, _, hD, hl, hacc⟩
        rw [List.length_map, List.take_length] at hacc
        exact ⟨D', acc, ev, hD, hacc⟩
      · intro xs ys H2 H3 e2 h1 e3 h2
        refine ⟨?_, fun H4 e4 => (h1.imp fun _ _ => PairI.tx (e3.trans e4).tx).app (h2.imp fun _ _ => PairI.tx e4.tx)⟩
        rw [h1.len, h2.len, List.length_map]
        have := letF_len (evs.take p) 0
        omega
      · subst ev
        exact q q2 zs H3 ((eb.trans e1).trans e3) (e3 _ _ hq2) (hz2.imp fun _ _ => PairI.tx (e2.trans e3).tx)
end
end E5
set_option Elab.async false
set_option linter.all false
set_option maxRecDepth 100000
set_option maxHeartbeats 4000000
namespace E5
open PySem PySem.Spec PyProof.Rows L2 Evl Y
abbrev sPaired : Stmt := topS 45
abbrev nPaired : List Str := ["_law_history_here", "_law_p", "_law_word", "_law_kept_here", "_law_at", "_law_event_here", "_law_signs", "_law_i", "_law_sign"]
abbrev psPaired : List Str := ["_law_history_here", "_law_p", "_law_word"]
theorem scPaired : FnScope nPaired psPaired (defScope sPaired) := ⟨rfl, rfl, rfl, by decide +kernel, rfl, by decide +kernel, by decide +kernel⟩
theorem eqv_L (xs : List Int) : PyData.eqv (.list (xs.map PyData.int)) (.list (xs.map PyData.int)) = true := eqvAll_of fun d hd => by
  obtain ⟨x, _, rfl⟩ := List.mem_map.mp hd
  show (x == x) = true
  exact beq_self_eq_true x
section
variable {P : Program} {w : World} {K : PySem.W.Frag} {mg : Str → Option Value} {base : Heap}
def spPaired : Sp := fun vs H Q _ => ∃ (hv wv : Addr) (p : Nat) (ks : List Str) (evs : List Ev) (zs : List V), vs = [.ref hv, .int (p : Int), .ref wv] ∧ HP H hv ks evs p ∧ H wv = some (.tup zs) ∧ All2 (PairI H) zs (wordL (evs.take p)) ∧ ∀ H', Ex H H' → Q (.bl true) H'
theorem own_paired (D : Def K mg "_law_is_paired" sPaired) (OK : Own P w K mg base "_law_kept" psHP 1 spKept) (me : mg "enumerate" = none) (ml : mg "len" = none) (msu : mg "sum" = none) : Own P w K mg base "_law_is_paired" psPaired 2 spPaired := by
  refine D.own scPaired (fun vs H Q E h => ?_) (fun _ _ _ _ _ _ us hl => match us, hl with | [_, _, _], _ => rfl) ?_
  · obtain ⟨hv, wv, p, ks, evs, zs, rfl, _⟩ := h
    rfl
  · rintro X H vs Q E ⟨f, cdv, A, outer, st, rfl⟩ hr h
    obtain ⟨hv, wv, p, ks, evs, zs, rfl, hHP, hwv, hzs, q⟩ := h
    obtain ⟨⟨as, ha, hall⟩, hV, hz, hp⟩ := id hHP
    have nd := scPaired.nd
    have hallp := hall.take p
    have hVp := hV.take p
    have hwl : zs.length ≤ 100000 := by
      rw [hzs.len]
      have h1 := letF_len (evs.take p) 0
      have h2 := openL_len hVp.good
      rw [run_n] at h2
      unfold wordL
      rw [List.length_append, List.length_map]
      rw [List.length_take] at h1 h2
      omega
    refine rx_setM 3 (EM.en (en_own (φ := fun v H1 => ∃ q0, v = .ref q0 ∧ H1 q0 = some (.tup ((keptE (evs.take p)).map V.int))) OK (hr.mono (by decide)) (by rfl) (AV.cons (ev_nm 0) (AV.cons (ev_nm 1) AV.nil)) fun H1 e1 Q' k => ⟨hv, p, ks, evs, rfl, hHP.tx e1.tx, fun q0 H2 e2 hq => k _ _ e2 ⟨q0, rfl, hq⟩⟩) fun v H1 e1 ⟨kp, ev, hkp⟩ => ?_) nd
    subst ev
    refine rx_forETN 4 5 PassesOwn.never rfl (by rfl) me (en_slTt (lv := none) (hv := some (p : Int)) (ev_nm 0) (e1 _ _ ha) ov_n (ov_s (ev_nm 1))) (fun v H2 e2 ⟨r, ev, hr'⟩ => ?_) nd
    rw [cutV_take] at hr'
    refine ⟨r, as.take p, fun n σ' Hb => ∃ (x4 x5 x6 : Option V), σ' = [some (.ref hv), some (.int (p : Int)), some (.ref wv), some (.ref kp), x4, x5, x6, none, none] ∧ Ex H2 Hb, ev, st_of hr', ⟨none, none, none, rfl, Ex.refl _⟩, fun n σ' Hb _ ⟨_, _, _, _, e⟩ => st_of (e _ _ hr'), ?_, ?_⟩
    · rintro n x σ' Hb hx ⟨x4, x5, x6, rfl, eb⟩
      obtain ⟨e, he, pe, evp, hpe⟩ := hallp.at hx
      subst evp
      have eHb : Ex H Hb := (e1.trans e2).trans eb
      have hpe := eHb _ _ hpe
      have hkb := (e2.trans eb) _ _ hkp
      refine rx_setTP (own := [("_law_i", 7), ("_law_sign", 8)]) 6 7 8 rfl nd (blkOk_by (N := nPaired) (sc := defScope sPaired) (by decide +kernel)) (ev_nm 2) (st_of (eHb _ _ hwv)) hwl (fun x hx => ?_)
        (fun _ _ _ _ _ => pg_tup rfl (pgs_cons (pg_name (i := 7) nd rfl (Or.inl rfl)) (pgs_cons (pg_name (i := 8) nd rfl (Or.inl rfl)) pgs_nil))) (fun v v' => rfl) (fun m acc => acc = (sg (n : Int) ((wordL (evs.take p)).take m)).map V.int) rfl ?_ ?_
      · obtain ⟨m, hm⟩ := List.mem_iff_getElem?.mp hx
        obtain ⟨qq, _, a, ea, ha'⟩ := hzs.at hm
        exact ⟨a, _, _, ea, eHb _ _ ha'⟩
      · intro m q0 y z acc Hc st' H' C' cl fp hm hq0 ec ea
        obtain ⟨qq, hqq, a, ea', ha'⟩ := hzs.at hm
        cases ea'
        have ha' := eHb _ _ ha'
        rw [hq0] at ha'
        cases ha'
        refine td_of (TN.is (tn_eq (ev_nm 7) (ev_nm 4) (by rfl)) (b' := decide (qq.1 = (n : Int))) (decide_eq_decide.mpr ⟨fun h => V.int.inj h, fun h => by rw [h]⟩)) fun H5 e5 => ?_
        rw [take_more hqq, sg_app, List.map_append, show [qq] = [(qq.1, qq.2)] from rfl, sg_one]
        by_cases hj : qq.1 = (n : Int)
        · rw [decide_eq_true hj]
          refine iteT fun _ _ _ _ _ => EN.weak (ev_nm 8) fun v H3 _ ev => ?_
          rw [ev, ea, if_pos hj]; rfl
        · rw [decide_eq_false hj]
          refine iteF ?_
          rw [ea, if_neg hj]; exact (List.append_nil _).symm
      · intro D' acc H3 e3 nD hD hl ea
        rw [hzs.len, List.take_length] at ea
        subst ea
        have hpe := e3 _ _ hpe
        have hk3 := e3 _ _ hkb
        cases e with
        | doo t k =>
          have hsg := sg_step hVp (step_pos hVp he)
          refine rx_when (bb := false) (TN.is (tn_and (TN.is (tn_eq (ev_ixT (ev_nm 5) ev_i (st_of hpe) (by rfl)) ev_s (by rfl)) (b' := true) (by decide +kernel)) fun _ => tn_neD (d := .list ((sg (n : Int) (wordL (evs.take p))).map PyData.int)) (d' := .list ((if t ∈ keptE (evs.take p) then [1] else [1, -1] : List Int).map PyData.int)) hr.units (ev_nm 6) (.lst (sq_of hD) (dp_nums _))
            (en_if (TN.is (tn_in (ev_ixT (ev_nm 5) ev_i (st_of hpe) (by rfl)) (ev_nm 3) (.inr (st_of hk3)) (by rfl) (flat_ints _)) in_ints) (fun hb => ?_) fun hb => ?_) (shaped_ints _) (shaped_ints _)) ?_) (fun z => by cases z) fun _ => ?_
          · rw [decide_eq_true_eq] at hb
            refine EN.weak (en_lstV (AV.cons ev_i AV.nil) (by show 1 ≤ 100000; decide)) fun v H4 _ ⟨r4, ev4, _, h4⟩ => ?_
            rw [if_pos hb, ev4]
            exact .lst (sq_of h4) (dp_nums [1])
          · rw [decide_eq_false_iff_not] at hb
            refine EN.weak (en_lstV (AV.cons ev_i (AV.cons (ev_neg ev_i) AV.nil)) (by show 2 ≤ 100000; decide)) fun v H4 _ ⟨r4, ev4, _, h4⟩ => ?_
            rw [if_neg hb, ev4]
            exact .lst (sq_of h4) (dp_nums [1, -1])
          · rw [hsg, eqv_L]; rfl
          refine rx_when (bb := false) (TN.is (tn_and (TN.is (tn_ne (ev_ixT (ev_nm 5) ev_i (st_of hpe) (by rfl)) ev_s (by rfl)) (b' := false) (by decide +kernel)) (cc := false) fun z => by cases z) rfl) (fun z => by cases z) fun _ => rx_up rfl ⟨_, _, _, rfl, eb.trans e3⟩
        | back t i =>
          have hsg := sg_none hVp (step_no hVp fun t' k' => by rw [he]; exact nofun)
          refine rx_when (bb := false) (TN.is (tn_and (TN.is (tn_eq (ev_ixT (ev_nm 5) ev_i (st_of hpe) (by rfl)) ev_s (by rfl)) (b' := false) (by decide +kernel)) (cc := false) fun z => by cases z) rfl) (fun z => by cases z) fun _ => ?_
          refine rx_when (bb := false) (TN.is (tn_and (TN.is (tn_ne (ev_ixT (ev_nm 5) ev_i (st_of hpe) (by rfl)) ev_s (by rfl)) (b' := true) (by decide +kernel)) fun _ => tn_neNil hr.units (ev_nm 6) (sq_of hD)) (by rw [hsg]; rfl)) (fun z => by cases z) fun _ => rx_up rfl ⟨_, _, _, rfl, eb.trans e3⟩
        | fin t b =>
          have hsg := sg_none hVp (step_no hVp fun t' k' => by rw [he]; exact nofun)
          refine rx_when (bb := false) (TN.is (tn_and (TN.is (tn_eq (ev_ixT (ev_nm 5) ev_i (st_of hpe) (by rfl)) ev_s (by rfl)) (b' := false) (by cases b <;> decide +kernel)) (cc := false) fun z => by cases z) rfl) (fun z => by cases z) fun _ => ?_
          refine rx_when (bb := false) (TN.is (tn_and (TN.is (tn_ne (ev_ixT (ev_nm 5) ev_i (st_of hpe) (by rfl)) ev_s (by rfl)) (b' := true) (by cases b <;> decide +kernel)) fun _ => tn_neNil hr.units (ev_nm 6) (sq_of hD)) (by rw [hsg]; rfl)) (fun z => by cases z) fun _ => rx_up rfl ⟨_, _, _, rfl, eb.trans e3⟩
    · rintro σ' Hb ⟨x4, x5, x6, rfl, eb⟩
      have eHb : Ex H Hb := (e1.trans e2).trans eb
      have hkb := (e2.trans eb) _ _ hkp
      have hl : (as.take p).length ≤ 100000 := by rw [List.length_take, hall.len]; omega
      refine rx_ret (EV.is (ev_eq (ev_len (by rfl) ml (ev_nm 2) (.inr (st_of (eHb _ _ hwv)))) (ev_sum (ns := (evs.take p).flatMap (cnt (keptE (evs.take p)))) rfl (by rfl) msu (EN.weak (en_lcTNt (own := [("_law_event_here", 5)]) (xs := as.take p) 5 rfl nd (blkOk_by (N := nPaired) (sc := defScope sPaired) (by decide +kernel)) (EN.weak (en_slTt (lv := none) (hv := some (p : Int)) (ev_nm 0) (eHb _ _ ha) ov_n (ov_s (ev_nm 1))) fun v H3 _ ⟨r, ev, hr'⟩ => ⟨r, ev, st_of (by rw [cutV_take] at hr'; exact hr')⟩) hl
        (fun _ _ _ _ _ => pg_name (i := 5) nd rfl (Or.inl rfl)) (fun v => rfl) (fun n acc _ => acc = (((evs.take p).take n).flatMap (cnt (keptE (evs.take p)))).map V.int) (fun _ _ _ _ _ z => z) rfl ?_) ?_)) (by rfl)) ?_) fun H3 e3 => q H3 (eHb.trans e3)
      · intro n x acc Hc st' H' C' cl fp hx ec ea
        obtain ⟨e, he, pe, evp, hpe⟩ := hallp.at hx
        subst evp
        have hpe := (eHb.trans ec) _ _ hpe
        have hkc := ec _ _ hkb
        rw [take_more he, List.flatMap_append, List.map_append]
        cases e with
        | doo t k =>
          refine td_of (TN.is (tn_eq (ev_ixT (ev_nm 5) ev_i (st_of hpe) (by rfl)) ev_s (by rfl)) (b' := true) (by decide +kernel)) fun H5 e5 => iteT fun _ _ _ _ _ => EN.weak (ev_if (v := .int (if t ∈ keptE (evs.take p) then 1 else 2)) (TN.is (tn_in (ev_ixT (ev_nm 5) ev_i (st_of (e5 _ _ hpe)) (by rfl)) (ev_nm 3) (.inr (st_of (e5 _ _ hkc))) (by rfl) (flat_ints _)) in_ints) (fun hb => EV.is ev_i ?_) fun hb => EV.is ev_i ?_) fun v H6 _ ev => ?_
          · rw [decide_eq_true_eq] at hb
            rw [if_pos hb]
          · rw [decide_eq_false_iff_not] at hb
            rw [if_neg hb]
          · rw [ev, ea]; rfl
        | back t i =>
          refine td_of (TN.is (tn_eq (ev_ixT (ev_nm 5) ev_i (st_of hpe) (by rfl)) ev_s (by rfl)) (b' := false) (by decide +kernel)) fun H5 e5 => iteF ?_
          rw [ea]; exact (List.append_nil _).symm
        | fin t b =>
          refine td_of (TN.is (tn_eq (ev_ixT (ev_nm 5) ev_i (st_of hpe) (by rfl)) ev_s (by rfl)) (b' := false) (by cases b <;> decide +kernel)) fun H5 e5 => iteF ?_
          rw [ea]; exact (List.append_nil _).symm
      · rintro v H3 e3 ⟨D', acc, ev, _, hD, _, ea⟩
        refine ⟨D', acc, ev, hD, ?_⟩
        rw [ea, hallp.len, List.take_length]
      · rw [hzs.len, word_len hVp, decide_eq_true rfl]
end
end E5
set_option Elab.async false
set_option linter.all false
set_option maxRecDepth 100000
set_option maxHeartbeats 4000000
namespace Y
open PySem PySem.Spec PyProof.Rows L2 Evl
section
variable {X : Cx} {σ : L2.St} {H : Hp} {a b c : Expr} {pos : Pos} {D : Ends} {rest ss tt : List Stmt} {bb : Bool} {φ : V → Hp → Prop}
/-- both ways of an if lead to one place -/
theorem rx_ifJ (J : L2.St → Hp → Prop) (ht : TN X c σ H bb) (h1 : bb = true → RX X ss { D with nx := UpS J } σ H) (h2 : bb = false → RX X tt { D with nx := UpS J } σ H) (hj : ∀ σ' H', J σ' H' → RX X rest D σ' H') : RX X (.If c ss tt pos :: rest) D σ H :=
  rx_if ht (fun q => ⟨fun H1 e1 => semS_ends ((h1 q).run H1 e1) (fun σ' H' ⟨Hb, e, j⟩ => (hj σ' Hb j).run H' e) (fun _ _ z => z) (fun _ _ z => z) fun _ _ z => z⟩)
    fun q => ⟨fun H1 e1 => semS_ends ((h2 q).run H1 e1) (fun σ' H' ⟨Hb, e, j⟩ => (hj σ' Hb j).run H' e) (fun _ _ z => z) (fun _ _ z => z) fun _ _ z => z⟩
/-- (a,) -/
theorem en_tup1N {x1} (ha : EN X a σ H φ) (he : starEach [a] X.env = (false, eval a X.env) :: starEach [] X.env := by rfl) : EN X (.Tuple [a] x1 pos) σ H fun v H2 => ∃ (p : Addr) (u : V) (H3 : Hp), v = .ref p ∧ H2 p = some (.tup [u]) ∧ φ u H3 ∧ Ex H3 H2 :=
  EN.of (pe_tup (pa_cons pe_sem pa_nil he)) fun H1 e1 => sem_mono (ha H1 e1) fun u H2 ⟨e2, q⟩ => ⟨by show 1 ≤ sizeLine; decide, fun p hp => ⟨e2.trans (Ex.new hp), p, u, H2, rfl, upd_same, q, Ex.new hp⟩⟩
end
end Y
set_option Elab.async false
set_option linter.all false
set_option maxRecDepth 100000
set_option maxHeartbeats 4000000
namespace E5
open PySem PySem.Spec PyProof.Rows L2 Evl Y
abbrev sLaw : Stmt := topS 46
abbrev nLaw : List Str := ["_law_script", "_law_deck_here", "_law_go", "_law_table_here", "_law_history_here", "_law_last", "_law_p", "_law_due", "_law_told", "_law_ahead", "_law_event_here", "_law_more"]
theorem scLaw : FnScope nLaw ["_law_script"] (defScope sLaw) := ⟨rfl, rfl, rfl, by decide +kernel, rfl, by decide +kernel, by decide +kernel⟩
abbrev ps3 : List Str := ["table", "history", "p"]
structure LawO (P : Program) (w : World) (K : PySem.W.Frag) (mg : Str → Option Value) (base : Heap) : Prop where
  deck : Own P w K mg base "_law_deck" ["_law_script"] 1 (spDeck P w K)
  draw : Own P w K mg base "_law_draw" psDraw 1 (spDraw P w)
  table : Own P w K mg base "_law_table" psTable 4 (spTable P w K)
  hist : Own P w K mg base "_law_history" psHistory 4 (spHistory P w)
  kept : Own P w K mg base "_law_kept" psHP 1 spKept
  left : Own P w K mg base "_law_left" psHP 4 spLeft
  wat : Own P w K mg base "_law_word_at" psHP 5 spWAt
  paired : Own P w K mg base "_law_is_paired" psPaired 2 spPaired
  k1 : Own P w K mg base "kept_at" ps3 7 spKeptAt
  k2 : OwnK P w K mg base "kept_at" ps3 ["p", "table", "history"] [1, 2, 0] 7 spKeptAt
  o1 : Own P w K mg base "open_at" ps3 7 spOpenAt
  o2 : OwnK P w K mg base "open_at" ps3 ["history", "table", "p"] [1, 0, 2] 7 spOpenAt
  w1 : Own P w K mg base "word_at" ps3 7 spWordAt
  w2 : OwnK P w K mg base "word_at" ps3 ["table", "p", "history"] [0, 2, 1] 7 spWordAt
  repr : mg "repr" = none
  tuple : mg "tuple" = none
  range : mg "range" = none
  len : mg "len" = none
  int : mg "int" = none
/-! ### what is told of a cut -/
structure Tri (H : Hp) (v : V) (l : List Ev) : Prop where
  ex : ∃ pt a1 a2 a3 zs, v = .ref pt ∧ H pt = some (.tup [.ref a1, .ref a2, .ref a3]) ∧ H a1 = some (.tup ((keptE l).map V.int)) ∧ H a2 = some (.tup ((openL (run l)).map V.int)) ∧ H a3 = some (.tup zs) ∧ All2 (PairI H) zs (wordL l)
theorem Tri.tx {H H' : Hp} (x : Tx H H') {v : V} {l : List Ev} (h : Tri H v l) : Tri H' v l := let ⟨a, b, c, d, z, e, h1, h2, h3, h4, h5⟩ := h.ex; ⟨⟨a, b, c, d, z, e, x _ _ h1, x _ _ h2, x _ _ h3, x _ _ h4, h5.imp fun _ _ => PairI.tx x⟩⟩
theorem dp_pairs {K : PySem.W.Frag} {H : Hp} : ∀ {zs : List V} {ps : List (Int × Int)}, All2 (PairI H) zs ps → DpAll K H zs (ps.map dPr)
  | [], [], _ => .nil
  | z :: zs, q :: ps, h => by
    obtain ⟨⟨a, ez, ha⟩, h2⟩ := h
    subst ez
    exact .cons (.tup (st_of ha) (.cons (.int q.1) (.cons (.int q.2) .nil))) (dp_pairs h2)
  | [], _ :: _, h => h.elim
  | _ :: _, [], h => h.elim
theorem dp_P {K : PySem.W.Frag} {H : Hp} {a : Addr} {zs : List V} {ps : List (Int × Int)} (h : H a = some (.tup zs)) (hz : All2 (PairI H) zs ps) : Dp K H (.ref a) (dP ps) := .tup (st_of h) (dp_pairs hz)
abbrev dT (l : List Ev) : PyData := .tuple [dI (keptE l), dI (openL (run l)), dP (wordL l)]
theorem Tri.dp {K : PySem.W.Frag} {H : Hp} {v : V} {l : List Ev} (h : Tri H v l) : Dp K H v (dT l) := by
  obtain ⟨a, b, c, d, z, e, h1, h2, h3, h4, h5⟩ := h.ex
  subst e
  exact .tup (st_of h1) (.cons (dp_I h2) (.cons (dp_I h3) (.cons (dp_P h4 h5) .nil)))
theorem word_lim {ks : List Str} {l : List Ev} (hV : Valid ks l) : (wordL l).length ≤ 2 * l.length := by
  have h1 := letF_len l 0
  have h2 := openL_len hV.good
  rw [run_n] at h2
  unfold wordL
  rw [List.length_append, List.length_map]; omega
theorem sh_P {ks : List Str} {l : List Ev} (hV : Valid ks l) (hl : l.length ≤ 100) : Sh (dP (wordL l)) 2 100000 :=
  Sh.P (fun q hq => by
    obtain ⟨⟨a, b⟩, c⟩ := word_range hV q hq
    refine ⟨?_, ?_⟩
    · show q.1.natAbs < 10 ^ 41
      have : q.1.natAbs ≤ 100 := by omega
      exact Nat.lt_of_le_of_lt this (by decide)
    · show q.2.natAbs < 10 ^ 41
      have : q.2.natAbs ≤ 100 := by omega
      exact Nat.lt_of_le_of_lt this (by decide)) (by have := word_lim hV; omega)
theorem sh_T {ks : List Str} {l : List Ev} (hV : Valid ks l) (hl : l.length ≤ 100) (ht : ∀ e ∈ l, e.t < 10 ^ 40) : Sh (dT l) 3 400000 := by
  have g := hV.good
  have h1 : Sh (dI (keptE l)) 1 50000 := by
    refine Sh.I (fun t h => ?_) (by have := keptE_len l; omega)
    unfold keptE at h
    obtain ⟨e, he, h⟩ := List.mem_filterMap.mp h
    have h2 := ht e he
    obtain ⟨m, hm⟩ := List.mem_iff_getElem?.mp he
    have h3 := (hV m e hm).1
    cases e with
    | doo u k => cases h
    | back u i => cases h
    | fin u b =>
      cases b with
      | false => cases h
      | true =>
        cases h
        have h2 : t < 10 ^ 40 := h2
        have h3 : 0 ≤ t := h3
        show t.natAbs < 10 ^ 41
        omega
  have h2 : Sh (dI (openL (run l))) 1 50000 := by
    have hn := run_n l
    refine Sh.I (fun i h => ?_) (by have := openL_len g; omega)
    obtain ⟨t, a, _⟩ := (openL_mem g i).mp h
    have := g.lt t i a
    show i.natAbs < 10 ^ 41
    have : i.natAbs ≤ 100 := by omega
    exact Nat.lt_of_le_of_lt this (by decide)
  have h3 := sh_P hV hl
  refine (Sh.tup (ds := [dI (keptE l), dI (openL (run l)), dP (wordL l)]) (dep := 2) (len := 100000) (n := 3) (fun d hd => ?_) (Nat.le_refl 3)).mono (Nat.le_refl _) (by decide)
  rcases List.mem_cons.mp hd with rfl | hd
  · exact h1.mono (by decide) (by decide)
  · rcases List.mem_cons.mp hd with rfl | hd
    · exact h2.mono (by decide) (by decide)
    · rcases List.mem_cons.mp hd with rfl | hd
      · exact h3
      · exact nomatch hd
theorem sh_L {ks : List Str} {l : List Ev} (hV : Valid ks l) (hl : l.length ≤ 100) : Sh (dP (letF 0 l)) 2 100000 :=
  Sh.P (fun q hq => by
    obtain ⟨⟨a, b⟩, c⟩ := word_range hV q (by unfold wordL; exact List.mem_append_left _ hq)
    refine ⟨?_, ?_⟩
    · show q.1.natAbs < 10 ^ 41
      have : q.1.natAbs ≤ 100 := by omega
      exact Nat.lt_of_le_of_lt this (by decide)
    · show q.2.natAbs < 10 ^ 41
      have : q.2.natAbs ≤ 100 := by omega
      exact Nat.lt_of_le_of_lt this (by decide)) (by have := letF_len l 0; omega)
theorem w_db : ¬ (("do" : Str) = "back") := by decide +kernel
theorem w_df : ∀ b, ¬ (("do" : Str) = finS b) := fun b => by cases b <;> decide +kernel
theorem w_bf : ∀ b, ¬ (("back" : Str) = finS b) := fun b => by cases b <;> decide +kernel
theorem do_back : ¬ ((Sum.inr ("do" : Str) : Key) = Sum.inr ("back" : Str)) := fun z => w_db (Sum.inr.inj z)
theorem do_fin (b : Bool) : ¬ ((Sum.inr ("do" : Str) : Key) = Sum.inr (finS b)) := fun z => w_df b (Sum.inr.inj z)
theorem back_fin (b : Bool) : ¬ ((Sum.inr ("back" : Str) : Key) = Sum.inr (finS b)) := fun z => w_bf b (Sum.inr.inj z)
/-- the last item of an event -/
def lastV : Ev → V
  | .doo _ k => .str k
  | .back _ i => .int i
  | .fin t _ => .int t
theorem last_at (e : Ev) : atI e.vals (-1) = some (lastV e) := by cases e <;> rfl
def headS : Ev → Str
  | .doo _ _ => "do"
  | .back _ _ => "back"
  | .fin _ b => finS b
theorem head_at (e : Ev) : atI e.vals 0 = some (.str (headS e)) := by cases e <;> rfl
section
variable {P : Program} {w : World} {K : PySem.W.Frag} {mg : Str → Option Value} {base : Heap}
def spLaw (K : PySem.W.Frag) : Sp := fun vs H Q _ => ∃ (a : Addr) (ns : List Int), vs = [.ref a] ∧ SqL K H a (ns.map V.int) ∧ ns.length ≤ 63 ∧ ∀ H', Ex H H' → Q (.bl true) H'
theorem ok_law {lf : Addr} {fd : FuncData} (D : Fun K "law" "law" sLaw lf fd) (O : LawO P w K mg base) : FnG P w K mg base 8 lf fd ["_law_script"] (spLaw K) := by
  refine fun_G (sp := spLaw K) (ps := ["_law_script"]) (k := 7) D scLaw (fun vs H Q E h => ?_) ?_
  · obtain ⟨a, ns, rfl, _⟩ := h
    rfl
  · rintro X H vs Q E ⟨f, cdv, A, outer, st, rfl⟩ hgu hr h
    obtain ⟨sa, ns, rfl, hx, hz, q⟩ := h
    have nd := scLaw.nd
    have hu := hu_of hr
    have hr1 : Room 1 _ := hr.mono (by decide)
    have hr2 : Room 2 _ := hr.mono (by decide)
    have hr4 : Room 4 _ := hr.mono (by decide)
    have hr5 : Room 5 _ := hr.mono (by decide)
    -- the deck
    refine rx_setM 1 (EM.en (en_own (φ := fun v H2 => ∃ dk, v = .ref dk ∧ Deck P w H2 dk) O.deck hr1 (by rfl) (AV.cons (ev_nm 0) AV.nil) fun H1 e1 Q' k => ⟨sa, ns, rfl, ex_l e1 hx, hz, fun dk H2 hd e2 => k _ _ e2 ⟨dk, rfl, hd⟩⟩) fun v H1 e1 ⟨dk, ev, hd⟩ => ?_) nd
    subst ev
    refine rx_forR 2 PassesOwn.never rfl (by rfl) O.range ev_i ⟨by decide, by decide⟩ (fun n σ' Hb => ∃ (x2 x3 x4 x5 x6 x7 x8 x9 x10 x11 : Option V), σ' = [some (.ref sa), some (.ref dk), x2, x3, x4, x5, x6, x7, x8, x9, x10, x11] ∧ Ex H1 Hb) ⟨_, _, _, _, _, _, _, _, _, _, rfl, Ex.refl _⟩ ?_ ?_ nd
    rotate_left
    · rintro σ' Hb ⟨x2, x3, x4, x5, x6, x7, x8, x9, x10, x11, rfl, eb⟩
      exact rx_ret ev_b fun H2 e2 => q H2 ((e1.trans eb).trans e2)
    rintro go σ' Hb hgo ⟨x2, x3, x4, x5, x6, x7, x8, x9, x10, x11, rfl, eb⟩
    have hd := hd.mono eb
    -- the table
    refine rx_setM 3 (EM.en (en_ownA (Φ := fun us H2 => ∃ l, us = [.ref dk, .ref l] ∧ SqL K H2 l (([1, 2, 3, 6] : List Int).map V.int)) (φ := fun v H2 => ∃ tv ks pairs, v = .ref tv ∧ TabAt H2 tv ks pairs ∧ TableOk ks pairs ∧ ks ≠ []) O.table hr4 (by rfl) (AN.cons (ev_nm 1) fun v H2 e2 ev => AN.cons (en_lstV (AV.cons ev_i (AV.cons ev_i (AV.cons ev_i (AV.cons ev_i AV.nil)))) (by show 4 ≤ 100000; decide)) fun v' H3 e3 ⟨l, ev', _, hl⟩ => AN.nil fun H4 e4 => ⟨l, by rw [ev, ev'], sq_of (e4 _ _ hl)⟩)
      fun us H2 e2 ⟨l, eu, hl⟩ Q' k => ⟨dk, l, [1, 2, 3, 6], eu, hd.mono e2, hl, by decide, by decide, by decide, fun kinds pairs r H3 ok hn ht e3 => k _ _ e3 ⟨r, kinds, pairs, rfl, ht, ok, fun z => ?_⟩⟩) fun v H2 e2 ⟨tv, ks, pairs, ev, ht, ok, kne⟩ => ?_) nd
    · rw [z] at hn; exact absurd hn (by decide)
    subst ev
    have hka : KindsAt H2 tv ks := by
      obtain ⟨k, c, _, a, b, _⟩ := ht
      exact ⟨⟨k, .ref c, a, b⟩, kne, ok.few, ok.wd⟩
    -- the history
    refine rx_setM 4 (EM.en (en_ownA (Φ := fun us H3 => ∃ m : Int, us = [.ref dk, .ref tv, .int m] ∧ 0 ≤ m ∧ m < 21) (φ := fun v H3 => ∃ hv evs, v = .ref hv ∧ HistAt H3 hv evs ∧ Valid ks evs ∧ evs.length ≤ 24 ∧ ∀ e ∈ evs, e.t < 10 ^ 40) O.hist hr4 (by rfl) (AN.cons (ev_nm 1) fun v H3 e3 ev => AN.cons (ev_nm 3) fun v' H4 e4 ev' => AN.cons (en_draw (n := 21) O.draw hr1 (by rfl) (ev_nm 1) ev_i (hd.mono ((e2.trans e3).trans e4)) (by decide) (by decide)) fun v3 H5 e5 ⟨m, ev3, m0, m1⟩ => AN.nil fun H6 e6 => ⟨m, by rw [ev, ev', ev3], m0, m1⟩)
      fun us H3 e3 ⟨m, eu, m0, m1⟩ Q' k => ⟨dk, tv, m, ks, eu, hd.mono (e2.trans e3), hka.tx e3.tx, m0, by omega, fun hv evs H4 e4 hh hV hl htop => k _ _ e4 ⟨hv, evs, rfl, hh, hV, by omega, htop⟩⟩) fun v H3 e3 ⟨hv, evs, ev, hh, hV, hlen, htop⟩ => ?_) nd
    subst ev
    obtain ⟨as, hha, hall⟩ := id hh
    -- last = ()
    refine rx_setM 5 (EM.en (en_tupV AV.nil (Nat.zero_le _)) fun v H4 e4 ⟨l0, ev, _, hl0⟩ => ?_) nd
    subst ev
    have th4 : THAt H4 tv hv ks evs := ⟨⟨pairs, ht.tx (e3.trans e4).tx, ok⟩, hh.tx e4.tx, hV, by omega⟩
    have eH4 : Ex H1 H4 := ((eb.trans e2).trans e3).trans e4
    refine rx_forR 6 PassesOwn.never rfl (by rfl) O.range (ev_add (ev_len (by rfl) O.len (ev_nm 4) (.inr (st_of (e4 _ _ hha)))) ev_i) ⟨by omega, by rw [hall.len]; omega⟩ (fun n σ' Hb => ∃ (lq : Addr) (zs : List V) (x6 x7 x8 x9 x10 x11 : Option V), σ' = [some (.ref sa), some (.ref dk), some (.int (go : Int)), some (.ref tv), some (.ref hv), some (.ref lq), x6, x7, x8, x9, x10, x11] ∧ Ex H4 Hb ∧ Hb lq = some (.tup zs) ∧ All2 (PairI Hb) zs (letF 0 (evs.take (n - 1))))
      ⟨l0, [], _, _, _, _, _, _, rfl, Ex.refl _, hl0, True.intro⟩ ?_ ?_ nd
    rotate_left
    · rintro σ' Hc ⟨lq, zs, y6, y7, y8, y9, y10, y11, rfl, ec, _, _⟩
      exact rx_up rfl ⟨_, _, _, _, _, _, _, _, _, _, rfl, eH4.trans ec⟩
    rintro n σ' Hc hn ⟨lq, zs, y6, y7, y8, y9, y10, y11, rfl, ec, hlq, hzs⟩
    have hn' : n ≤ evs.length := by rw [hall.len] at hn; omega
    have th : THAt Hc tv hv ks evs := th4.tx ec.tx
    have hHP : HP Hc hv ks evs n := ⟨th.2.1, hV, by omega, hn'⟩
    have hVn := hV.take n
    have hln : (evs.take n).length ≤ 100 := by rw [List.length_take]; omega
    have htn : ∀ e ∈ evs.take n, e.t < 10 ^ 40 := fun e he => htop e (List.mem_of_mem_take he)
    -- due
    refine rx_setM 7 (em_tup (AM.cons (EM.en (en_own (φ := fun v H5 => ∃ q0, v = .ref q0 ∧ H5 q0 = some (.tup ((keptE (evs.take n)).map V.int))) O.kept hr1 (by rfl) (AV.cons (ev_nm 4) (AV.cons (ev_nm 6) AV.nil)) fun H5 e5 Q' k => ⟨hv, n, ks, evs, rfl, hHP.tx e5.tx, fun q0 H6 e6 hq => k _ _ e6 ⟨q0, rfl, hq⟩⟩) fun v1 H5 e5 ⟨a1, ev1, h1⟩ =>
      AM.cons (EM.en (en_tupleN (α := fun zs _ => zs = (openL (run (evs.take n))).map V.int) (by rfl) O.tuple (en_own (φ := LP fun zs _ => zs = (openL (run (evs.take n))).map V.int) O.left hr4 (by rfl) (AV.cons (ev_nm 4) (AV.cons (ev_nm 6) AV.nil)) fun H6 e6 Q' k => ⟨hv, n, ks, evs, rfl, hHP.tx (e5.trans e6).tx, fun q0 H7 e7 hq => k _ _ e7 ⟨q0, _, rfl, hq, rfl⟩⟩)) fun v2 H6 e6 ⟨a2, xs2, H6', ev2, h2, ex2, _⟩ =>
      AM.cons (EM.en (en_own (φ := fun v H5 => ∃ q0 zs, v = .ref q0 ∧ H5 q0 = some (.tup zs) ∧ All2 (PairI H5) zs (wordL (evs.take n))) O.wat hr5 (by rfl) (AV.cons (ev_nm 4) (AV.cons (ev_nm 6) AV.nil)) fun H7 e7 Q' k => ⟨hv, n, ks, evs, rfl, hHP.tx ((e5.trans e6).trans e7).tx, fun q0 zs H8 e8 hq hz => k _ _ e8 ⟨q0, zs, rfl, hq, hz⟩⟩) fun v3 H7 e7 ⟨a3, zs3, ev3, h3, hz3⟩ => AM.nil ⟨by show 3 ≤ 100000; decide, fun pt hpt => ?_⟩))))) nd
    subst ev1 ev2 ev3 ex2
    have eP := Ex.new (o := .tup [.ref a1, .ref a2, .ref a3]) hpt
    have eD : Ex Hc (upd H7 pt (.tup [.ref a1, .ref a2, .ref a3])) := ((e5.trans e6).trans e7).trans eP
    have hdue : Tri (upd H7 pt (.tup [.ref a1, .ref a2, .ref a3])) (.ref pt) (evs.take n) := ⟨⟨pt, a1, a2, a3, zs3, rfl, upd_same, ((e6.trans e7).trans eP) _ _ h1, (e7.trans eP) _ _ h2, eP _ _ h3, hz3.imp fun _ _ => PairI.tx eP.tx⟩⟩
    revert eD hdue
    generalize upd H7 pt (.tup [.ref a1, .ref a2, .ref a3]) = Hd
    intro eD hdue
    have thd := th.tx eD.tx
    -- told
    refine rx_ifJ (fun σ' Hb => ∃ (t8 : V), σ' = [some (.ref sa), some (.ref dk), some (.int (go : Int)), some (.ref tv), some (.ref hv), some (.ref lq), some (.int (n : Int)), some (.ref pt), some t8, y9, y10, y11] ∧ Ex Hd Hb ∧ Tri Hb t8 (evs.take n)) (tn_eq (ev_mod (ev_int rfl (by rfl) O.int (ev_nm 6)) ev_i (by decide)) ev_i (by rfl)) (fun _ => ?_) (fun _ => ?_) ?_
    · refine rx_setM 8 (em_tup (AM.cons (EM.en (en_own (φ := fun v H5 => ∃ q0, v = .ref q0 ∧ H5 q0 = some (.tup ((keptL (run (evs.take n))).map V.int))) O.k1 hr (by rfl) (AV.cons (ev_nm 3) (AV.cons (ev_nm 4) (AV.cons (ev_nm 6) AV.nil))) fun H5 e5 Q' k => ⟨tv, hv, n, ks, evs, rfl, thd.tx e5.tx, hn', fun q0 H6 e6 hq => k _ _ e6 ⟨q0, rfl, hq⟩⟩) fun v1 H5 e5 ⟨a1, ev1, h1⟩ =>
        AM.cons (EM.en (en_own (φ := fun v H5 => ∃ q0, v = .ref q0 ∧ H5 q0 = some (.tup ((openL (run (evs.take n))).map V.int))) O.o1 hr (by rfl) (AV.cons (ev_nm 3) (AV.cons (ev_nm 4) (AV.cons (ev_nm 6) AV.nil))) fun H6 e6 Q' k => ⟨tv, hv, n, ks, evs, rfl, thd.tx (e5.trans e6).tx, hn', fun q0 H7 e7 hq => k _ _ e7 ⟨q0, rfl, hq⟩⟩) fun v2 H6 e6 ⟨a2, ev2, h2⟩ =>
        AM.cons (EM.en (en_own (φ := fun v H5 => ∃ q0 zs, v = .ref q0 ∧ H5 q0 = some (.tup zs) ∧ All2 (PairI H5) zs (wordL (evs.take n))) O.w1 hr (by rfl) (AV.cons (ev_nm 3) (AV.cons (ev_nm 4) (AV.cons (ev_nm 6) AV.nil))) fun H7 e7 Q' k => ⟨tv, hv, n, ks, evs, rfl, thd.tx ((e5.trans e6).trans e7).tx, hn', fun q0 zs H8 e8 hq hz => k _ _ e8 ⟨q0, zs, rfl, hq, hz⟩⟩) fun v3 H7 e7 ⟨a3, zs3, ev3, h3, hz3⟩ => AM.nil ⟨by show 3 ≤ 100000; decide, fun pt hpt => ?_⟩))))) nd
      subst ev1 ev2 ev3
      rw [keptL_run] at h1
      have eP := Ex.new (o := .tup [.ref a1, .ref a2, .ref a3]) hpt
      exact rx_up rfl ⟨_, rfl, ((e5.trans e6).trans e7).trans eP, ⟨⟨pt, a1, a2, a3, zs3, rfl, upd_same, ((e6.trans e7).trans eP) _ _ h1, (e7.trans eP) _ _ h2, eP _ _ h3, hz3.imp fun _ _ => PairI.tx eP.tx⟩⟩⟩
    · refine rx_setM 8 (em_tup (AM.cons (EM.en (en_ownK (zs := [.int (n : Int), .ref tv, .ref hv]) (φ := fun v H5 => ∃ q0, v = .ref q0 ∧ H5 q0 = some (.tup ((keptL (run (evs.take n))).map V.int))) O.k2 hr (by rfl) (KV.cons (ev_nm 6) (KV.cons (ev_nm 3) (KV.cons (ev_nm 4) KV.nil))) rfl fun H5 e5 Q' k => ⟨tv, hv, n, ks, evs, rfl, thd.tx e5.tx, hn', fun q0 H6 e6 hq => k _ _ e6 ⟨q0, rfl, hq⟩⟩) fun v1 H5 e5 ⟨a1, ev1, h1⟩ =>
        AM.cons (EM.en (en_ownK (zs := [.ref hv, .ref tv, .int (n : Int)]) (φ := fun v H5 => ∃ q0, v = .ref q0 ∧ H5 q0 = some (.tup ((openL (run (evs.take n))).map V.int))) O.o2 hr (by rfl) (KV.cons (ev_nm 4) (KV.cons (ev_nm 3) (KV.cons (ev_nm 6) KV.nil))) rfl fun H6 e6 Q' k => ⟨tv, hv, n, ks, evs, rfl, thd.tx (e5.trans e6).tx, hn', fun q0 H7 e7 hq => k _ _ e7 ⟨q0, rfl, hq⟩⟩) fun v2 H6 e6 ⟨a2, ev2, h2⟩ => AM.nil ⟨by show 2 ≤ 100000; decide, fun pt hpt => ?_⟩)))) nd
      subst ev1 ev2
      rw [keptL_run] at h1
      have eP := Ex.new (o := .tup [.ref a1, .ref a2]) hpt
      have h1 := (e6.trans eP) _ _ h1
      have h2 := eP _ _ h2
      have h0 : upd H6 pt (.tup [.ref a1, .ref a2]) pt = some (.tup [.ref a1, .ref a2]) := upd_same
      have eQ : Ex Hd (upd H6 pt (.tup [.ref a1, .ref a2])) := (e5.trans e6).trans eP
      revert h1 h2 h0 eQ
      generalize upd H6 pt (.tup [.ref a1, .ref a2]) = Hq
      intro h1 h2 h0 eQ
      refine rx_setM 8 (EM.en (en_catT (α := fun xs _ => xs = [.ref a1, .ref a2]) (β := fun xs H8 => ∃ a3 zs3, xs = [.ref a3] ∧ H8 a3 = some (.tup zs3) ∧ All2 (PairI H8) zs3 (wordL (evs.take n))) (γ := fun xs H8 => ∃ a3 zs3, xs = [.ref a1, .ref a2, .ref a3] ∧ H8 a3 = some (.tup zs3) ∧ All2 (PairI H8) zs3 (wordL (evs.take n)))
        (EN.weak (ev_nm 8) fun v H8 e8 ev => ⟨pt, _, ev, e8 _ _ h0, rfl⟩) (fun H8 e8 => EN.weak (en_tup1N (en_ownK (zs := [.ref tv, .int (n : Int), .ref hv]) (φ := fun v H5 => ∃ q0 zs, v = .ref q0 ∧ H5 q0 = some (.tup zs) ∧ All2 (PairI H5) zs (wordL (evs.take n))) O.w2 hr (by rfl) (KV.cons (ev_nm 3) (KV.cons (ev_nm 6) (KV.cons (ev_nm 4) KV.nil))) rfl fun H9 e9 Q' k => ⟨tv, hv, n, ks, evs, rfl, thd.tx ((eQ.trans e8).trans e9).tx, hn', fun q0 zs Ha ea hq hz => k _ _ ea ⟨q0, zs, rfl, hq, hz⟩⟩)) fun v H9 e9 ⟨p9, u, H10, ev, h9, ⟨a3, zs3, eu, h3, hz3⟩, e10⟩ => ⟨p9, [u], ev, h9, a3, zs3, by rw [eu], e10 _ _ h3, hz3.imp fun _ _ => PairI.tx e10.tx⟩)
        (fun xs ys H8 H9 e8 ex e9 ⟨a3, zs3, ey, h3, hz3⟩ => ⟨by rw [ex, ey]; show 3 ≤ 100000; decide, fun H10 e10 => ⟨a3, zs3, by rw [ex, ey]; rfl, e10 _ _ h3, hz3.imp fun _ _ => PairI.tx e10.tx⟩⟩)) fun v H8 e8 ⟨p8, xs, ev, h8, a3, zs3, ex, h3, hz3⟩ => ?_) nd
      subst ev ex
      exact rx_up rfl ⟨_, rfl, eQ.trans e8, ⟨⟨p8, a1, a2, a3, zs3, rfl, h8, e8 _ _ h1, e8 _ _ h2, h3, hz3⟩⟩⟩
    · rintro σ' He ⟨t8, rfl, ee, htri⟩
      have hdue := hdue.tx ee.tx
      have hSh := sh_T hVn hln htn
      obtain ⟨pt8, b1, b2, b3, zs8, et, k1, k2, k3, k4, hz8⟩ := htri.ex
      subst et
      have hHPe : HP He hv ks evs n := hHP.tx (eD.trans ee).tx
      refine rx_when (bb := false) (TN.is (tn_or (TN.is (tn_ne (ev_reprD hgu hr.units (by rfl) O.repr (ev_nm 8) htri.dp hSh.s hSh.h (Nat.le_trans hSh.dp (by decide)) (Nat.le_trans hSh.l (by decide))) (ev_reprD hgu hr.units (by rfl) O.repr (ev_nm 7) hdue.dp hSh.s hSh.h (Nat.le_trans hSh.dp (by decide)) (Nat.le_trans hSh.l (by decide))) (by rfl)) (b' := false) (by rw [decide_eq_true rfl]; rfl))
        fun _ => tn_not (tn_v (bb := true) (en_own O.paired hr2 (by rfl) (AV.cons (ev_nm 4) (AV.cons (ev_nm 6) (AV.cons (ev_ixT (ev_nm 8) ev_i (st_of k1) (by rfl)) AV.nil))) fun Hf ef Q' k => ⟨hv, b3, n, ks, evs, zs8, rfl, hHPe.tx ef.tx, ef _ _ k4, hz8.imp fun _ _ => PairI.tx ef.tx, fun Hg eg => k _ _ eg rfl⟩))) rfl) (fun z => by cases z) fun _ => ?_
      -- ahead
      have hlw : zs8.length = (letF 0 (evs.take n)).length + (openL (run (evs.take n))).length := by
        rw [hz8.len]; unfold wordL; rw [List.length_append, List.length_map]
      refine rx_setM 9 (EM.en (en_slTt (lv := none) (hv := some ((letF 0 (evs.take n)).length : Int)) (ev_ixT (ev_nm 8) ev_i (st_of k1) (by rfl)) k4 ov_n (ov_s (EV.is (ev_sub (ev_len (by rfl) O.len (ev_ixT (ev_nm 8) ev_i (st_of k1) (by rfl)) (.inr (st_of k4))) (ev_len (by rfl) O.len (ev_ixT (ev_nm 8) ev_i (st_of k1) (by rfl)) (.inr (st_of k3)))) ?_))) fun v Hf ef ⟨ra, ev, hra⟩ => ?_) nd
      · rw [hlw, List.length_map]
        refine congrArg V.int ?_
        omega
      subst ev
      rw [cutV_take] at hra
      have hza : All2 (PairI Hf) (zs8.take (letF 0 (evs.take n)).length) (letF 0 (evs.take n)) := by
        have h := (hz8.imp fun _ _ => PairI.tx ef.tx).take (letF 0 (evs.take n)).length
        unfold wordL at h
        rwa [List.take_left] at h
      have eHf : Ex H4 Hf := ((ec.trans eD).trans ee).trans ef
      generalize zs8.take (letF 0 (evs.take n)).length = za at hra hza
      cases n with
      | zero =>
        refine rx_when (bb := false) (TN.is (tn_gt (ev_nm 6) ev_i) (by decide)) (fun z => by cases z) fun _ => ?_
        refine rx_set 5 (ev_nm 9) (rx_up rfl ⟨ra, za, _, _, _, _, _, _, rfl, eHf, hra, hza⟩) nd
      | succ m =>
        refine rx_when (bb := true) (TN.is (tn_gt (ev_nm 6) ev_i) (decide_eq_true (by omega))) (fun _ => ?_) fun z => by cases z
        have he : evs[m]? = some evs[m] := List.getElem?_eq_getElem (by omega)
        obtain ⟨x, hxm, p0, ex0, hp0⟩ := hall.at' he
        generalize evs[m] = e at he hp0
        subst ex0
        have hhf : Hf hv = some (.tup as) := (e4.trans eHf) _ _ hha
        have hpf : Hf p0 = some (.tup e.vals) := (e4.trans eHf) _ _ hp0
        have hm1 : (((m + 1 : Nat) : Int) - 1) = (m : Int) := by omega
        refine rx_set 10 (ev_ixT (ev_nm 4) (ev_sub (ev_nm 6) ev_i) (st_of hhf) (atI_of (by omega) (by rw [hm1]; exact hxm))) ?_ nd
        refine rx_setM 11 (EM.en (en_get2N (ψ := fun v H' => ∃ q ms, v = .ref q ∧ H' q = some (.tup ms) ∧ All2 (PairI H') ms (let1 m e)) hu (en_disp2 (φ1 := fun v H' => ∃ q u, v = .ref q ∧ H' q = some (.tup [u]) ∧ PairI H' u ((m : Int), 1)) (φ2 := fun v H' => ∃ q u r, v = .ref q ∧ H' q = some (.tup [u]) ∧ u = .ref r ∧ H' r = some (.tup [lastV e, .int (-1)]))
          (EN.weak (en_tup1N (en_tupV (vs := [.int (m : Int), .int 1]) (AV.cons (EV.is (ev_sub (ev_nm 6) ev_i) (congrArg V.int hm1)) (AV.cons ev_i AV.nil)) (by show 2 ≤ 100000; decide))) fun v H' e' ⟨q0, u, H'', ev, hq0, ⟨r0, eu, _, hr0⟩, e''⟩ => ⟨q0, u, ev, hq0, r0, eu, e'' _ _ hr0⟩)
          (EN.weak (en_tup1N (en_tupV (vs := [lastV e, .int (-1)]) (AV.cons (ev_ixT (ev_nm 10) (ev_neg ev_i) (st_of hpf) (last_at e)) (AV.cons (ev_neg ev_i) AV.nil)) (by show 2 ≤ 100000; decide))) fun v H' e' ⟨q0, u, H'', ev, hq0, ⟨r0, eu, _, hr0⟩, e''⟩ => ⟨q0, u, r0, ev, hq0, eu, e'' _ _ hr0⟩) (fun x1 x2 => by
            have n1 := do_back
            simp [mergeK, putK, n1, valV])) fun v H' e' ⟨p5, x1, x2, Ha, Hb', ev, hp5, ea, ⟨q1, u1, ex1, hq1, r1, eu1, hr1⟩, eb', ⟨q2, u2, r2, ex2, hq2, eu2, hr2⟩, tx⟩ => ⟨p5, _, Sum.inr (headS e), ev, hp5, ev_ixT (ev_nm 10) ev_i (st_of (e' _ _ hpf)) (head_at e), EN.weak (en_tupV AV.nil (Nat.zero_le _)) fun z H'' e'' ⟨q3, ez, _, hq3⟩ => ?_⟩) fun v Hg eg ⟨qm, ms, ev, hqm, hms⟩ => ?_) nd
        · have n1 := do_back
          have n2 := do_fin
          have n3 := back_fin
          cases e with
          | doo t k =>
            rw [show headS (.doo t k) = "do" from rfl, valV_pos rfl]
            subst ex1
            exact ⟨q1, [u1], rfl, e''.tx _ _ (tx _ _ (eb' _ _ hq1)), All2.one ⟨r1, eu1, e''.tx _ _ (tx _ _ (eb' _ _ hr1))⟩⟩
          | back t i =>
            rw [show headS (.back t i) = "back" from rfl, valV_neg n1, valV_pos rfl]
            subst ex2
            exact ⟨q2, [u2], rfl, e''.tx _ _ (tx _ _ hq2), All2.one ⟨r2, eu2, e''.tx _ _ (tx _ _ hr2)⟩⟩
          | fin t b =>
            rw [show headS (.fin t b) = finS b from rfl, valV_neg (n2 b), valV_neg (n3 b)]
            exact ⟨q3, [], ez, hq3, True.intro⟩
        · subst ev
          have hlm : letF 0 (evs.take (m + 1)) = letF 0 (evs.take m) ++ let1 m e := letF_more he
          have hzs : All2 (PairI Hc) zs (letF 0 (evs.take m)) := hzs
          have hShl := (sh_L hVn hln).shaped (by decide)
          refine rx_when (bb := false) (TN.is (tn_neD (d := dP (letF 0 (evs.take (m + 1)))) (d' := dP (letF 0 (evs.take (m + 1)))) hr.units (ev_nm 9) (dp_P (eg _ _ hra) (hza.imp fun _ _ => PairI.tx eg.tx))
            (EN.weak (en_catT (α := fun xs _ => xs = zs) (β := fun xs _ => xs = ms) (γ := fun xs Hh => All2 (PairI Hh) xs (letF 0 (evs.take (m + 1)))) (EN.weak (ev_nm 5) fun v Hh eh ev => ⟨lq, zs, ev, (((eD.trans ee).trans ef).trans (eg.trans eh)) _ _ hlq, rfl⟩) (fun Hh eh => EN.weak (ev_nm 11) fun v Hi ei ev => ⟨qm, ms, ev, (eh.trans ei) _ _ hqm, rfl⟩)
              (fun xs ys Hh Hi eh ex ei ey => ⟨?_, fun Hj ej => ?_⟩)) fun v Hh eh ⟨p6, xs, ev, h6, hx6⟩ => ?_) hShl hShl) (by rw [eqv_P]; rfl)) (fun z => by cases z) fun _ => rx_out rfl (rx_set 5 (ev_nm 9) (rx_up rfl ⟨ra, za, _, _, _, _, _, _, rfl, eHf.trans eg, eg _ _ hra, hza.imp fun _ _ => PairI.tx eg.tx⟩) nd)
          · rw [ex, ey, hzs.len, hms.len, ← List.length_append, ← hlm]
            have := letF_len (evs.take (m + 1)) 0
            omega
          · rw [ex, ey, hlm]
            exact (hzs.imp fun _ _ => PairI.tx ((((eD.trans ee).trans ef).trans (eg.trans eh)).trans (ei.trans ej)).tx).app (hms.imp fun _ _ => PairI.tx ((eh.trans ei).trans ej).tx)
          · subst ev
            exact dp_P h6 hx6
end
end E5
set_option Elab.async false
set_option linter.all false
set_option maxRecDepth 100000
set_option maxHeartbeats 4000000
namespace E5
open PySem PySem.Spec PyProof.Rows L2 Evl Y
section
variable {P : Program} {w : World} {K : PySem.W.Frag} {mg : Str → Option Value} {h : Heap}
theorem defOf {nm : Str} {st : Stmt} {f : Addr} {od an : Option Addr} {sl : Array (Option Value)} {oc kV dc pm cd ct : Value} (X : K.In h) (G : h.Ns mainGlobals mg) (a : PySem.W.nsIn K mainGlobals nm = some (some (.ref f)))
    (l : K.lookup f = some ⟨oc, od, .func (PySem.W.fnOf nm nm (defArgs st) (defBody st) (defScope st) .none kV dc pm an cd ct), sl⟩) (c : PySem.W.codeIn K cd nm = true) (k : PySem.W.keepIn K (.ref f) = true) : Def K mg nm st :=
  ⟨f, _, fun_mk l c k, PySem.W.mg_of X G a⟩
theorem methOf {C : Addr} {m q : Str} {st : Stmt} {f : Addr} {od an : Option Addr} {sl : Array (Option Value)} {oc kV dc pm cd ct : Value} (a : PySem.W.findIn K (.ref C) m = some (some (.ref f))) (i : PySem.W.isFn K (.ref f) = true)
    (l : K.lookup f = some ⟨oc, od, .func (PySem.W.fnOf m q (defArgs st) (defBody st) (defScope st) .none kV dc pm an cd ct), sl⟩) (c : PySem.W.codeIn K cd q = true) (k : PySem.W.keepIn K (.ref f) = true) : DefM K C m q st :=
  ⟨f, _, fun_mk l c k, ⟨a, i, k⟩⟩
theorem initOf {nm q : Str} {C : Addr} {st : Stmt} {f : Addr} {od an : Option Addr} {sl : Array (Option Value)} {oc kV dc pm cd ct : Value} (X : K.In h) (G : h.Ns mainGlobals mg) (aC : PySem.W.nsIn K mainGlobals nm = some (some (.ref C))) (a : PySem.W.findIn K (.ref C) "__init__" = some (some (.ref f))) (i : PySem.W.isFn K (.ref f) = true)
    (l : K.lookup f = some ⟨oc, od, .func (PySem.W.fnOf "__init__" q (defArgs st) (defBody st) (defScope st) .none kV dc pm an cd ct), sl⟩) (c : PySem.W.codeIn K cd q = true) (k : PySem.W.keepIn K (.ref f) = true) (mk : PySem.W.makesIn K C = true) (kc : PySem.W.keepIn K (.ref C) = true) : DefI K mg nm q C st :=
  ⟨f, _, fun_mk l c k, ⟨mk, a, i, kc⟩, PySem.W.mg_of X G aC⟩
theorem recOf {C : Addr} (pg : PySem.W.plainGet K C Str.empty = true) (hd : PySem.W.hasDictIn K C = true) (po : PySem.W.plainOver K C = true) (sa : PySem.W.findIn K (.ref C) "__setattr__" = some (some (.builtin "object.__setattr__")))
    (nK : PySem.W.findIn K (.ref C) "kinds" = some none) (nL : PySem.W.findIn K (.ref C) "length" = some none) (nO : PySem.W.findIn K (.ref C) "owners" = some none) (nS : PySem.W.findIn K (.ref C) "steps" = some none) (nE : PySem.W.findIn K (.ref C) "ends" = some none) (nT : PySem.W.findIn K (.ref C) "taken" = some none) : RecT K C :=
  ⟨⟨pg, hd, po, sa⟩, nK, nL, nO, nS, nE, nT⟩
structure Left (K : PySem.W.Frag) (mg : Str → Option Value) (C : Addr) : Prop where
  d4 : Def K mg "is_integer" (topS 4)
  d5 : Def K mg "is_natural" (topS 5)
  d6 : Def K mg "is_plain_word" (topS 6)
  d7 : Def K mg "is_ascending" (topS 7)
  d14 : Def K mg "is_table" (topS 14)
  d15 : Def K mg "are_kinds" (topS 15)
  d16 : Def K mg "are_conflicts" (topS 16)
  d17 : Def K mg "is_pair" (topS 17)
  d18 : Def K mg "check_table" (topS 18)
  d21 : Def K mg "record_of" (topS 21)
  d22 : Def K mg "checked_record" (topS 22)
  d23 : Def K mg "record_at" (topS 23)
  d24 : Def K mg "kept_in" (topS 24)
  d25 : Def K mg "kept_at" (topS 25)
  d26 : Def K mg "open_in" (topS 26)
  d27 : Def K mg "open_at" (topS 27)
  d28 : Def K mg "word_in" (topS 28)
  d29 : Def K mg "word_at" (topS 29)
  d30 : Def K mg "letters_of" (topS 30)
  d32 : Def K mg "_law_deck" (topS 32)
  d33 : Def K mg "_law_draw" (topS 33)
  d34 : Def K mg "_law_pick" (topS 34)
  d35 : Def K mg "_law_name" (topS 35)
  d36 : Def K mg "_law_table" (topS 36)
  d37 : Def K mg "_law_blank" (topS 37)
  d38 : Def K mg "_law_note" (topS 38)
  d39 : Def K mg "_law_book" (topS 39)
  d40 : Def K mg "_law_event" (topS 40)
  d41 : Def K mg "_law_history" (topS 41)
  d42 : Def K mg "_law_left" (topS 42)
  d43 : Def K mg "_law_word_at" (topS 43)
  d44 : Def K mg "_law_kept" (topS 44)
  d45 : Def K mg "_law_is_paired" (topS 45)
  d46 : Def K mg "law" (topS 46)
  dI : DefI K mg "Record" "Record.__init__" C sRInit
  d_allows : DefM K C "allows" "Record.allows" sRAllows
  d_allows_end : DefM K C "allows_end" "Record.allows_end" sREnd
  d_allows_back : DefM K C "allows_back" "Record.allows_back" sRBack
  d_note : DefM K C "note" "Record.note" sRNote
  T : RecT K C
  z_isinstance : mg "isinstance" = none
  z_int : mg "int" = none
  z_bool : mg "bool" = none
  z_str : mg "str" = none
  z_tuple : mg "tuple" = none
  z_len : mg "len" = none
  z_all : mg "all" = none
  z_zip : mg "zip" = none
  z_max : mg "max" = none
  z_range : mg "range" = none
  z_sorted : mg "sorted" = none
  z_enumerate : mg "enumerate" = none
  z_list : mg "list" = none
  z_repr : mg "repr" = none
  z_sum : mg "sum" = none
  ten : ∃ u, mg "MOST_LETTERS" = some u ∧ RelV (.int 10) u
  abc : ∃ u, mg "LETTERS" = some u ∧ RelV (.str "abcdefghijklmnopqrstuvwxyz") u
theorem Left.law {C : Addr} (L : Left K mg C) {fa : Addr} (hfa : mg "law" = some (.ref fa)) :
    ∃ fd : FuncData, (∀ (s : Shared) (v : Value), BindsTo s fd ⟨[v], []⟩ [("_law_script", v)]) ∧ ∀ base : Heap, FnG P w K mg base 8 fa fd ["_law_script"] (spLaw K) := by
  obtain ⟨f, fd, F, m⟩ := L.d46.ex
  have e := hfa.symm.trans m
  cases e
  refine ⟨fd, fun s v => ?_, fun base => ?_⟩
  · obtain ⟨oc, od, kV, doc, pm, an, cdv, ct, osl, rfl, lk, hcd⟩ := F.ex
    exact .of_eq rfl
  have B : Blt mg := ⟨L.z_isinstance, L.z_int, L.z_bool, L.z_str, L.z_tuple, L.z_len, L.z_all, L.z_zip⟩
  obtain ⟨u10, m10, r10⟩ := L.ten
  obtain ⟨uab, mab, rab⟩ := L.abc
  have o3 : Own P w K mg base "is_integer" ["thing"] 1 spIsInt := own_isint L.d4 B
  have o4 := own_isnat L.d5 o3
  have o5 := own_isword (P := P) (w := w) (base := base) L.d6 B m10 r10 mab rab
  have o6 := own_isasc (P := P) (w := w) (base := base) L.d7 B
  have o14 := own_arekinds L.d15 B o5 o6
  have o16 := own_ispair (P := P) (w := w) (base := base) L.d17 B
  have o15 := own_areconf L.d16 B o16 o6
  have o13 := own_istable L.d14 B o14 o15
  have o17 := own_check L.d18 o13
  have oI := own_rinit (P := P) (w := w) (base := base) L.dI L.T
  have oE := own_rend (P := P) (w := w) (mg := mg) (base := base) L.d_allows_end L.T
  have oB := own_rback L.d_allows_back L.T o3
  have oA := own_rallows L.d_allows L.T B o4 oE oB
  have oN := own_rnote (P := P) (w := w) (mg := mg) (base := base) L.d_note L.T
  have o20 := own_recordof L.d21 B L.T oI oA oN
  have o21 := own_checked L.d22 o17 o20
  have oRA := own_recordat L.d23 B o4 o21 o20
  have oKI := own_keptin (P := P) (w := w) (base := base) L.d24 L.T B
  have oOI := own_openin (P := P) (w := w) (base := base) L.d26 L.T B L.z_sorted
  have oLO := own_letters (P := P) (w := w) (base := base) L.d30 L.z_enumerate
  have oWI := own_wordin L.d28 B oLO oOI
  obtain ⟨k1, k2⟩ := Def.both (P := P) (w := w) (base := base) (lv := 7) (sp := spKeptAt) (ps := ps3) (qs := ["p", "table", "history"]) (ix := [1, 2, 0]) L.d25 (fun f fd F => ok_keptat F oKI oRA) (fun kV doc pm an cdv ct us hl => by
    obtain ⟨a, b, c, rfl⟩ : ∃ a b c, us = [a, b, c] := by
      match us, hl with
      | [a, b, c], _ => exact ⟨a, b, c, rfl⟩
    rfl) (fun kV doc pm an cdv ct us hl => by
    obtain ⟨a, b, c, rfl⟩ : ∃ a b c, us = [a, b, c] := by
      match us, hl with
      | [a, b, c], _ => exact ⟨a, b, c, rfl⟩
    rfl)
  obtain ⟨p1, p2⟩ := Def.both (P := P) (w := w) (base := base) (lv := 7) (sp := spOpenAt) (ps := ps3) (qs := ["history", "table", "p"]) (ix := [1, 0, 2]) L.d27 (fun f fd F => ok_openat F oOI oRA) (fun kV doc pm an cdv ct us hl => by
    obtain ⟨a, b, c, rfl⟩ : ∃ a b c, us = [a, b, c] := by
      match us, hl with
      | [a, b, c], _ => exact ⟨a, b, c, rfl⟩
    rfl) (fun kV doc pm an cdv ct us hl => by
    obtain ⟨a, b, c, rfl⟩ : ∃ a b c, us = [a, b, c] := by
      match us, hl with
      | [a, b, c], _ => exact ⟨a, b, c, rfl⟩
    rfl)
  obtain ⟨w1, w2⟩ := Def.both (P := P) (w := w) (base := base) (lv := 7) (sp := spWordAt) (ps := ps3) (qs := ["table", "p", "history"]) (ix := [0, 2, 1]) L.d29 (fun f fd F => ok_wordat F oWI oRA) (fun kV doc pm an cdv ct us hl => by
    obtain ⟨a, b, c, rfl⟩ : ∃ a b c, us = [a, b, c] := by
      match us, hl with
      | [a, b, c], _ => exact ⟨a, b, c, rfl⟩
    rfl) (fun kV doc pm an cdv ct us hl => by
    obtain ⟨a, b, c, rfl⟩ : ∃ a b c, us = [a, b, c] := by
      match us, hl with
      | [a, b, c], _ => exact ⟨a, b, c, rfl⟩
    rfl)
  have o26 : Own P w K mg base "_law_deck" ["_law_script"] 1 (spDeck P w K) := own_deck L.d32 L.z_int
  have o27 : Own P w K mg base "_law_draw" psDraw 1 (spDraw P w) := own_draw L.d33 L.z_int L.z_max
  have o28 := own_pick L.d34 o27 L.z_len
  have o30 := own_name L.d35 o27 o28 L.z_len L.z_int L.z_range
  have o31 := own_table L.d36 o27 o28 o30 L.z_range L.z_sorted L.z_enumerate L.z_tuple
  have o32 := own_blank (P := P) (w := w) (base := base) L.d37
  have o33 := own_note L.d38 o32
  have o34 := own_book L.d39 o33 L.z_enumerate
  have o37 := own_event L.d40 o27 o28 o32 L.z_list
  have o38 := own_history L.d41 o28 o37 o33 L.z_range L.z_len L.z_tuple
  have o40 := own_left L.d42 o34 L.z_sorted
  have o41 := own_kept (P := P) (w := w) (base := base) L.d44 L.z_tuple
  have o42 := own_wat L.d43 o40 L.z_enumerate L.z_tuple
  have o43 := own_paired L.d45 o41 L.z_enumerate L.z_len L.z_sum
  exact ok_law F ⟨o26, o27, o31, o38, o41, o40, o42, o43, k1, k2, p1, p2, w1, w2, L.z_repr, L.z_tuple, L.z_range, L.z_len, L.z_int⟩
theorem all_mk {l : PySem.W.OpenLaw} {fa : Addr} (X : K.In h) (G : h.Ns mainGlobals mg) (hfa : mg "law" = some (.ref fa))
    (d4 : Def K mg "is_integer" (topS 4))
    (d5 : Def K mg "is_natural" (topS 5))
    (d6 : Def K mg "is_plain_word" (topS 6))
    (d7 : Def K mg "is_ascending" (topS 7))
    (d14 : Def K mg "is_table" (topS 14))
    (d15 : Def K mg "are_kinds" (topS 15))
    (d16 : Def K mg "are_conflicts" (topS 16))
    (d17 : Def K mg "is_pair" (topS 17))
    (d18 : Def K mg "check_table" (topS 18))
    (d21 : Def K mg "record_of" (topS 21))
    (d22 : Def K mg "checked_record" (topS 22))
    (d23 : Def K mg "record_at" (topS 23))
    (d24 : Def K mg "kept_in" (topS 24))
    (d25 : Def K mg "kept_at" (topS 25))
    (d26 : Def K mg "open_in" (topS 26))
    (d27 : Def K mg "open_at" (topS 27))
    (d28 : Def K mg "word_in" (topS 28))
    (d29 : Def K mg "word_at" (topS 29))
    (d30 : Def K mg "letters_of" (topS 30))
    (d32 : Def K mg "_law_deck" (topS 32))
    (d33 : Def K mg "_law_draw" (topS 33))
    (d34 : Def K mg "_law_pick" (topS 34))
    (d35 : Def K mg "_law_name" (topS 35))
    (d36 : Def K mg "_law_table" (topS 36))
    (d37 : Def K mg "_law_blank" (topS 37))
    (d38 : Def K mg "_law_note" (topS 38))
    (d39 : Def K mg "_law_book" (topS 39))
    (d40 : Def K mg "_law_event" (topS 40))
    (d41 : Def K mg "_law_history" (topS 41))
    (d42 : Def K mg "_law_left" (topS 42))
    (d43 : Def K mg "_law_word_at" (topS 43))
    (d44 : Def K mg "_law_kept" (topS 44))
    (d45 : Def K mg "_law_is_paired" (topS 45))
    (d46 : Def K mg "law" (topS 46))
    (hC : ∃ C, DefI K mg "Record" "Record.__init__" C sRInit ∧ DefM K C "allows" "Record.allows" sRAllows ∧ DefM K C "allows_end" "Record.allows_end" sREnd ∧ DefM K C "allows_back" "Record.allows_back" sRBack ∧ DefM K C "note" "Record.note" sRNote ∧ RecT K C)
    (z_isinstance : PySem.W.nsIn K mainGlobals "isinstance" = some none)
    (z_int : PySem.W.nsIn K mainGlobals "int" = some none)
    (z_bool : PySem.W.nsIn K mainGlobals "bool" = some none)
    (z_str : PySem.W.nsIn K mainGlobals "str" = some none)
    (z_tuple : PySem.W.nsIn K mainGlobals "tuple" = some none)
    (z_len : PySem.W.nsIn K mainGlobals "len" = some none)
    (z_all : PySem.W.nsIn K mainGlobals "all" = some none)
    (z_zip : PySem.W.nsIn K mainGlobals "zip" = some none)
    (z_max : PySem.W.nsIn K mainGlobals "max" = some none)
    (z_range : PySem.W.nsIn K mainGlobals "range" = some none)
    (z_sorted : PySem.W.nsIn K mainGlobals "sorted" = some none)
    (z_enumerate : PySem.W.nsIn K mainGlobals "enumerate" = some none)
    (z_list : PySem.W.nsIn K mainGlobals "list" = some none)
    (z_repr : PySem.W.nsIn K mainGlobals "repr" = some none)
    (z_sum : PySem.W.nsIn K mainGlobals "sum" = some none)
    (ten : ∃ u, mg "MOST_LETTERS" = some u ∧ RelV (.int 10) u) (abc : ∃ u, mg "LETTERS" = some u ∧ RelV (.str "abcdefghijklmnopqrstuvwxyz") u) :
    ∃ fd : FuncData, (∀ (s : Shared) (v : Value), BindsTo s fd ⟨[v], []⟩ [("_law_script", v)]) ∧ ∀ base : Heap, K.In base → base.Ns mainGlobals mg → FnG l.prog w K mg base 8 fa fd ["_law_script"] (spLaw K) := by
  obtain ⟨C, dI, d_allows, d_allows_end, d_allows_back, d_note, T⟩ := hC
  have L : Left K mg C := ⟨d4, d5, d6, d7, d14, d15, d16, d17, d18, d21, d22, d23, d24, d25, d26, d27, d28, d29, d30, d32, d33, d34, d35, d36, d37, d38, d39, d40, d41, d42, d43, d44, d45, d46, dI, d_allows, d_allows_end, d_allows_back, d_note, T, PySem.W.mg_none_of X G z_isinstance, PySem.W.mg_none_of X G z_int, PySem.W.mg_none_of X G z_bool, PySem.W.mg_none_of X G z_str, PySem.W.mg_none_of X G z_tuple, PySem.W.mg_none_of X G z_len, PySem.W.mg_none_of X G z_all, PySem.W.mg_none_of X G z_zip, PySem.W.mg_none_of X G z_max, PySem.W.mg_none_of X G z_range, PySem.W.mg_none_of X G z_sorted, PySem.W.mg_none_of X G z_enumerate, PySem.W.mg_none_of X G z_list, PySem.W.mg_none_of X G z_repr, PySem.W.mg_none_of X G z_sum, ten, abc⟩
  obtain ⟨fd, h1, h2⟩ := L.law (P := l.prog) (w := w) hfa
  exact ⟨fd, h1, fun base _ _ => h2 base⟩
end
end E5
open PySem PySem.W PyProof.Rows
set_option maxHeartbeats 0 in
theorem PySem.Challenge.cw_eachcut_k06_whole_words_at_every_cut_holds : PySem.Challenge.rw_eachcut_k06_whole_words_at_every_cut.Holds := by
  w_on; o_law; k_head; (case hw => w_witness2)
  k_fill
  refine Y.walk_G (l := PySem.Challenge.rw_eachcut_k06_whole_words_at_every_cut) (n := 63) (k := 8) (x := "_law_script") (sp := fun w => E5.spLaw _) rfl (by decide) rfl ⟨rfl, by decide, by decide⟩ (fun w h Y => PySem.W.kIn_of Y) ?F (fun _ _ a ns hl _ hS => ⟨a, ns, rfl, hS, hl, fun _ _ => rfl⟩)
  case F =>
    intro w mg fa h KX G hmg
    refine' E5.all_mk KX G hmg ?d4 ?d5 ?d6 ?d7 ?d14 ?d15 ?d16 ?d17 ?d18 ?d21 ?d22 ?d23 ?d24 ?d25 ?d26 ?d27 ?d28 ?d29 ?d30 ?d32 ?d33 ?d34 ?d35 ?d36 ?d37 ?d38 ?d39 ?d40 ?d41 ?d42 ?d43 ?d44 ?d45 ?d46 ?hC ?z_isinstance ?z_int ?z_bool ?z_str ?z_tuple ?z_len ?z_all ?z_zip ?z_max ?z_range ?z_sorted ?z_enumerate ?z_list ?z_repr ?z_sum ?ten ?abc
    (case d4 => (refine' E5.defOf KX G ?a ?l ?c ?k; (case a => k_is); (case l => k_is); (case c => k_is); (case k => k_is)))
    (case d5 => (refine' E5.defOf KX G ?a ?l ?c ?k; (case a => k_is); (case l => k_is); (case c => k_is); (case k => k_is)))
    (case d6 => (refine' E5.defOf KX G ?a ?l ?c ?k; (case a => k_is); (case l => k_is); (case c => k_is); (case k => k_is)))
    (case d7 => (refine' E5.defOf KX G ?a ?l ?c ?k; (case a => k_is); (case l => k_is); (case c => k_is); (case k => k_is)))
    (case d14 => (refine' E5.defOf KX G ?a ?l ?c ?k; (case a => k_is); (case l => k_is); (case c => k_is); (case k => k_is)))
    (case d15 => (refine' E5.defOf KX G ?a ?l ?c ?k; (case a => k_is); (case l => k_is); (case c => k_is); (case k => k_is)))
    (case d16 => (refine' E5.defOf KX G ?a ?l ?c ?k; (case a => k_is); (case l => k_is); (case c => k_is); (case k => k_is)))
    (case d17 => (refine' E5.defOf KX G ?a ?l ?c ?k; (case a => k_is); (case l => k_is); (case c => k_is); (case k => k_is)))
    (case d18 => (refine' E5.defOf KX G ?a ?l ?c ?k; (case a => k_is); (case l => k_is); (case c => k_is); (case k => k_is)))
    (case d21 => (refine' E5.defOf KX G ?a ?l ?c ?k; (case a => k_is); (case l => k_is); (case c => k_is); (case k => k_is)))
    (case d22 => (refine' E5.defOf KX G ?a ?l ?c ?k; (case a => k_is); (case l => k_is); (case c => k_is); (case k => k_is)))
    (case d23 => (refine' E5.defOf KX G ?a ?l ?c ?k; (case a => k_is); (case l => k_is); (case c => k_is); (case k => k_is)))
    (case d24 => (refine' E5.defOf KX G ?a ?l ?c ?k; (case a => k_is); (case l => k_is); (case c => k_is); (case k => k_is)))
    (case d25 => (refine' E5.defOf KX G ?a ?l ?c ?k; (case a => k_is); (case l => k_is); (case c => k_is); (case k => k_is)))
    (case d26 => (refine' E5.defOf KX G ?a ?l ?c ?k; (case a => k_is); (case l => k_is); (case c => k_is); (case k => k_is)))
    (case d27 => (refine' E5.defOf KX G ?a ?l ?c ?k; (case a => k_is); (case l => k_is); (case c => k_is); (case k => k_is)))
    (case d28 => (refine' E5.defOf KX G ?a ?l ?c ?k; (case a => k_is); (case l => k_is); (case c => k_is); (case k => k_is)))
    (case d29 => (refine' E5.defOf KX G ?a ?l ?c ?k; (case a => k_is); (case l => k_is); (case c => k_is); (case k => k_is)))
    (case d30 => (refine' E5.defOf KX G ?a ?l ?c ?k; (case a => k_is); (case l => k_is); (case c => k_is); (case k => k_is)))
    (case d32 => (refine' E5.defOf KX G ?a ?l ?c ?k; (case a => k_is); (case l => k_is); (case c => k_is); (case k => k_is)))
    (case d33 => (refine' E5.defOf KX G ?a ?l ?c ?k; (case a => k_is); (case l => k_is); (case c => k_is); (case k => k_is)))
    (case d34 => (refine' E5.defOf KX G ?a ?l ?c ?k; (case a => k_is); (case l => k_is); (case c => k_is); (case k => k_is)))
    (case d35 => (refine' E5.defOf KX G ?a ?l ?c ?k; (case a => k_is); (case l => k_is); (case c => k_is); (case k => k_is)))
    (case d36 => (refine' E5.defOf KX G ?a ?l ?c ?k; (case a => k_is); (case l => k_is); (case c => k_is); (case k => k_is)))
    (case d37 => (refine' E5.defOf KX G ?a ?l ?c ?k; (case a => k_is); (case l => k_is); (case c => k_is); (case k => k_is)))
    (case d38 => (refine' E5.defOf KX G ?a ?l ?c ?k; (case a => k_is); (case l => k_is); (case c => k_is); (case k => k_is)))
    (case d39 => (refine' E5.defOf KX G ?a ?l ?c ?k; (case a => k_is); (case l => k_is); (case c => k_is); (case k => k_is)))
    (case d40 => (refine' E5.defOf KX G ?a ?l ?c ?k; (case a => k_is); (case l => k_is); (case c => k_is); (case k => k_is)))
    (case d41 => (refine' E5.defOf KX G ?a ?l ?c ?k; (case a => k_is); (case l => k_is); (case c => k_is); (case k => k_is)))
    (case d42 => (refine' E5.defOf KX G ?a ?l ?c ?k; (case a => k_is); (case l => k_is); (case c => k_is); (case k => k_is)))
    (case d43 => (refine' E5.defOf KX G ?a ?l ?c ?k; (case a => k_is); (case l => k_is); (case c => k_is); (case k => k_is)))
    (case d44 => (refine' E5.defOf KX G ?a ?l ?c ?k; (case a => k_is); (case l => k_is); (case c => k_is); (case k => k_is)))
    (case d45 => (refine' E5.defOf KX G ?a ?l ?c ?k; (case a => k_is); (case l => k_is); (case c => k_is); (case k => k_is)))
    (case d46 => (refine' E5.defOf KX G ?a ?l ?c ?k; (case a => k_is); (case l => k_is); (case c => k_is); (case k => k_is)))
    case hC =>
      refine' ⟨_, E5.initOf KX G ?aC ?a ?i ?l ?c ?k ?mk ?kc, E5.methOf ?a_allows ?i_allows ?l_allows ?c_allows ?k_allows, E5.methOf ?a_allows_end ?i_allows_end ?l_allows_end ?c_allows_end ?k_allows_end, E5.methOf ?a_allows_back ?i_allows_back ?l_allows_back ?c_allows_back ?k_allows_back, E5.methOf ?a_note ?i_note ?l_note ?c_note ?k_note, E5.recOf ?pg ?hd ?po ?sa ?nK ?nL ?nO ?nS ?nE ?nT⟩
      (case aC => k_is); (case a => k_is); (case i => k_is); (case l => k_is); (case c => k_is); (case k => k_is); (case mk => k_is); (case kc => k_is)
      (case a_allows => k_is); (case i_allows => k_is); (case l_allows => k_is); (case c_allows => k_is); (case k_allows => k_is)
      (case a_allows_end => k_is); (case i_allows_end => k_is); (case l_allows_end => k_is); (case c_allows_end => k_is); (case k_allows_end => k_is)
      (case a_allows_back => k_is); (case i_allows_back => k_is); (case l_allows_back => k_is); (case c_allows_back => k_is); (case k_allows_back => k_is)
      (case a_note => k_is); (case i_note => k_is); (case l_note => k_is); (case c_note => k_is); (case k_note => k_is)
      (case pg => k_is); (case hd => k_is); (case po => k_is); (case sa => k_is); (case nK => k_is); (case nL => k_is); (case nO => k_is); (case nS => k_is); (case nE => k_is); (case nT => k_is)
    (case z_isinstance => k_is)
    (case z_int => k_is)
    (case z_bool => k_is)
    (case z_str => k_is)
    (case z_tuple => k_is)
    (case z_len => k_is)
    (case z_all => k_is)
    (case z_zip => k_is)
    (case z_max => k_is)
    (case z_range => k_is)
    (case z_sorted => k_is)
    (case z_enumerate => k_is)
    (case z_list => k_is)
    (case z_repr => k_is)
    (case z_sum => k_is)
    case ten =>
      refine' ⟨_, PySem.W.mg_of KX G ?z, ?r⟩
      (case z => k_is)
      (case r => exact ⟨_, rfl⟩)
    case abc =>
      refine' ⟨_, PySem.W.mg_of KX G ?z, ?r⟩
      (case z => k_is)
      (case r => exact ⟨_, rfl⟩)
