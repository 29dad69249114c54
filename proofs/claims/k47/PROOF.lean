import PyProof.Rows.All
import Wide.All
import OpenK.AllK
import Wide.FinOn
import PySem.Challenge.RW_eachcut_k47_whole_tables_of_sorts
import HandS.ForMost
import HandS.Evl
import HandS.Style
import HandS.Zip
import HandS.IsInst
import HandS.Conv
import HandS.SortRule
import HandS.TupAny
import HandS.TupLe
import HandS.SetKeys
import HandS.Flow
import HandS.Small
import HandS.RaiseMore
import HandS.Wide
import HandS.Walk
import KE.KUnpackStar
import KE.GoesEnum
import HandS.SortKw
import HandS.SortInts
import HandS.Ends
import KE.DataEq
import KE.KRevSl
import HandS.DictComp
import HandS.RevRange
import HandS.Deep
import PyProof.SeqIndex
import HandS.More
import KE.KDictPairs
import HandS.Text
import KE.DataMinMax
import PyProof.FString5
import HandS.SetFor
import KE.KEqDict
import HandS.TryOnly
import PyProof.P3In
import HandS.TupMul
import HandS.SetTxt0
import HandS.Strs
import KE.KSortTupUse
import PySem.Str
import HandS.DictTup
import PyProof.DictUpdate
import PyProof.NeKinds
import PyProof.ReprRoads
import HandS.Exc
import KE.KExcInit
import HandS.ExcOwn
import HandS.WordsExc
import KE.KEqNest
import HandS.Codes
import PyProof.Ascii
import KE.KDictKeyed
import KE.KDictDisplayH
import KE.KeyNested
import KE.DataCmp
import KE.SortData
import HandS.TryMany
import HandS.ExcIs
import HandS.Lambda
import HandS.EndTab
import KE.GoesMore
import KE.GoesZip
set_option Elab.async false
set_option linter.all false
set_option maxRecDepth 100000
set_option maxHeartbeats 4000000
/-! A layer over HandS: what an expression, a test, an argument list, a block comes to, from a heap that is known in part. -/
namespace Y
open PySem PySem.Spec PyProof.Rows L2 Evl
section
variable {X : Cx} {σ : L2.St} {H H' : Hp} {v w x y z : V} {e a b c f : Expr} {i j k : Nat} {K : PySem.W.Frag}

/-! ### readings that every expression has -/
def semE (X : Cx) (e : Expr) : TE := fun σ H Q => ∀ (pins : List (Addr × Obj)) (s : Shared), Inv X pins σ H s → wpAny (model X.prog X.w) X.A (eval e X.env) (EP X pins σ Q) X.xe s
theorem pe_sem : PE X e (semE X e) := ⟨fun pins s _ _ _ I h => h pins s I⟩
theorem sem_of {te : TE} (h : PE X e te) {Q : VK} (q : te σ H Q) : semE X e σ H Q := fun pins s I => h.run pins s σ H Q I q
theorem sem_mono {Q Q' : VK} (h : semE X e σ H Q) (k : ∀ v H', Q v H' → Q' v H') : semE X e σ H Q' := fun pins s I => thn (h pins s I) fun _ _ ⟨v, H', I', r, q⟩ => ⟨v, H', I', r, k v H' q⟩
def semT (X : Cx) (e : Expr) : TT := fun σ H Q => ∀ (pins : List (Addr × Obj)) (s : Shared), Inv X pins σ H s → wpAny (model X.prog X.w) X.A (isTrue e X.env (eval e X.env)) (TP X pins σ Q) X.xe s
theorem pt_sem : PT X e (semT X e) := ⟨fun pins s _ _ _ I h => h pins s I⟩
theorem semT_of {te : TT} (h : PT X e te) {Q : Bool → Hp → Prop} (q : te σ H Q) : semT X e σ H Q := fun pins s I => h.run pins s σ H Q I q
theorem semT_mono {Q Q' : Bool → Hp → Prop} (h : semT X e σ H Q) (k : ∀ v H', Q v H' → Q' v H') : semT X e σ H Q' := fun pins s I => thn (h pins s I) fun b _ ⟨H', I', q⟩ => ⟨H', I', k b H' q⟩
def semA (X : Cx) (es : List Expr) : TA := fun σ H Q => ∀ (pos : Pos) (pins : List (Addr × Obj)) (s : Shared), Inv X pins σ H s → wpAny (model X.prog X.w) X.A (spliced (backTo pos (starEach es X.env))) (AP X pins σ Q) X.xe s
theorem pa_sem {es : List Expr} : PA X es (semA X es) := ⟨fun pos pins s _ _ _ I h => h pos pins s I⟩
theorem semA_of {es : List Expr} {t : TA} (h : PA X es t) {Q : List V → Hp → Prop} (q : t σ H Q) : semA X es σ H Q := fun pos pins s I => h.run pos pins s σ H Q I q
theorem semA_mono {es : List Expr} {Q Q' : List V → Hp → Prop} (h : semA X es σ H Q) (k : ∀ v H', Q v H' → Q' v H') : semA X es σ H Q' := fun pos pins s I => thn (h pos pins s I) fun _ _ ⟨v, H', I', r, q⟩ => ⟨v, H', I', r, k v H' q⟩
def semS (X : Cx) (ss : List Stmt) : TS := fun D σ H => ∀ (pins : List (Addr × Obj)) (s : Shared), Inv X pins σ H s → wpAny (model X.prog X.w) X.A (execs ss X.env) (SP X pins D) X.xe s
theorem pss_sem {ss : List Stmt} : PSs X ss (semS X ss) := ⟨fun pins s _ _ _ I h => h pins s I⟩
theorem semS_of {ss : List Stmt} {t : TS} (h : PSs X ss t) {D : Ends} (q : t D σ H) : semS X ss D σ H := fun pins s I => h.run pins s σ H D I q

/-! ### expressions -/
/-- e comes to a value of which φ is true, on whatever extends H; what is known stays -/
structure EN (X : Cx) (e : Expr) (σ : L2.St) (H : Hp) (φ : V → Hp → Prop)  : Prop where
  run : ∀ H1, Ex H H1 → semE X e σ H1 fun v H2 => Ex H1 H2 ∧ φ v H2
instance {X : Cx} {e : Expr} {σ : L2.St} {H : Hp} {φ : V → Hp → Prop} : CoeFun (EN X e σ H φ) fun _ => ∀ H1, Ex H H1 → semE X e σ H1 fun v H2 => Ex H1 H2 ∧ φ v H2 := ⟨EN.run⟩
abbrev EV (X : Cx) (e : Expr) (σ : L2.St) (H : Hp) (v : V) : Prop := EN X e σ H fun u _ => u = v
/-- e comes to a value, the known heap to another one -/
structure EM (X : Cx) (e : Expr) (σ : L2.St) (H : Hp) (R : V → Hp → Prop)  : Prop where
  run : ∀ H1, Ex H H1 → semE X e σ H1 fun v H2 => ∃ Hb, Ex Hb H2 ∧ R v Hb
instance {X : Cx} {e : Expr} {σ : L2.St} {H : Hp} {R : V → Hp → Prop} : CoeFun (EM X e σ H R) fun _ => ∀ H1, Ex H H1 → semE X e σ H1 fun v H2 => ∃ Hb, Ex Hb H2 ∧ R v Hb := ⟨EM.run⟩
structure TN (X : Cx) (e : Expr) (σ : L2.St) (H : Hp) (b : Bool)  : Prop where
  run : ∀ H1, Ex H H1 → semT X e σ H1 fun b' H2 => Ex H1 H2 ∧ b' = b
instance {X : Cx} {e : Expr} {σ : L2.St} {H : Hp} {b : Bool} : CoeFun (TN X e σ H b) fun _ => ∀ H1, Ex H H1 → semT X e σ H1 fun b' H2 => Ex H1 H2 ∧ b' = b := ⟨TN.run⟩
/-- a test whose answer is not said -/
structure TD (X : Cx) (e : Expr) (σ : L2.St) (H : Hp) (ψ : Bool → Hp → Prop)  : Prop where
  run : ∀ H1, Ex H H1 → semT X e σ H1 fun b' H2 => Ex H1 H2 ∧ ψ b' H2
instance {X : Cx} {e : Expr} {σ : L2.St} {H : Hp} {ψ : Bool → Hp → Prop} : CoeFun (TD X e σ H ψ) fun _ => ∀ H1, Ex H H1 → semT X e σ H1 fun b' H2 => Ex H1 H2 ∧ ψ b' H2 := ⟨TD.run⟩
structure AM (X : Cx) (es : List Expr) (σ : L2.St) (H : Hp) (R : List V → Hp → Prop)  : Prop where
  run : ∀ H1, Ex H H1 → semA X es σ H1 fun vs H2 => ∃ Hb, Ex Hb H2 ∧ R vs Hb
instance {X : Cx} {es : List Expr} {σ : L2.St} {H : Hp} {R : List V → Hp → Prop} : CoeFun (AM X es σ H R) fun _ => ∀ H1, Ex H H1 → semA X es σ H1 fun vs H2 => ∃ Hb, Ex Hb H2 ∧ R vs Hb := ⟨AM.run⟩
structure AV (X : Cx) (es : List Expr) (σ : L2.St) (H : Hp) (vs : List V)  : Prop where
  run : ∀ H1, Ex H H1 → semA X es σ H1 fun us H2 => Ex H1 H2 ∧ us = vs
instance {X : Cx} {es : List Expr} {σ : L2.St} {H : Hp} {vs : List V} : CoeFun (AV X es σ H vs) fun _ => ∀ H1, Ex H H1 → semA X es σ H1 fun us H2 => Ex H1 H2 ∧ us = vs := ⟨AV.run⟩

theorem EV.of {te : TE} (h : PE X e te) (q : Evl.Ev te σ H v) : EV X e σ H v := ⟨fun H1 e1 => sem_of h (q H1 e1 _ fun H2 e2 => ⟨e2, rfl⟩)⟩
theorem EV.ev (h : EV X e σ H v) : Evl.Ev (semE X e) σ H v := fun H1 e1 Q q => sem_mono (h H1 e1) fun u H2 ⟨e2, hu⟩ => by subst hu; exact q H2 e2
theorem TN.of {te : TT} {b : Bool} (h : PT X e te) (q : Evl.EvT te σ H b) : TN X e σ H b := ⟨fun H1 e1 => semT_of h (q H1 e1 _ fun H2 e2 => ⟨e2, rfl⟩)⟩
theorem TN.ev {b : Bool} (h : TN X e σ H b) : Evl.EvT (semT X e) σ H b := fun H1 e1 Q q => semT_mono (h H1 e1) fun u H2 ⟨e2, hu⟩ => by subst hu; exact q H2 e2
theorem AV.of {es : List Expr} {t : TA} {vs : List V} (h : PA X es t) (q : Evl.EvA t σ H vs) : AV X es σ H vs := ⟨fun H1 e1 => semA_of h (q H1 e1 _ fun H2 e2 => ⟨e2, rfl⟩)⟩
theorem AV.ev {es : List Expr} {vs : List V} (h : AV X es σ H vs) : Evl.EvA (semA X es) σ H vs := fun H1 e1 Q q => semA_mono (h H1 e1) fun u H2 ⟨e2, hu⟩ => by subst hu; exact q H2 e2
theorem EN.mono {φ : V → Hp → Prop} (h : EN X e σ H φ) (x : Ex H H') : EN X e σ H' φ := ⟨fun H1 e1 => h H1 (x.trans e1)⟩
theorem EN.weak {φ ψ : V → Hp → Prop} (h : EN X e σ H φ) (k : ∀ v H2, Ex H H2 → φ v H2 → ψ v H2) : EN X e σ H ψ := ⟨fun H1 e1 => sem_mono (h H1 e1) fun v H2 ⟨e2, q⟩ => ⟨e2, k v H2 (e1.trans e2) q⟩⟩
theorem EV.is (h : EV X e σ H v) (q : v = w) : EV X e σ H w := q ▸ h
theorem TN.is {b b' : Bool} (h : TN X e σ H b) (q : b = b') : TN X e σ H b' := q ▸ h
theorem EM.en {φ R : V → Hp → Prop} (h : EN X e σ H φ) (k : ∀ v H2, Ex H H2 → φ v H2 → R v H2) : EM X e σ H R := ⟨fun H1 e1 => sem_mono (h H1 e1) fun v H2 ⟨e2, q⟩ => ⟨H2, Ex.refl H2, k v H2 (e1.trans e2) q⟩⟩
theorem EM.ev {R : V → Hp → Prop} (h : EV X e σ H v) (k : R v H) : EM X e σ H R := ⟨fun H1 e1 => sem_mono (h H1 e1) fun u H2 ⟨e2, q⟩ => ⟨H, e1.trans e2, by subst q; exact k⟩⟩
theorem EM.of {te : TE} {R : V → Hp → Prop} (h : PE X e te) (q : ∀ H1, Ex H H1 → te σ H1 fun v H2 => ∃ Hb, Ex Hb H2 ∧ R v Hb) : EM X e σ H R := ⟨fun H1 e1 => sem_of h (q H1 e1)⟩
theorem EN.of {te : TE} {φ : V → Hp → Prop} (h : PE X e te) (q : ∀ H1, Ex H H1 → te σ H1 fun v H2 => Ex H1 H2 ∧ φ v H2) : EN X e σ H φ := ⟨fun H1 e1 => sem_of h (q H1 e1)⟩
theorem EM.weak {R R' : V → Hp → Prop} (h : EM X e σ H R) (k : ∀ v Hb, R v Hb → R' v Hb) : EM X e σ H R' := ⟨fun H1 e1 => sem_mono (h H1 e1) fun v _ ⟨Hb, e2, q⟩ => ⟨Hb, e2, k v Hb q⟩⟩
/-- a new object on what is known -/
theorem ex_upd {H H1 : Hp} {p : Addr} {o : HO} (e : Ex H H1) : Ex (upd H p o) (upd H1 p o) := fun b u q => by
  by_cases hb : b = p
  · subst hb; rw [upd_same] at q ⊢; exact q
  · rw [upd_ne hb] at q ⊢; exact e b u q

/-! ### argument lists -/
theorem AM.nil {R : List V → Hp → Prop} (h : R [] H) : AM X [] σ H R := ⟨fun H1 e1 => semA_of pa_nil ⟨H, e1, h⟩⟩
theorem AM.cons {es : List Expr} {R : List V → Hp → Prop} (h : EM X e σ H fun x Hb => AM X es σ Hb fun xs Hc => R (x :: xs) Hc) (hs : starEach (e :: es) X.env = (false, eval e X.env) :: starEach es X.env := by rfl) : AM X (e :: es) σ H R := ⟨fun H1 e1 =>
  semA_of (pa_cons pe_sem pa_sem hs) (sem_mono (h H1 e1) fun x H2 ⟨Hb, e2, q⟩ => semA_mono (q H2 e2) fun xs H3 r => r)⟩
theorem AV.nil : AV X [] σ H [] := AV.of pa_nil ea_nil
theorem AV.cons {es : List Expr} {vs : List V} (h : EV X e σ H v) (r : AV X es σ H vs) (hs : starEach (e :: es) X.env = (false, eval e X.env) :: starEach es X.env := by rfl) : AV X (e :: es) σ H (v :: vs) := AV.of (pa_cons pe_sem pa_sem hs) (ea_cons h.ev r.ev)
/-! ### names, constants, numbers -/
theorem ev_nm (i : Nat) {x : Str} {pos : Pos} (h : σ[i]? = some (some v) := by rfl) (hN : X.N[i]? = some x := by rfl) (hv : Vis X.env.scope x := by first | exact Or.inl rfl | exact Or.inr (Or.inl rfl) | exact Or.inr (Or.inr rfl))
    (hd : (x == ("__debug__" : Str)) = false := by decide) (hcd : (x == ("__classdict__" : Str)) = false := by decide) : EV X (.Name x pos) σ H v := EV.of (pe_var hN hv hd hcd) (Evl.ev_var h)
theorem ev_i {n : Int} {j pos} : EV X (.Constant (.int n) j pos) σ H (.int n) := EV.of pe_int ev_c
theorem ev_s {n : Str} {j pos} : EV X (.Constant (.str n) j pos) σ H (.str n) := EV.of pe_str ev_c
variable {n m : Int} {pos : Pos}
theorem ev_add (ha : EV X a σ H (.int n)) (hb : EV X b σ H (.int m)) : EV X (.BinOp a .Add b pos) σ H (.int (n + m)) := EV.of (pe_op op_add pe_sem pe_sem) (ev_op ha.ev hb.ev rv_I0)
theorem ev_mul (ha : EV X a σ H (.int n)) (hb : EV X b σ H (.int m)) (hc : CMul n m) : EV X (.BinOp a .Mult b pos) σ H (.int (n * m)) := EV.of (pe_op op_mul pe_sem pe_sem) (ev_op ha.ev hb.ev (rv_I hc))
theorem ev_mod (ha : EV X a σ H (.int n)) (hb : EV X b σ H (.int m)) (hc : 0 < m) : EV X (.BinOp a .Mod b pos) σ H (.int (n % m)) := EV.of (pe_op op_mod pe_sem pe_sem) (ev_op ha.ev hb.ev (rv_I hc))
theorem ev_div (ha : EV X a σ H (.int n)) (hb : EV X b σ H (.int m)) (hc : CDivN n m) : EV X (.BinOp a .FloorDiv b pos) σ H (.int (n.fdiv m)) := EV.of (pe_op op_fdivN pe_sem pe_sem) (ev_op ha.ev hb.ev (rv_I hc))
theorem ev_pow (ha : EV X a σ H (.int n)) (hb : EV X b σ H (.int m)) (hc : CPow n m) : EV X (.BinOp a .Pow b pos) σ H (.int (n ^ m.toNat)) := EV.of (pe_op op_pow pe_sem pe_sem) (ev_op ha.ev hb.ev (rv_I hc))
/-- int(x) of an int -/
theorem ev_int {p q : Pos} {x : Str} (hx : x = ("int" : Str)) (hg : Gl X "int") (hm : X.mg "int" = none) (ha : EV X a σ H (.int n)) (hs : starEach [a] X.env = (false, eval a X.env) :: starEach [] X.env := by rfl) : EV X (.Call (.Name x p) [a] [] q) σ H (.int n) := by
  subst hx
  exact EV.of (pe_callTy call_int1 hg hm (by decide +kernel) (pa_cons pe_sem pa_nil hs) (he := hs)) (ev_cb (ea_cons ha.ev ea_nil) fun H1 _ Q q => .inl ⟨_, rfl, q H1 (Ex.refl H1)⟩)
/-! ### comparisons, truth -/
variable {bb cc : Bool}
/-! ### items, slices, lengths -/
theorem ev_dget {p : Addr} {kvs : List (Key × V)} {k : Key} (hu : X.A.units + 1 < cLine) (ha : EV X a σ H (.ref p)) (hb : EV X b σ H (kV k)) (h : H p = some (.dK kvs)) (g : valV kvs k = some v) (hs : NoSl b := by exact fun _ _ => rfl) : EV X (.Subscript a b pos) σ H v :=
  EV.of (pe_dget hu pe_sem pe_sem hs) fun H1 e1 Q q => ha.ev H1 e1 _ fun H2 e2 => hb.ev H2 (e1.trans e2) _ fun H3 e3 => ⟨p, v, rfl, g ▸ DGet.k (((e1.trans e2).trans e3) _ _ h), q H3 (e2.trans e3)⟩
theorem ev_max2 {p q : Pos} (hc : X.calm = true) (hg : Gl X "max") (hm : X.mg "max" = none) (ha : EV X a σ H (.int n)) (hb : EV X b σ H (.int m)) (hs : starEach [a, b] X.env = (false, eval a X.env) :: starEach [b] X.env := by rfl) (hs' : starEach [b] X.env = (false, eval b X.env) :: starEach [] X.env := by rfl)
    (hpl : (backTo q (starEach [b] X.env)).any (·.1) = false := by rfl) : EV X (.Call (.Name "max" p) [a, b] [] q) σ H (.int (if m > n then m else n)) :=
  EV.of (pe_callB (call_max2 hc) hg hm (by decide +kernel) (pa_cons pe_sem (pa_cons pe_sem pa_nil hs') hs) (he := hs) (hpl := hpl)) (ev_cb (ea_cons ha.ev (ea_cons hb.ev ea_nil)) fun H1 e1 Q q => ⟨n, m, rfl, q H1 (Ex.refl H1)⟩)

/-! ### displays: a new list, a new tuple -/
/-! ### calls of own defs -/
/-! ### statements -/
variable {D : Ends} {rest ss tt : List Stmt} {st : Stmt}
structure RX (X : Cx) (ss : List Stmt) (D : Ends) (σ : L2.St) (H : Hp)  : Prop where
  run : ∀ H1, Ex H H1 → semS X ss D σ H1
instance {X : Cx} {ss : List Stmt} {D : Ends} {σ : L2.St} {H : Hp} : CoeFun (RX X ss D σ H) fun _ => ∀ H1, Ex H H1 → semS X ss D σ H1 := ⟨RX.run⟩
def UpS (P : L2.St → Hp → Prop) : L2.St → Hp → Prop := fun σ H => ∃ Hb, Ex Hb H ∧ P σ Hb
theorem RX.mono (h : RX X ss D σ H) (q : Ex H H') : RX X ss D σ H' := ⟨fun H1 e1 => h H1 (q.trans e1)⟩
theorem rx_end (k : ∀ H1, Ex H H1 → D.nx σ H1) : RX X [] D σ H := ⟨fun H1 e1 => semS_of pss_nil (k H1 e1)⟩
theorem rx_of {t : TS} (h : PS X st t) (q : ∀ H1, Ex H H1 → t { D with nx := semS X rest D } σ H1) : RX X (st :: rest) D σ H := ⟨fun H1 e1 => semS_of (pss_cons h pss_sem) (q H1 e1)⟩
/-- what stands behind an inner block -/
theorem rx_out {D' : Ends} (hD : D'.nx = semS X rest D) (h : RX X rest D σ H) : RX X [] D' σ H := rx_end fun H1 e1 => by rw [hD]; exact h H1 e1
theorem rx_up {P : L2.St → Hp → Prop} (hD : D.nx = UpS P) (h : P σ H) : RX X [] D σ H := rx_end fun H1 e1 => by rw [hD]; exact ⟨H, e1, h⟩
variable {pos' : Pos} {nm : Str}
theorem rx_setM (i : Nat) (h : EM X e σ H fun v Hb => RX X rest D (σ.set i (some v)) Hb) (hN : X.N.Nodup) (hi : X.N[i]? = some nm := by rfl) (hx : Loc X.env.scope nm := by first | exact Or.inl rfl | exact Or.inr rfl)
    (hs : swapsWith e (some (.Name nm pos')) pos.line X.env = pure false := by rfl) (hf : X.fn nm = true ∨ X.env.scope.names.lookup nm = some .local := by first | exact .inl rfl | exact .inr rfl) : RX X (.Assign [.Name nm pos'] e pos :: rest) D σ H :=
  rx_of (ps_set hN hi hx pe_sem hs hf) fun H1 e1 => sem_mono (h H1 e1) fun v H2 ⟨Hb, e2, k⟩ => k H2 e2
theorem rx_set (i : Nat) (h : EV X e σ H v) (k : RX X rest D (σ.set i (some v)) H) (hN : X.N.Nodup) (hi : X.N[i]? = some nm := by rfl) (hx : Loc X.env.scope nm := by first | exact Or.inl rfl | exact Or.inr rfl)
    (hs : swapsWith e (some (.Name nm pos')) pos.line X.env = pure false := by rfl) (hf : X.fn nm = true ∨ X.env.scope.names.lookup nm = some .local := by first | exact .inl rfl | exact .inr rfl) : RX X (.Assign [.Name nm pos'] e pos :: rest) D σ H := rx_setM i (EM.ev h k) hN hi hx hs hf
theorem rx_exprM (h : EM X e σ H fun _ Hb => RX X rest D σ Hb) (hs : swapsWith e none pos.line X.env = pure false := by rfl) : RX X (.Expr e pos :: rest) D σ H :=
  rx_of (ps_expr pe_sem hs) fun H1 e1 => sem_mono (h H1 e1) fun v H2 ⟨Hb, e2, k⟩ => k H2 e2
theorem rx_retM (h : EM X e σ H fun v Hb => ∀ H1, Ex Hb H1 → D.rt v H1) : RX X (.Return (some e) pos :: rest) D σ H :=
  rx_of (ps_ret pe_sem) fun H1 e1 => sem_mono (h H1 e1) fun v H2 ⟨Hb, e2, k⟩ => k H2 e2
theorem rx_ret (h : EV X e σ H v) (k : ∀ H1, Ex H H1 → D.rt v H1) : RX X (.Return (some e) pos :: rest) D σ H := rx_retM (EM.ev h k)
theorem rx_if (ht : TN X c σ H bb) (h1 : bb = true → RX X ss { D with nx := semS X rest D } σ H) (h2 : bb = false → RX X tt { D with nx := semS X rest D } σ H) : RX X (.If c ss tt pos :: rest) D σ H :=
  rx_of (ps_if pt_sem pss_sem pss_sem) fun H1 e1 => semT_mono (ht H1 e1) fun b' H2 ⟨e2, q⟩ => by
    subst q
    cases b' with
    | true => exact h1 rfl H2 (e1.trans e2)
    | false => exact h2 rfl H2 (e1.trans e2)
/-- an if without else -/
theorem rx_when (ht : TN X c σ H bb) (h1 : bb = true → RX X ss { D with nx := semS X rest D } σ H) (h2 : bb = false → RX X rest D σ H) : RX X (.If c ss [] pos :: rest) D σ H := rx_if ht h1 fun q => rx_out rfl (h2 q)
/-- d[k] = e -/
theorem rx_dput {o b : Expr} {p : Addr} {kvs : List (Key × V)} {k : Key} (hu : X.A.units + 1 < cLine) (hv : EV X e σ H v) (ho : EV X o σ H (.ref p)) (hb : EV X b σ H (kV k)) (h : H p = some (.dK kvs)) (hl : kvs.length < 100000) (q : RX X rest D σ (upd H p (.dK (putK kvs k v))))
    (hs : swapsWith e (some (.Subscript o b pos')) pos.line X.env = pure false := by rfl) : RX X (.Assign [.Subscript o b pos'] e pos :: rest) D σ H :=
  rx_of (ps_dput hu pe_sem pe_sem pe_sem hs) fun H1 e1 => hv.ev H1 e1 _ fun H2 e2 => ho.ev H2 (e1.trans e2) _ fun H3 e3 => hb.ev H3 ((e1.trans e2).trans e3) _ fun H4 e4 =>
    ⟨p, _, rfl, DPut.k ((((e1.trans e2).trans e3).trans e4) _ _ h) (sz_lt hl), q _ (ex_upd (((e1.trans e2).trans e3).trans e4))⟩
/-! ### comprehensions -/
/-- the tuples that stand, stand -/
def Tx (H H' : Hp) : Prop := ∀ a xs, H a = some (.tup xs) → H' a = some (.tup xs)
theorem Tx.refl (H : Hp) : Tx H H := fun _ _ h => h
theorem Tx.trans {H H1 H2 : Hp} (a : Tx H H1) (b : Tx H1 H2) : Tx H H2 := fun x o h => b x o (a x o h)
theorem _root_.Evl.Ex.tx {H H1 : Hp} (e : Ex H H1) : Tx H H1 := fun a xs h => e a _ h
theorem Tx.lst {H : Hp} {D : Addr} {xs ys : List V} (h : H D = some (.lst xs)) : Tx H (upd H D (.lst ys)) := fun a zs q => by
  rw [upd_ne (ne_of q h (fun z => nomatch z))]; exact q
theorem Tx.dK {H : Hp} {D : Addr} {xs ys : List (Key × V)} (h : H D = some (.dK xs)) : Tx H (upd H D (.dK ys)) := fun a zs q => by
  rw [upd_ne (ne_of q h (fun z => nomatch z))]; exact q
def blkE (X : Cx) (scope : Scope) (e : Expr) : TE := fun σ H Q => ∀ (s : Shared) (H' : Hp) (C : Addr) (cl : List (Str × Addr)) (fp : List Addr), semE (X.blk s H' scope (compEnvC scope cl C X.env) fp) e σ H Q
def blkT (X : Cx) (scope : Scope) (e : Expr) : TT := fun σ H Q => ∀ (s : Shared) (H' : Hp) (C : Addr) (cl : List (Str × Addr)) (fp : List Addr), semT (X.blk s H' scope (compEnvC scope cl C X.env) fp) e σ H Q
theorem pe_blk {scope : Scope} (s : Shared) (H' : Hp) (C : Addr) (cl : List (Str × Addr)) (fp : List Addr) : PE (X.blk s H' scope (compEnvC scope cl C X.env) fp) e (blkE X scope e) := ⟨fun pins s1 σ H Q I h => h s H' C cl fp pins s1 I⟩
theorem pt_blk {scope : Scope} (s : Shared) (H' : Hp) (C : Addr) (cl : List (Str × Addr)) (fp : List Addr) : PT (X.blk s H' scope (compEnvC scope cl C X.env) fp) e (blkT X scope e) := ⟨fun pins s1 σ H Q I h => h s H' C cl fp pins s1 I⟩
/-- the word of a comprehension's turns -/
def LcW (H : Hp) (D : Addr) (P : Nat → List V → Hp → Prop) (i : Nat) (H' : Hp) : Prop := ∃ acc : List V, acc.length ≤ i ∧ H D = none ∧ Ex H H' ∧ H' D = some (.lst acc) ∧ P i acc H'
theorem LcW.push {H : Hp} {D : Addr} {P : Nat → List V → Hp → Prop} {i : Nat} {acc : List V} {H4 : Hp} {v : V} (hP : ∀ n acc H1 H2, Tx H1 H2 → P n acc H1 → P n acc H2) (h1 : acc.length ≤ i) (h2 : H D = none) (h3 : Ex H H4) (h4 : H4 D = some (.lst acc)) (hi : i < 100000) (h5 : P (i + 1) (acc ++ [v]) H4) :
    ∃ ac, H4 D = some (.lst ac) ∧ ac.length < sizeLine ∧ LcW H D P (i + 1) (upd H4 D (.lst (ac ++ [v]))) :=
  ⟨acc, h4, sz_lt (by omega), acc ++ [v], by rw [List.length_append]; exact Nat.add_le_add_right h1 1, h2, Ex.mut h3 h2, upd_same, hP _ _ _ _ (Tx.lst h4) h5⟩
end
end Y
set_option Elab.async false
set_option linter.all false
set_option maxRecDepth 100000
set_option maxHeartbeats 4000000
namespace Y
open PySem PySem.Spec PyProof.Rows L2 Evl
section
variable {X : Cx} {σ : L2.St} {H H' : Hp} {v w x y z : V} {e a b c f o : Expr} {i j k : Nat} {K : PySem.W.Frag} {n m : Int} {pos pos' apos cpos : Pos} {D : Ends} {rest : List Stmt} {R : V → Hp → Prop} {l p : Addr} {xs ys : List V}
theorem ev_dgetS {kvs : List (Key × V)} {t : Str} (hu : X.A.units + 1 < cLine) (ha : EV X a σ H (.ref p)) (hb : EV X b σ H (.str t)) (h : H p = some (.dK kvs)) (g : valV kvs (Sum.inr t) = some v) (hs : NoSl b := by exact fun _ _ => rfl) : EV X (.Subscript a b pos) σ H v := ev_dget (k := Sum.inr t) hu ha hb h g hs
theorem rx_dputS {kvs : List (Key × V)} {t : Str} (hu : X.A.units + 1 < cLine) (hv : EV X e σ H v) (ho : EV X o σ H (.ref p)) (hb : EV X b σ H (.str t)) (h : H p = some (.dK kvs)) (hl : kvs.length < 100000) (q : RX X rest D σ (upd H p (.dK (putK kvs (Sum.inr t) v))))
    (hs : swapsWith e (some (.Subscript o b pos')) pos.line X.env = pure false := by rfl) : RX X (.Assign [.Subscript o b pos'] e pos :: rest) D σ H := rx_dput (k := Sum.inr t) hu hv ho hb h hl q hs
/-! ### methods of lists -/
theorem em_pop (ho : EV X o σ H (.ref l)) (h : H l = some (.lst (ys ++ [y]))) (k : R y (upd H l (.lst ys)))
    (hbase : attributeBase o "pop" X.env (eval o X.env) = eval o X.env := by rfl) (hline : (apos.endLine == cpos.line) = true := by rfl) : EM X (.Call (.Attribute o "pop" apos) [] [] cpos) σ H R :=
  EM.of (pe_bm0 PySem.F.plainAttrs_list PySem.F.slot_list_pop PySem.F.type_list_pop mt_pop pe_sem hbase hline) fun H1 e1 => (EV.ev ho) H1 e1 _ fun H2 e2 => by
    have h2 : H2 l = some (.lst (ys ++ [y])) := (e1.trans e2) _ _ h
    refine ⟨Or.inl ⟨rfl, _, sq_of h2⟩, l, ys ++ [y], y, rfl, rfl, h2, by simp, upd H l (.lst ys), ?_, k⟩
    rw [List.dropLast_concat]
    exact ex_upd (e1.trans e2)
theorem em_append (ho : EV X o σ H (.ref l)) (he : EM X e σ H fun v Hb => ∃ xs, Hb l = some (.lst xs) ∧ xs.length < 100000 ∧ R .non (upd Hb l (.lst (xs ++ [v])))) (h : H l = some (.lst xs))
    (hbase : attributeBase o "append" X.env (eval o X.env) = eval o X.env := by rfl)
    (hfew : ((backTo cpos (starEach [e] X.env)).all (fun x => !x.1) && (backToKw cpos (keywordEach [] X.env)).all (fun x => x.1.isSome) && decide (([e] : List Expr).length + ([] : List Keyword).length + (if ([] : List Keyword).isEmpty then 0 else 1) < 30)) = true := by rfl)
    (hline : (apos.endLine == cpos.line) = true := by rfl) (hs : starEach [e] X.env = (false, eval e X.env) :: starEach [] X.env := by rfl) (hplain : (backTo cpos (starEach [] X.env)).any (·.1) = false := by rfl) :
    EM X (.Call (.Attribute o "append" apos) [e] [] cpos) σ H R :=
  EM.of (pe_bm PySem.F.plainAttrs_list PySem.F.slot_list_append PySem.F.type_list_append mt_append pe_sem (pa_cons pe_sem pa_nil hs) hbase hfew hline hs hplain) fun H1 e1 => (EV.ev ho) H1 e1 _ fun H2 e2 =>
    ⟨Or.inl ⟨rfl, xs, sq_of ((e1.trans e2) _ _ h)⟩, sem_mono (he H2 (e1.trans e2)) fun v H3 ⟨Hb, e3, ys, q1, q2, q3⟩ => ⟨l, ys, v, rfl, rfl, e3 _ _ q1, sz_lt q2, _, ex_upd e3, q3⟩⟩
theorem em_appendV (ho : EV X o σ H (.ref l)) (he : EV X e σ H v) (h : H l = some (.lst xs)) (hz : xs.length < 100000) (k : R .non (upd H l (.lst (xs ++ [v]))))
    (hbase : attributeBase o "append" X.env (eval o X.env) = eval o X.env := by rfl)
    (hfew : ((backTo cpos (starEach [e] X.env)).all (fun x => !x.1) && (backToKw cpos (keywordEach [] X.env)).all (fun x => x.1.isSome) && decide (([e] : List Expr).length + ([] : List Keyword).length + (if ([] : List Keyword).isEmpty then 0 else 1) < 30)) = true := by rfl)
    (hline : (apos.endLine == cpos.line) = true := by rfl) (hs : starEach [e] X.env = (false, eval e X.env) :: starEach [] X.env := by rfl) (hplain : (backTo cpos (starEach [] X.env)).any (·.1) = false := by rfl) :
    EM X (.Call (.Attribute o "append" apos) [e] [] cpos) σ H R := em_append ho (EM.ev he ⟨xs, h, hz, k⟩) h hbase hfew hline hs hplain
/-! ### a list of ints against [] -/
theorem dp_ints {K : PySem.W.Frag} {H : Hp} : ∀ ns : List Int, DpAll K H (ns.map V.int) (ns.map PyData.int)
  | [] => .nil
  | n :: ns => .cons (.int n) (dp_ints ns)
theorem lay_ints : ∀ ns : List Int, PyData.canLayAll0 (ns.map PyData.int) = true
  | [] => rfl
  | n :: ns => by
    simp only [List.map_cons, PyData.canLayAll0, PyData.canLay0, Bool.true_and]
    exact lay_ints ns
theorem depth_ints : ∀ ns : List Int, PyData.depthAll (ns.map PyData.int) ≤ 1
  | [] => by simp [PyData.depthAll]
  | n :: ns => by
    have := depth_ints ns
    simp only [List.map_cons, PyData.depthAll, PyData.depth]
    omega
theorem shaped_ints (ns : List Int) : SeqAt.shaped (.list (ns.map PyData.int)) = true := by
  have := depth_ints ns
  unfold SeqAt.shaped
  rw [Bool.and_eq_true]
  refine ⟨by rw [PyData.canLay0]; exact lay_ints ns, decide_eq_true ?_⟩
  rw [PyData.depth]
  omega
theorem eqv_nil (ns : List Int) : PyData.eqv (.list (ns.map PyData.int)) (.list []) = ns.isEmpty := by
  cases ns <;> simp [PyData.eqv, PyData.eqvAll]
variable {ns : List Int}
/-! ### tests -/
theorem et_tst {te : TE} {bb : Bool} (h : Evl.Ev te σ H (.bl bb)) : Evl.EvT (tTest te) σ H bb := Evl.et_test h
theorem tn_ge (ha : EV X a σ H (.int n)) (hb : EV X b σ H (.int m)) : TN X (.Compare a [.GtE] [b] pos) σ H (decide (m ≤ n)) := TN.of (pt_cmpR op_ge pe_sem pe_sem (nomark _)) (et_tst (ev_op (EV.ev ha) (EV.ev hb) rv_I0))
theorem tn_neNil (hu : X.A.units + 64 < cLine) (ha : EV X a σ H (.ref p)) (h : SqL X.K H p (ns.map V.int)) : TN X (.Compare a [.NotEq] [.List [] pos'] pos) σ H (!ns.isEmpty) := ⟨fun H1 e1 =>
  semT_of (pt_cmpR (op_neD hu) pe_sem (pe_lst pa_nil) (nomark _)) ((EV.ev ha) H1 e1 _ fun H2 e2 => ⟨Nat.zero_le _, fun r hr => ⟨_, _, .lst (ex_l ((e1.trans e2).trans (Ex.new hr)) h) (dp_ints ns), .lst (.inl (.inl upd_same)) .nil, shaped_ints ns, shaped_ints [], _, rfl, e2.trans (Ex.new hr), by rw [eqv_nil]⟩⟩)⟩
/-- and, or -/
def semW (X : Cx) (e : Expr) : TT := fun σ H Q => ∀ (whole : Sem Value) (pins : List (Addr × Obj)) (s : Shared), Inv X pins σ H s → wpAny (model X.prog X.w) X.A (isTrue e X.env whole) (TP X pins σ Q) X.xe s
theorem pw_sem : PW X e (semW X e) := ⟨fun whole pins s _ _ _ I h => h whole pins s I⟩
theorem semW_of {te : TT} (h : PW X e te) {Q : Bool → Hp → Prop} (q : te σ H Q) : semW X e σ H Q := fun whole pins s I => h.run whole pins s σ H Q I q
theorem semW_mono {Q Q' : Bool → Hp → Prop} (h : semW X e σ H Q) (k : ∀ v H', Q v H' → Q' v H') : semW X e σ H Q' := fun whole pins s I => thn (h whole pins s I) fun b _ ⟨H', I', q⟩ => ⟨H', I', k b H' q⟩
structure TW (X : Cx) (e : Expr) (σ : L2.St) (H : Hp) (b : Bool)  : Prop where
  run : ∀ H1, Ex H H1 → semW X e σ H1 fun b' H2 => Ex H1 H2 ∧ b' = b
instance {X : Cx} {e : Expr} {σ : L2.St} {H : Hp} {b : Bool} : CoeFun (TW X e σ H b) fun _ => ∀ H1, Ex H H1 → semW X e σ H1 fun b' H2 => Ex H1 H2 ∧ b' = b := ⟨TW.run⟩
variable {bb cc : Bool} {es : List Expr}
theorem TW.of {te : TT} {b : Bool} (h : PW X e te) (q : Evl.EvT te σ H b) : TW X e σ H b := ⟨fun H1 e1 => semW_of h (q H1 e1 _ fun H2 e2 => ⟨e2, rfl⟩)⟩
theorem TW.ev {b : Bool} (h : TW X e σ H b) : Evl.EvT (semW X e) σ H b := fun H1 e1 Q q => semW_mono (h H1 e1) fun u H2 ⟨e2, hu⟩ => by subst hu; exact q H2 e2
theorem TW.tn (h : TW X e σ H bb) : TN X e σ H bb := TN.of (PW.pt pw_sem) (TW.ev h)
end
end Y
set_option Elab.async false
set_option linter.all false
set_option maxRecDepth 100000
set_option maxHeartbeats 4000000
namespace Y
open PySem PySem.Spec PyProof.Rows L2 Evl
section
variable {X : Cx} {σ : L2.St} {H H' : Hp} {v w x y z : V} {e a b c f o : Expr} {i j k : Nat} {K : PySem.W.Frag} {n m : Int} {pos pos' apos cpos p2 : Pos} {D : Ends} {rest : List Stmt} {R : V → Hp → Prop} {l p : Addr} {xs ys : List V} {φ : V → Hp → Prop} {nm : Str}
/-- a list, a tuple that nobody else has -/
def NL (H : Hp) (xs : List V) : V → Hp → Prop := fun v H2 => ∃ p, v = .ref p ∧ H p = none ∧ H2 p = some (.lst xs)
theorem EN.ofL {te : TE} (h : PE X e te) (q : EvL te σ H xs) : EN X e σ H (NL H xs) := EN.of h fun H1 e1 => q H1 e1 _ fun p H2 hp e2 h2 => ⟨e2, p, rfl, fresh_back e1 hp, h2⟩
/-- a part of a slice -/
def OV (X : Cx) (e : Option Expr) (σ : L2.St) (H : Hp) (o : Option Int) : Prop := ∃ t, PO X e t ∧ EvO t σ H o
theorem ov_n : OV X none σ H none := ⟨_, po_none, eo_none⟩
theorem ov_s (h : EV X e σ H (.int n)) : OV X (some e) σ H (some n) := ⟨_, po_some pe_sem, eo_some (EV.ev h)⟩
variable {lo hi : Option Expr} {lv hv : Option Int}
theorem en_slL (h : EV X e σ H (.ref p)) (hx : SqL X.K H p xs) (h1 : OV X lo σ H lv) (h2 : OV X hi σ H hv) : EN X (.Subscript e (.Slice lo hi none p2) pos) σ H (NL H (cutV xs lv hv)) := let ⟨_, q1, r1⟩ := h1; let ⟨_, q2, r2⟩ := h2; EN.ofL (pe_slice sl_list pe_sem q1 q2) (el_sl (EV.ev h) r1 r2 hx)
theorem en_rev {k : Nat} {p1 p2 p3 : Pos} (h : EN X e σ H (NL H xs)) : EN X (.Subscript e (.Slice none none (some (.UnaryOp .USub (.Constant (.int 1) k p1) p2)) p3) pos) σ H (NL H xs.reverse) := EN.of (pe_revL pe_sem) fun H1 e1 => sem_mono (h H1 e1) fun v H2 ⟨e2, r, er, _, hr⟩ =>
  ⟨r, xs, er, sq_of hr, fun q hq => ⟨e2.trans (Ex.new hq), q, rfl, fresh_back (e1.trans e2) hq, upd_same⟩⟩
/-- a slice of a tuple: itself, or a new one -/
theorem cutV_all {xs : List V} {lo hi : Option Int} (h1 : HT.sIx xs.length 0 lo = 0) (h2 : HT.sIx xs.length xs.length hi = xs.length) : cutV xs lo hi = xs := by
  unfold cutV
  rw [h1, h2, List.drop_zero, Nat.sub_zero, List.take_length]
/-! ### in -/
/-! ### loops over what makes a list -/
theorem rx_forN (i : Nat) {l : Expr} {body : List Stmt} (hp : PassesOwn (model X.prog X.w) X.A X.env X.xe) (hc : X.calm = true) (hl : EN X l σ H φ)
    (k : ∀ v H2, Ex H H2 → φ v H2 → ∃ (r : Addr) (xs : List V) (P : Nat → L2.St → Hp → Prop), v = .ref r ∧ SqL X.K H2 r xs ∧ P 0 σ H2 ∧ (∀ n σ' Hb, n ≤ xs.length → P n σ' Hb → SqL X.K Hb r xs) ∧
      (∀ n x σ' Hb, xs[n]? = some x → P n σ' Hb → RX X body { D with nx := UpS (P (n + 1)), ct := UpS (P (n + 1)), bk := semS X rest D } (σ'.set i (some x)) Hb) ∧ ∀ σ' Hb, P xs.length σ' Hb → RX X rest D σ' Hb)
    (hN : X.N.Nodup) (hi : X.N[i]? = some nm := by rfl) (hlo : Loc X.env.scope nm := by first | exact Or.inl rfl | exact Or.inr rfl)
    (hf : X.fn nm = true ∨ X.env.scope.names.lookup nm = some .local := by first | exact .inl rfl | exact .inr rfl) (hfo : ∀ x, foldedSetIterable l X.env x = pure x := by intro _; rfl) : RX X (.For (.Name nm pos') l body [] pos :: rest) D σ H :=
  rx_of (ps_for hp hc (pi_list pe_sem) (pg_name hN hi hlo hf) pss_sem hfo) fun H1 e1 => sem_mono (hl H1 e1) fun v H2 ⟨e2, q⟩ => by
    obtain ⟨r, xs, P, rfl, hx, h0, hk, hs, hd⟩ := k v H2 (e1.trans e2) q
    exact ⟨r, rfl, ⟨xs, hx⟩, for_list (D := { D with nx := semS X rest D }) (fun n => UpS (P n)) ⟨H2, Ex.refl _, h0⟩ (fun n σ' H' hn ⟨Hb, e, p⟩ => ex_l e (hk n σ' Hb hn p)) (fun n x σ' H' hx ⟨Hb, e, p⟩ => hs n x σ' Hb hx p H' e) fun σ' H' ⟨Hb, e, p⟩ => hd σ' Hb p H' e⟩
end
end Y
set_option Elab.async false
set_option linter.all false
set_option maxRecDepth 100000
set_option maxHeartbeats 4000000
namespace Y
open PySem PySem.Spec PyProof.Rows L2 Evl
section
variable {X : Cx} {σ : L2.St} {H H' : Hp} {v w x y z : V} {e a b c f o : Expr} {i j k : Nat} {K : PySem.W.Frag} {n m : Int} {pos pos' apos cpos p2 : Pos} {D : Ends} {rest : List Stmt} {R : V → Hp → Prop} {l p : Addr} {xs ys : List V} {φ φ1 φ2 φ3 : V → Hp → Prop} {nm : Str}
theorem em_disp3 {s1 s2 s3 : Str} {j1 j2 j3} {q1 q2 q3 : Pos} {v1 v2 v3 : Expr} (h1 : EN X v1 σ H φ1) (h2 : EN X v2 σ H φ2) (h3 : EN X v3 σ H φ3)
    (hk : ∀ x1 x2 x3 : V, mergeK [] [(Sum.inr s1, x1), (Sum.inr s2, x2), (Sum.inr s3, x3)] = [(Sum.inr s1, x1), (Sum.inr s2, x2), (Sum.inr s3, x3)])
    (k : ∀ p x1 x2 x3 Ha Hb Hc, H p = none → Ex (upd H p (.dK [])) Ha → φ1 x1 Ha → Ex Ha Hb → φ2 x2 Hb → Ex Hb Hc → φ3 x3 Hc → R (.ref p) (upd Hc p (.dK [(Sum.inr s1, x1), (Sum.inr s2, x2), (Sum.inr s3, x3)]))) :
    EM X (.Dict [some (.Constant (.str s1) j1 q1), some (.Constant (.str s2) j2 q2), some (.Constant (.str s3) j3 q3)] [v1, v2, v3] pos) σ H R :=
  EM.of (pe_disp (pps_cons pe_str pe_sem (pps_cons pe_str pe_sem (pps_cons pe_str pe_sem pps_nil))) (by rfl) (by rfl) (fun z => by cases z) (by show 3 ≤ 15; decide)) fun H1 e1 p hp => by
    have e0 : Ex H (upd H1 p (.dK [])) := e1.trans (Ex.new hp)
    refine sem_mono (h1 _ e0) fun x1 Ha ⟨ea, f1⟩ => sem_mono (h2 _ (e0.trans ea)) fun x2 Hb ⟨eb, f2⟩ => sem_mono (h3 _ ((e0.trans ea).trans eb)) fun x3 Hc ⟨ec, f3⟩ => ?_
    refine ⟨((ea.trans eb).trans ec) _ _ upd_same, [(Sum.inr s1, x1), (Sum.inr s2, x2), (Sum.inr s3, x3)], rfl, by show 3 ≤ 15; decide, ?_⟩
    rw [hk]
    exact ⟨_, Ex.refl _, k p x1 x2 x3 Ha Hb Hc (fresh_back e1 hp) ((ex_upd e1).trans ea) f1 eb f2 ec f3⟩
end
end Y
set_option Elab.async false
set_option linter.all false
set_option maxRecDepth 100000
set_option maxHeartbeats 4000000
namespace Y
open PySem PySem.Spec PyProof.Rows L2 Evl
/-- a def of the text as it stands behind the top, by its name -/
structure Def (K : PySem.W.Frag) (mg : Str → Option Value) (nm : Str) (st : Stmt) : Prop where
  ex : ∃ f fd, Fun K nm nm st f fd ∧ mg nm = some (.ref f)
/-- a def that keeps its promise, by its name -/
structure Own (P : Program) (w : World) (K : PySem.W.Frag) (mg : Str → Option Value) (base : Heap) (nm : Str) (ps : List Str) (lv : Nat) (sp : Sp) : Prop where
  ex : ∃ g fd, FnOk P w K mg base CX0 lv g fd ps sp ∧ PySem.W.keepIn K (.ref g) = true ∧ Binds K fd ps [] ∧ mg nm = some (.ref g)
section
variable {P : Program} {w : World} {K : PySem.W.Frag} {mg : Str → Option Value} {base : Heap} {nm : Str} {st : Stmt} {N ps : List Str} {k : Nat} {sp sp' : Sp}
/-- THE RULE for a def by what its body runs to -/
theorem Def.own (D : Def K mg nm st) (S : FnScope N ps (defScope st)) (len : ∀ vs H Q E, sp vs H Q E → vs.length = ps.length)
    (hb : ∀ (kV doc pm : Value) (an : Option Addr) (cdv ct : Value) (us : List Value), us.length = ps.length → bindArgs (PySem.W.fnOf nm nm (defArgs st) (defBody st) (defScope st) .none kV doc pm an cdv ct) ⟨us, []⟩ = pure (ps.zip us))
    (hbody : ∀ (X : Cx) (H : Hp) (vs : List V) (Q : VK) (E : XK), (∃ (f : Addr) (cdv : Value) (A : Around) (outer : List Env) (s : Shared), X = (cxOf CX0 P w K mg base N nm (defScope st) f cdv A outer s H E).nox) → Room k X.A → sp vs H Q E → RX X (defBody st) { nx := fun _ H' => Q .non H', rt := Q } (start N vs) H) : Own P w K mg base nm ps (k + 1) sp := by
  obtain ⟨f, fd, F, m⟩ := D.ex
  refine ⟨f, fd, F.ok S len fun cdv A outer s H vs Q E hr h => ⟨_, pss_sem, ?_⟩, F.kp, F.binds hb, m⟩
  exact (hbody _ H vs Q E ⟨f, cdv, A, outer, s, rfl⟩ hr h) H (Ex.refl H)
theorem Own.imp (O : Own P w K mg base nm ps k sp) (h : ∀ vs H Q E, sp' vs H Q E → sp vs H Q E) : Own P w K mg base nm ps k sp' := let ⟨g, fd, F, a⟩ := O.ex; ⟨g, fd, F.imp h, a⟩
end
section
variable {X : Cx} {σ : L2.St} {H H' : Hp} {v w x y z : V} {e a b c f o : Expr} {i j k : Nat} {n m : Int} {pos : Pos} {R : V → Hp → Prop} {φ : V → Hp → Prop} {nm : Str} {ps : List Str} {lv : Nat} {sp : Sp} {es : List Expr} {p q : Pos} {us : List V}
/-! ### operands that are not said but described -/
variable {ψ : V → Hp → Prop} {xs : List V} {l : Addr}
end
end Y
set_option Elab.async false
set_option linter.all false
set_option maxRecDepth 100000
set_option maxHeartbeats 4000000
namespace Y
open PySem PySem.Spec PyProof.Rows L2 Evl
/-- two lists, item by item -/
def All2 {α β : Type} (R : α → β → Prop) : List α → List β → Prop
  | [], [] => True
  | a :: as, b :: bs => R a b ∧ All2 R as bs
  | _, _ => False
section
variable {α β : Type} {R S : α → β → Prop}
theorem All2.len : ∀ {as : List α} {bs : List β}, All2 R as bs → as.length = bs.length
  | [], [], _ => rfl
  | _ :: _, _ :: _, h => congrArg (· + 1) (All2.len h.2)
theorem All2.imp (k : ∀ a b, R a b → S a b) : ∀ {as : List α} {bs : List β}, All2 R as bs → All2 S as bs
  | [], [], _ => True.intro
  | _ :: _, _ :: _, h => ⟨k _ _ h.1, All2.imp k h.2⟩
theorem All2.app : ∀ {as cs : List α} {bs ds : List β}, All2 R as bs → All2 R cs ds → All2 R (as ++ cs) (bs ++ ds)
  | [], _, [], _, _, h => h
  | _ :: _, _, _ :: _, _, h, g => ⟨h.1, All2.app h.2 g⟩
theorem All2.one {a : α} {b : β} (h : R a b) : All2 R [a] [b] := ⟨h, True.intro⟩
theorem All2.at : ∀ {as : List α} {bs : List β}, All2 R as bs → ∀ {i : Nat} {a : α}, as[i]? = some a → ∃ b, bs[i]? = some b ∧ R a b
  | [], [], _, i, a, h => by simp at h
  | x :: _, y :: _, h, 0, a, e => by
    simp at e; subst e; exact ⟨y, rfl, h.1⟩
  | _ :: r, _ :: t, h, i + 1, a, e => All2.at h.2 (i := i) (by simpa using e)
theorem All2.at' : ∀ {as : List α} {bs : List β}, All2 R as bs → ∀ {i : Nat} {b : β}, bs[i]? = some b → ∃ a, as[i]? = some a ∧ R a b
  | [], [], _, i, a, h => by simp at h
  | x :: _, y :: _, h, 0, a, e => by
    simp at e; subst e; exact ⟨x, rfl, h.1⟩
  | _ :: r, _ :: t, h, i + 1, a, e => All2.at' h.2 (i := i) (by simpa using e)
theorem All2.take : ∀ {as : List α} {bs : List β} (n : Nat), All2 R as bs → All2 R (as.take n) (bs.take n)
  | _, _, 0, _ => True.intro
  | [], [], n + 1, _ => True.intro
  | _ :: _, _ :: _, n + 1, h => ⟨h.1, All2.take n h.2⟩
theorem All2.drop : ∀ {as : List α} {bs : List β} (n : Nat), All2 R as bs → All2 R (as.drop n) (bs.drop n)
  | _, _, 0, h => h
  | [], [], n + 1, _ => True.intro
  | _ :: _, _ :: _, n + 1, h => All2.drop n h.2
end
end Y
set_option Elab.async false
set_option linter.all false
set_option maxRecDepth 100000
set_option maxHeartbeats 4000000
/-! a, b, *rest = a tuple of at least two; tuples of texts by <; what isinstance says; repr. -/
namespace Y
open PySem PySem.Spec PyProof.Rows L2 Evl
end Y
set_option Elab.async false
set_option linter.all false
set_option maxRecDepth 100000
set_option maxHeartbeats 4000000
namespace Y
open PySem PySem.Spec PyProof.Rows L2 Evl
section
variable {X : Cx} {σ : L2.St} {H H' : Hp} {v w x y z : V} {e a b c f o : Expr} {i j k : Nat} {K : PySem.W.Frag} {n m : Int} {pos pos' apos cpos p2 q1 q2 : Pos} {D : Ends} {rest : List Stmt} {R : V → Hp → Prop} {l p r : Addr} {xs ys : List V} {φ ψ : V → Hp → Prop} {nm : Str}
/-! ### isinstance -/
/-! ### is, repr -/
/-! ### dicts -/
variable {kvs : List (Key × V)} {ky : Key}
/-! ### objects -/
variable {C dx : Addr} {fs : List (Str × V)}
end
end Y
set_option Elab.async false
set_option linter.all false
set_option maxRecDepth 100000
set_option maxHeartbeats 4000000
namespace Y
open PySem PySem.Spec PyProof.Rows L2 Evl RZ
section
variable {X : Cx} {σ : L2.St} {H H' : Hp} {v w x y z : V} {e a b c f o : Expr} {i j k : Nat} {K : PySem.W.Frag} {n m : Int} {pos pos' apos cpos p2 q1 q2 px py pt : Pos} {D : Ends} {rest : List Stmt} {R : V → Hp → Prop} {l p r : Addr} {xs ys : List V} {φ ψ : V → Hp → Prop} {nm : Str}
theorem walk_zT {K : PySem.W.Frag} {a b : Addr} {xs ys : List V} {n : Nat} (hn : n = min xs.length ys.length) : Walk (ItzT K a b) n (fun H => SqT K H a xs ∧ SqT K H b ys) (YPair (fun i => xs[i]?) (fun i => ys[i]?)) := by
  subst hn
  refine ⟨fun i _ hi q => ?_, fun _ q => ⟨xs, ys, q.1, q.2, by omega⟩, fun i H v H' _ q y => ?_⟩
  · have h1 : i < xs.length := by omega
    have h2 : i < ys.length := by omega
    exact ⟨xs, ys, xs[i], ys[i], q.1, q.2, List.getElem?_eq_getElem h1, List.getElem?_eq_getElem h2⟩
  · obtain ⟨T, x, z, h1, h2, h3, h4, h5⟩ := y
    exact ⟨T, x, z, h1, h2, h3, h4 xs q.1, h5 ys q.2⟩
end
end Y
set_option Elab.async false
set_option linter.all false
set_option maxRecDepth 100000
set_option maxHeartbeats 4000000
/-! enumerate over a tuple -/
namespace Y
open PySem PySem.Spec PyProof.Rows L2 Evl
end Y
set_option Elab.async false
set_option linter.all false
set_option maxRecDepth 100000
set_option maxHeartbeats 4000000
/-! own classes; calls by keyword; enumerate over a tuple; list(d), list + list; comprehensions over pairs. -/
namespace Y
open PySem PySem.Spec PyProof.Rows L2 Evl
section
variable {P : Program} {w : World} {K : PySem.W.Frag} {mg : Str → Option Value} {base : Heap} {x q m nm : Str} {st : Stmt} {N ps : List Str} {k lv : Nat} {sp sp' : Sp} {C : Addr}
theorem fun_own {f : Addr} {fd : FuncData} (F : Fun K x q st f fd) (S : FnScope N ps (defScope st)) (len : ∀ vs H Q E, sp vs H Q E → vs.length = ps.length)
    (hb : ∀ (kV doc pm : Value) (an : Option Addr) (cdv ct : Value) (us : List Value), us.length = ps.length → bindArgs (PySem.W.fnOf x q (defArgs st) (defBody st) (defScope st) .none kV doc pm an cdv ct) ⟨us, []⟩ = pure (ps.zip us))
    (hbody : ∀ (X : Cx) (H : Hp) (vs : List V) (Q : VK) (E : XK), (∃ (f : Addr) (cdv : Value) (A : Around) (outer : List Env) (s : Shared), X = (cxOf CX0 P w K mg base N q (defScope st) f cdv A outer s H E).nox) → Room k X.A → sp vs H Q E → RX X (defBody st) { nx := fun _ H' => Q .non H', rt := Q } (start N vs) H) :
    FnOk P w K mg base CX0 (k + 1) f fd ps sp ∧ Binds K fd ps [] := by
  refine ⟨F.ok S len fun cdv A outer s H vs Q E hr h => ⟨_, pss_sem, ?_⟩, F.binds hb⟩
  exact (hbody _ H vs Q E ⟨f, cdv, A, outer, s, rfl⟩ hr h) H (Ex.refl H)
/-- a method's text, where its class has it -/
structure DefM (K : PySem.W.Frag) (C : Addr) (m q : Str) (st : Stmt) : Prop where
  ex : ∃ f fd, Fun K m q st f fd ∧ Meth K C m f
/-- a class with its __init__ -/
structure DefI (K : PySem.W.Frag) (mg : Str → Option Value) (nm q : Str) (C : Addr) (st : Stmt) : Prop where
  ex : ∃ f fd, Fun K "__init__" q st f fd ∧ Mk K C f ∧ mg nm = some (.ref C)
structure OwnM (P : Program) (w : World) (K : PySem.W.Frag) (mg : Str → Option Value) (base : Heap) (C : Addr) (m : Str) (ps : List Str) (lv : Nat) (sp : Sp) : Prop where
  ex : ∃ f fd, FnOk P w K mg base CX0 lv f fd ps sp ∧ Meth K C m f ∧ Binds K fd ps []
structure OwnI (P : Program) (w : World) (K : PySem.W.Frag) (mg : Str → Option Value) (base : Heap) (nm : Str) (C : Addr) (ps : List Str) (lv : Nat) (sp : Sp) : Prop where
  ex : ∃ f fd, FnOk P w K mg base CX0 lv f fd ps sp ∧ Mk K C f ∧ Binds K fd ps [] ∧ mg nm = some (.ref C)
theorem DefM.own (D : DefM K C m q st) (S : FnScope N ps (defScope st)) (len : ∀ vs H Q E, sp vs H Q E → vs.length = ps.length)
    (hb : ∀ (kV doc pm : Value) (an : Option Addr) (cdv ct : Value) (us : List Value), us.length = ps.length → bindArgs (PySem.W.fnOf m q (defArgs st) (defBody st) (defScope st) .none kV doc pm an cdv ct) ⟨us, []⟩ = pure (ps.zip us))
    (hbody : ∀ (X : Cx) (H : Hp) (vs : List V) (Q : VK) (E : XK), (∃ (f : Addr) (cdv : Value) (A : Around) (outer : List Env) (s : Shared), X = (cxOf CX0 P w K mg base N q (defScope st) f cdv A outer s H E).nox) → Room k X.A → sp vs H Q E → RX X (defBody st) { nx := fun _ H' => Q .non H', rt := Q } (start N vs) H) : OwnM P w K mg base C m ps (k + 1) sp := by
  obtain ⟨f, fd, F, hm⟩ := D.ex
  obtain ⟨h1, h2⟩ := fun_own F S len hb hbody
  exact ⟨f, fd, h1, hm, h2⟩
theorem DefI.own (D : DefI K mg nm q C st) (S : FnScope N ps (defScope st)) (len : ∀ vs H Q E, sp vs H Q E → vs.length = ps.length)
    (hb : ∀ (kV doc pm : Value) (an : Option Addr) (cdv ct : Value) (us : List Value), us.length = ps.length → bindArgs (PySem.W.fnOf "__init__" q (defArgs st) (defBody st) (defScope st) .none kV doc pm an cdv ct) ⟨us, []⟩ = pure (ps.zip us))
    (hbody : ∀ (X : Cx) (H : Hp) (vs : List V) (Q : VK) (E : XK), (∃ (f : Addr) (cdv : Value) (A : Around) (outer : List Env) (s : Shared), X = (cxOf CX0 P w K mg base N q (defScope st) f cdv A outer s H E).nox) → Room k X.A → sp vs H Q E → RX X (defBody st) { nx := fun _ H' => Q .non H', rt := Q } (start N vs) H) : OwnI P w K mg base nm C ps (k + 1) sp := by
  obtain ⟨f, fd, F, hm, hg⟩ := D.ex
  obtain ⟨h1, h2⟩ := fun_own F S len hb hbody
  exact ⟨f, fd, h1, hm, h2, hg⟩
/-! ### calls whose arguments all stand by their names, the last one first -/
theorem Vals.app : ∀ {vs : List V} {us : List Value} {vs' : List V} {us' : List Value}, Vals vs us → Vals vs' us' → Vals (vs ++ vs') (us ++ us')
  | _, _, _, _, .nil, h => h
  | _, _, _, _, .cons r t, h => .cons r (Vals.app t h)
end
section
variable {X : Cx} {σ : L2.St} {H H' : Hp} {v w x y z : V} {e a b c f o : Expr} {i j k : Nat} {K : PySem.W.Frag} {n : Int} {pos pos' apos cpos p1 p2 p3 q1 q2 px py pt : Pos} {D : Ends} {rest : List Stmt} {R : V → Hp → Prop} {l p r C dx : Addr} {xs ys : List V} {φ ψ : V → Hp → Prop} {nm m : Str} {ps : List Str} {lv : Nat} {sp : Sp} {es : List Expr} {us : List V} {fs : List (Str × V)}
/-! ### keywords -/
variable {kws : List Keyword} {kn : Option Str} {kp : Pos} {zs : List V}
def semK (X : Cx) (kws : List Keyword) : TA := fun σ H Q => ∀ (pos : Pos) (pins : List (Addr × Obj)) (s : Shared), Inv X pins σ H s → wpAny (model X.prog X.w) X.A (evalAll ((backToKw pos (keywordEach kws X.env)).map (·.2))) (AP X pins σ Q) X.xe s
theorem pk_sem : PK X kws (semK X kws) := ⟨fun pos pins s _ _ _ I h => h pos pins s I⟩
theorem semK_of {t : TA} (h : PK X kws t) {Q : List V → Hp → Prop} (q : t σ H Q) : semK X kws σ H Q := fun pos pins s I => h.run pos pins s σ H Q I q
theorem semK_mono {Q Q' : List V → Hp → Prop} (h : semK X kws σ H Q) (k : ∀ v H', Q v H' → Q' v H') : semK X kws σ H Q' := fun pos pins s I => thn (h pos pins s I) fun _ _ ⟨v, H', I', r, q⟩ => ⟨v, H', I', r, k v H' q⟩
structure KV (X : Cx) (kws : List Keyword) (σ : L2.St) (H : Hp) (vs : List V)  : Prop where
  run : ∀ H1, Ex H H1 → semK X kws σ H1 fun us H2 => Ex H1 H2 ∧ us = vs
theorem KV.nil : KV X [] σ H [] := ⟨fun H1 e1 => semK_of pk_nil ⟨Ex.refl H1, rfl⟩⟩
theorem KV.cons (h : EV X e σ H v) (r : KV X kws σ H zs) : KV X (⟨kn, e, kp⟩ :: kws) σ H (v :: zs) := ⟨fun H1 e1 => semK_of (pk_cons pe_sem pk_sem) (EV.ev h H1 e1 _ fun H2 e2 => semK_mono (r.run H2 (e1.trans e2)) fun us H3 ⟨e3, q⟩ => ⟨e2.trans e3, by rw [q]⟩)⟩
end
end Y
set_option Elab.async false
set_option linter.all false
set_option maxRecDepth 100000
set_option maxHeartbeats 4000000
namespace Y
open PySem PySem.Spec PyProof.Rows L2 Evl
section
variable {X : Cx} {σ : L2.St} {H H' : Hp} {v w x y z : V} {e a b c f o : Expr} {i j k : Nat} {K : PySem.W.Frag} {n : Int} {pos pos' apos cpos p1 p2 p3 q1 q2 px py pt : Pos} {D : Ends} {rest : List Stmt} {R : V → Hp → Prop} {l p r C dx : Addr} {xs ys : List V} {φ ψ : V → Hp → Prop} {nm m : Str}
/-- list(tuple) -/
theorem en_listT (hg : Gl X "list") (hm : X.mg "list" = none) (ha : EN X a σ H fun v H2 => ∃ r, v = .ref r ∧ (SqL X.K H2 r xs ∨ SqT X.K H2 r xs)) (hst : starEach [a] X.env = (false, eval a X.env) :: starEach [] X.env := by rfl) : EN X (.Call (.Name "list" q1) [a] [] q2) σ H (NL H xs) :=
  EN.of (pe_callTy call_list_of hg hm (by decide +kernel) (pa_cons pe_sem pa_nil hst) (he := hst)) fun H1 e1 => sem_mono (ha H1 e1) fun v H2 ⟨e2, r, ev, h⟩ => ⟨r, xs, by rw [ev], h, fun q hq => ⟨e2.trans (Ex.new hq), q, rfl, fresh_back (e1.trans e2) hq, upd_same⟩⟩
/-! ### comprehensions -/
end
end Y
set_option Elab.async false
set_option linter.all false
set_option maxRecDepth 100000
set_option maxHeartbeats 4000000
namespace E5
open PySem PySem.Spec PyProof.Rows L2 Evl Y
def topS (i : Nat) : Stmt := PySem.Challenge.pw_eachcut_k47_whole_tables_of_sorts.main.body.getD i (.Pass ⟨0, 0, 0, 0⟩)
abbrev sDeck : Stmt := topS 34
abbrev sDraw : Stmt := topS 35
theorem scDeck : FnScope ["_law_script", "_law_mixed", "_law_cell"] ["_law_script"] (defScope sDeck) := ⟨rfl, rfl, rfl, by decide +kernel, rfl, by decide +kernel, by decide +kernel⟩
theorem scDraw : FnScope ["_law_deck_here", "_law_many", "_law_cell", "_law_figure"] ["_law_deck_here", "_law_many"] (defScope sDraw) := ⟨rfl, rfl, rfl, by decide +kernel, rfl, by decide +kernel, by decide +kernel⟩
/-- the deck's dict -/
abbrev dks (lf : Addr) (m t : Int) : List (Key × V) := [(Sum.inr "left", .ref lf), (Sum.inr "mixed", .int m), (Sum.inr "draws", .int t)]
theorem lm_ : ¬ (("left" : Str) = "mixed") := by decide +kernel
theorem lt_ : ¬ (("left" : Str) = "draws") := by decide +kernel
theorem mt_ : ¬ (("mixed" : Str) = "draws") := by decide +kernel
theorem dk_left (lf : Addr) (m t : Int) : valV (dks lf m t) (Sum.inr "left") = some (.ref lf) := by rfl
theorem dk_mixed (lf : Addr) (m t : Int) : valV (dks lf m t) (Sum.inr "mixed") = some (.int m) := by
  rw [valV_neg (by intro q; exact lm_ (Sum.inr.inj q)), valV_pos rfl]
theorem dk_turn (lf : Addr) (m t : Int) : valV (dks lf m t) (Sum.inr "draws") = some (.int t) := by
  rw [valV_neg (by intro q; exact lt_ (Sum.inr.inj q)), valV_neg (by intro q; exact mt_ (Sum.inr.inj q)), valV_pos rfl]
end E5
set_option Elab.async false
set_option linter.all false
set_option maxRecDepth 100000
set_option maxHeartbeats 4000000
namespace E5
open PySem PySem.Spec PyProof.Rows L2 Evl Y
theorem put_turn (lf : Addr) (m t t' : Int) : putK (dks lf m t) (Sum.inr "draws") (.int t') = dks lf m t' := by
  unfold putK dks
  have h1 : ¬ ((Sum.inr ("left" : Str) : Key) = (Sum.inr ("draws" : Str) : Key)) := fun q => lt_ (Sum.inr.inj q)
  have h2 : ¬ ((Sum.inr ("mixed" : Str) : Key) = (Sum.inr ("draws" : Str) : Key)) := fun q => mt_ (Sum.inr.inj q)
  simp only [List.any_cons, List.any_nil, List.map_cons, List.map_nil, h1, h2, decide_false, decide_true, Bool.false_or, Bool.or_false, if_true, if_false]
theorem put_mixed (lf : Addr) (m t m' : Int) : putK (dks lf m t) (Sum.inr "mixed") (.int m') = dks lf m' t := by
  unfold putK dks
  have h1 : ¬ ((Sum.inr ("left" : Str) : Key) = (Sum.inr ("mixed" : Str) : Key)) := fun q => lm_ (Sum.inr.inj q)
  have h2 : ¬ ((Sum.inr ("draws" : Str) : Key) = (Sum.inr ("mixed" : Str) : Key)) := fun q => mt_ (Sum.inr.inj q).symm
  simp only [List.any_cons, List.any_nil, List.map_cons, List.map_nil, h1, h2, decide_false, decide_true, Bool.false_or, Bool.or_false, Bool.true_or, if_true, if_false]
section
variable {P : Program} {w : World} {K : PySem.W.Frag} {mg : Str → Option Value} {base : Heap}
/-- what _law_draw does to a deck: the rest stays -/
def spDraw0 : Sp := fun vs H Q _ => ∃ (dk lf : Addr) (m t b : Int) (left : List Int), vs = [.ref dk, .int b] ∧ H dk = some (.dK (dks lf m t)) ∧ H lf = some (.lst (left.map V.int)) ∧ 0 ≤ m ∧ m < 2147483647 ∧ left.length ≤ 63 ∧ 1 ≤ b ∧ b < 1073741824 ∧
  ∀ (r m' t' : Int) (left' : List Int) (H' : Hp), 0 ≤ r → r < b → 0 ≤ m' → m' < 2147483647 → left'.length ≤ 63 → Ex (upd (upd H dk (.dK (dks lf m' t'))) lf (.lst (left'.map V.int))) H' → Q (.int r) H'
theorem ok_draw0 {f : Addr} {fd : FuncData} {k : Nat} (F : Fun K "_law_draw" "_law_draw" sDraw f fd) (mi : mg "int" = none) (mm : mg "max" = none) : FnOk P w K mg base CX0 (k + 1) f fd ["_law_deck_here", "_law_many"] spDraw0 := by
  refine F.ok scDraw (fun vs H Q E h => ?_) (fun cdv A outer s H vs Q E hr h => ?_)
  · obtain ⟨dk, lf, m, t, b, left, rfl, _⟩ := h
    rfl
  · obtain ⟨dk, lf, m, t, b, left, rfl, hd, hl, hm0, hm1, hlen, hb1, hb2, q⟩ := h
    have hu := hu_of hr
    have nd := scDraw.nd
    have ndl : dk ≠ lf := ne_of hd hl (fun z => nomatch z)
    refine ⟨_, pss_sem, ?_⟩
    suffices G : RX (cxOf CX0 P w K mg base ["_law_deck_here", "_law_many", "_law_cell", "_law_figure"] "_law_draw" (defScope sDraw) f cdv A outer s H E).nox (defBody sDraw) { nx := fun _ H' => Q .non H', rt := Q } [some (.ref dk), some (.int b), none, none] H from G H (Ex.refl H)
    -- deck['turn'] = deck['turn'] + 1
    refine rx_dputS hu (ev_add (ev_dgetS hu (ev_nm 0) ev_s hd (dk_turn _ _ _)) ev_i) (ev_nm 0) ev_s hd (by show 3 < 100000; decide) ?_
    rw [put_turn]
    generalize eH : upd H dk (.dK (dks lf m (t + 1))) = Ha
    have hda : Ha dk = some (.dK (dks lf m (t + 1))) := by rw [← eH]; exact upd_same
    have hla : Ha lf = some (.lst (left.map V.int)) := by rw [← eH, upd_ne (Ne.symm ndl)]; exact hl
    have tail : ∀ (m' : Int) (left' : List Int) (cl : Option V) (Hb : Hp), 0 ≤ m' → m' < 2147483647 → left'.length ≤ 63 → Hb = upd (upd H dk (.dK (dks lf m' (t + 1)))) lf (.lst (left'.map V.int)) →
        RX (cxOf CX0 P w K mg base ["_law_deck_here", "_law_many", "_law_cell", "_law_figure"] "_law_draw" (defScope sDraw) f cdv A outer s H E).nox ((defBody sDraw).drop 2) { nx := fun _ H' => Q .non H', rt := Q } [some (.ref dk), some (.int b), cl, none] Hb := by
      intro m' left' cl Hb b1 b2 b3 eb
      have hdk : Hb dk = some (.dK (dks lf m' (t + 1))) := by rw [eb, upd_ne ndl]; exact upd_same
      refine rx_set 3 (ev_mod (ev_int rfl (by rfl) mi (ev_add (ev_dgetS hu (ev_nm 0) ev_s hdk (dk_mixed _ _ _)) (ev_mul ev_i (ev_dgetS hu (ev_nm 0) ev_s hdk (dk_turn _ _ _)) (.inl ⟨by decide, by decide⟩)))) ev_i (by decide)) ?_ nd
      refine rx_set 3 (ev_mod (ev_int rfl (by rfl) mi (ev_add (ev_add (ev_mul (ev_nm 3) (ev_nm 3) (.inl ?_)) (ev_mul ev_i (ev_dgetS hu (ev_nm 0) ev_s hdk (dk_turn _ _ _)) (.inl ⟨by decide, by decide⟩))) ev_i)) ev_i (by decide)) ?_ nd
      · have h1 := Int.emod_nonneg (m' + 48271 * (t + 1)) (show (2147483647 : Int) ≠ 0 by decide)
        have h2 := Int.emod_lt_of_pos (m' + 48271 * (t + 1)) (show (0 : Int) < 2147483647 by decide)
        exact ⟨by omega, by omega⟩
      refine rx_set 3 (ev_mod (ev_int rfl (by rfl) mi (ev_add (ev_mul (ev_nm 3) ev_i (.inr ⟨by decide, by decide⟩)) ev_i)) ev_i (by decide)) ?_ nd
      refine rx_ret (ev_mod (ev_int rfl (by rfl) mi (ev_div (ev_nm 3) ev_i ⟨by decide, by decide⟩)) (ev_nm 1) (by omega)) fun H1 e1 => ?_
      exact q _ m' (t + 1) left' H1 (Int.emod_nonneg _ (by omega)) (Int.emod_lt_of_pos _ (by omega)) b1 b2 b3 (eb ▸ e1)
    -- if deck['left'] != []
    refine rx_when (tn_neNil (ns := left) (by have := hr.units; exact this) (ev_dgetS hu (ev_nm 0) ev_s hda (dk_left _ _ _)) (sq_of hla)) (fun hne => ?_) fun he => ?_
    · obtain ⟨ys, y, rfl⟩ : ∃ ys y, left = ys ++ [y] := by
        rcases List.eq_nil_or_concat left with z | ⟨ys, y, z⟩
        · rw [z] at hne; cases hne
        · exact ⟨ys, y, by rw [z, List.concat_eq_append]⟩
      have hla' : Ha lf = some (.lst (ys.map V.int ++ [V.int y])) := by rw [hla, List.map_append]; rfl
      rw [List.length_append, List.length_singleton] at hlen
      -- cell = deck['left'].pop()
      refine rx_setM 2 (em_pop (ev_dgetS hu (ev_nm 0) ev_s hda (dk_left _ _ _)) hla' ?_) nd
      generalize eHb : upd Ha lf (.lst (ys.map V.int)) = Hb
      have hdb : Hb dk = some (.dK (dks lf m (t + 1))) := by rw [← eHb, upd_ne ndl]; exact hda
      have hlb : Hb lf = some (.lst (ys.map V.int)) := by rw [← eHb]; exact upd_same
      refine rx_when (tn_ge (ev_nm 2) (ev_pow ev_i ev_i ⟨by decide, by decide, by decide⟩)) (fun hbig => ?_) fun hbig => ?_
      · refine rx_exprM (em_appendV (ev_dgetS hu (ev_nm 0) ev_s hdb (dk_left _ _ _)) (ev_div (ev_nm 2) (ev_max2 rfl (by rfl) mm ev_i (ev_nm 1)) ?_) hlb (by rw [List.length_map]; omega) ?_)
        · refine ⟨?_, ?_⟩
          · split <;> omega
          · split <;> omega
        refine rx_ret (ev_mod (ev_int rfl (by rfl) mi (ev_nm 2)) (ev_nm 1) (by omega)) fun H1 e1 => ?_
        refine q _ m (t + 1) (ys ++ [y.fdiv (if b > 2 then b else 2)]) H1 (Int.emod_nonneg _ (by omega)) (Int.emod_lt_of_pos _ (by omega)) hm0 hm1 (by rw [List.length_append, List.length_singleton]; omega) ?_
        rw [← eHb, ← eH] at e1
        intro a o ha
        refine e1 a o ?_
        rw [← ha, List.map_append]
        by_cases h1 : a = lf
        · subst h1; rw [upd_same, upd_same]; rfl
        · rw [upd_ne h1, upd_ne h1, upd_ne h1]
      · refine rx_dputS hu (ev_mod (ev_int rfl (by rfl) mi (ev_add (ev_add (ev_mul (ev_dgetS hu (ev_nm 0) ev_s hdb (dk_mixed _ _ _)) ev_i (.inr ⟨by decide, by decide⟩)) (ev_mod (ev_int rfl (by rfl) mi (ev_nm 2)) ev_i (by decide))) ev_i)) ev_i (by decide)) (ev_nm 0) ev_s hdb (by show 3 < 100000; decide) ?_
        rw [put_mixed]
        refine rx_out rfl (tail ((m * 69621 + y % 2147483563 + 7) % 2147483629) ys _ _ (Int.emod_nonneg _ (by decide)) (Int.lt_trans (Int.emod_lt_of_pos _ (by decide)) (by decide)) (by omega) ?_)
        rw [← eHb, ← eH]
        funext a
        by_cases h1 : a = lf
        · subst h1; rw [upd_ne (Ne.symm ndl), upd_same, upd_same]
        · rw [upd_ne h1]
          by_cases h2 : a = dk
          · subst h2; rw [upd_same, upd_same]
          · rw [upd_ne h2, upd_ne h1, upd_ne h2, upd_ne h2]
    · obtain rfl : left = [] := by
        cases left with
        | nil => rfl
        | cons x r => cases he
      refine tail m [] _ _ hm0 hm1 (Nat.zero_le _) ?_
      funext a
      rw [← eH]
      by_cases h1 : a = lf
      · subst h1; rw [upd_same, upd_ne (Ne.symm ndl)]; exact hl
      · rw [upd_ne h1]
end
end E5
set_option Elab.async false
set_option linter.all false
set_option maxRecDepth 100000
set_option maxHeartbeats 4000000
namespace E5
open PySem PySem.Spec PyProof.Rows L2 Evl Y
/-- the deck seen from outside: something to draw from -/
def phiD (P : Program) (w : World) (dk lf : Addr) : Heap → Prop := fun h => ∃ m t : Int, 0 ≤ m ∧ m < 2147483647 ∧ ObjOk P w (fun _ => none) h dk (.dK (dks lf m t))
def phiL (P : Program) (w : World) (lf : Addr) : Heap → Prop := fun h => ∃ left : List Int, left.length ≤ 63 ∧ ObjOk P w (fun _ => none) h lf (.lst (left.map V.int))
def Deck (P : Program) (w : World) (H : Hp) (dk : Addr) : Prop := ∃ lf, H dk = some (.ext (phiD P w dk lf)) ∧ H lf = some (.ext (phiL P w lf)) ∧ dk ≠ lf
theorem Deck.mono {P : Program} {w : World} {H H' : Hp} {dk : Addr} (h : Deck P w H dk) (e : Ex H H') : Deck P w H' dk := let ⟨lf, a, b, c⟩ := h; ⟨lf, e _ _ a, e _ _ b, c⟩
theorem ext_D {P : Program} {w : World} {H H' : Hp} {h : Heap} {dk lf : Addr} {m t : Int} (h0 : 0 ≤ m) (h1 : m < 2147483647) (x : ObjOk P w H h dk (.dK (dks lf m t))) : ObjOk P w H' h dk (.ext (phiD P w dk lf)) := by
  refine ⟨⟨m, t, h0, h1, x⟩, ?_, fun g1 g2 ⟨m', t', a, b, y⟩ k => ⟨m', t', a, b, ?_⟩⟩
  · obtain ⟨_, _, _, _, o, _, _, e, _⟩ := x
    exact ⟨o, e⟩
  · obtain ⟨z, y0, vs, r, ob, es, ep, e, c⟩ := y
    exact ⟨z, y0, vs, r, ob, es, ep, k _ e, c⟩
theorem ext_L {P : Program} {w : World} {H H' : Hp} {h : Heap} {lf : Addr} {left : List Int} (h0 : left.length ≤ 63) (x : ObjOk P w H h lf (.lst (left.map V.int))) : ObjOk P w H' h lf (.ext (phiL P w lf)) := by
  refine ⟨⟨left, h0, x⟩, ?_, fun g1 g2 ⟨l', a, y⟩ k => ⟨l', a, ?_⟩⟩
  · obtain ⟨_, _, _, _, e⟩ := x
    exact ⟨_, e⟩
  · obtain ⟨z, its, n, r, e⟩ := y
    exact ⟨z, its, n, r, k _ e⟩
def spDraw (P : Program) (w : World) : Sp := fun vs H Q _ => ∃ (dk : Addr) (b : Int), vs = [.ref dk, .int b] ∧ Deck P w H dk ∧ 1 ≤ b ∧ b < 1073741824 ∧ ∀ (r : Int) (H' : Hp), 0 ≤ r → r < b → Ex H H' → Q (.int r) H'
section
variable {P : Program} {w : World} {K : PySem.W.Frag} {mg : Str → Option Value} {base : Heap}
/-- two abstract heaps that differ in what they say of tracked things alone -/
theorem hok_swap {H H1 : Hp} {h : Heap} (ok : HOk P w H h) (own : ∀ b y, H b = some (.own y) → H1 b = some (.own y)) (tup : ∀ b xs, H b = some (.tup xs) → H1 b = some (.tup xs)) (k : ∀ b o, H1 b = some o → H b = some o ∨ ObjOk P w H1 h b o) : HOk P w H1 h := fun a o e => by
  rcases k a o e with q | q
  · exact (ok a o q).stay (fun b u _ z => z) (fun b z => own b _ z) tup
  · exact q
theorem draw_ext {f : Addr} {fd : FuncData} {k : Nat} (F : FnOk P w K mg base CX0 k f fd ["_law_deck_here", "_law_many"] spDraw0) : FnOk P w K mg base CX0 k f fd ["_law_deck_here", "_law_many"] (spDraw P w) := by
  refine ⟨fun vs H Q E h => ?_, fun A outer s H args us vs Q E hr e0 hb hv hs => ?_⟩
  · obtain ⟨dk, b, rfl, _⟩ := h
    rfl
  · obtain ⟨dk, b, rfl, ⟨lf, hd, hl, ne⟩, b1, b2, q⟩ := hs
    obtain ⟨⟨m, t, hm0, hm1, od⟩, _, _⟩ := e0.hok dk _ hd
    obtain ⟨⟨left, hlen, ol⟩, _, _⟩ := e0.hok lf _ hl
    have n1 : ∀ a, H a = none → a ≠ dk ∧ a ≠ lf := fun a z => ⟨fun y => (by rw [y, hd] at z; cases z), fun y => (by rw [y, hl] at z; cases z)⟩
    have at1 : ∀ a, a ≠ dk → a ≠ lf → (upd (upd H dk (.dK (dks lf m t))) lf (.lst (left.map V.int))) a = H a := fun a h1 h2 => by rw [upd_ne h2, upd_ne h1]
    have kd : ∀ b o, H b = some o → (∀ φ, o ≠ .ext φ) → b ≠ dk ∧ b ≠ lf := fun b o z no => ⟨fun y => (by rw [y, hd] at z; exact no _ (Option.some.inj z).symm), fun y => (by rw [y, hl] at z; exact no _ (Option.some.inj z).symm)⟩
    have ok1 : HOk P w (upd (upd H dk (.dK (dks lf m t))) lf (.lst (left.map V.int))) s.heap := by
      refine hok_swap e0.hok (fun b y z => ?_) (fun b y z => ?_) fun b o z => ?_
      · obtain ⟨x1, x2⟩ := kd b _ z (fun φ => nofun)
        rw [at1 b x1 x2]; exact z
      · obtain ⟨x1, x2⟩ := kd b _ z (fun φ => nofun)
        rw [at1 b x1 x2]; exact z
      · by_cases x2 : b = lf
        · subst x2; rw [upd_same] at z; cases z; exact .inr ol
        · by_cases x1 : b = dk
          · subst x1; rw [upd_ne x2, upd_same] at z; cases z; exact .inr od
          · rw [at1 b x1 x2] at z; exact .inl z
    have e1 : Env0 P w K mg base A outer s (upd (upd H dk (.dK (dks lf m t))) lf (.lst (left.map V.int))) := ⟨e0.frames, e0.mod, fun b o z => ⟨(e0.bs b o z).1, by rw [at1 b (n1 b (e0.bs b o z).2).1 (n1 b (e0.bs b o z).2).2]; exact (e0.bs b o z).2⟩, e0.bsz, e0.funs, fun b z => by rw [at1 b (n1 b (e0.frf b z)).1 (n1 b (e0.frf b z)).2]; exact e0.frf b z, ok1, e0.bare⟩
    refine codeAny_mono (F.run A outer s _ args us _ (fun v H' => v = v ∧ ∃ r : Int, v = .int r ∧ 0 ≤ r ∧ r < b ∧ ∃ (m' t' : Int) (left' : List Int), 0 ≤ m' ∧ m' < 2147483647 ∧ left'.length ≤ 63 ∧ Ex (upd (upd H dk (.dK (dks lf m' t'))) lf (.lst (left'.map V.int))) H') E hr e1 hb hv
      ⟨dk, lf, m, t, b, left, rfl, by rw [upd_ne ne, upd_same], upd_same, hm0, hm1, hlen, b1, b2, fun r m' t' left' H' r0 r1 a0 a1 a2 ex => ⟨rfl, r, rfl, r0, r1, m', t', left', a0, a1, a2, fun a o z => ex a o ?_⟩⟩) fun r s' hq => ?_
    · by_cases x2 : a = lf
      · subst x2; rw [upd_same] at z ⊢; exact z
      · rw [upd_ne x2] at z ⊢
        by_cases x1 : a = dk
        · subst x1; rw [upd_same] at z ⊢; exact z
        · rw [upd_ne x1] at z ⊢; rw [upd_ne x2, upd_ne x1]; exact z
    · cases r with
      | error e => exact hq
      | ok fl =>
        cases fl with
        | ret u =>
          obtain ⟨v, H', os, bare, un, hok, rv, -, r, rfl, r0, r1, m', t', left', a0, a1, a2, ex⟩ := hq
          have hD := hok dk _ (ex dk _ (by rw [upd_ne ne, upd_same]))
          have hL := hok lf _ (ex lf _ upd_same)
          have at2 : ∀ a, a ≠ dk → a ≠ lf → (upd (upd H' dk (.ext (phiD P w dk lf))) lf (.ext (phiL P w lf))) a = H' a := fun a h1 h2 => by rw [upd_ne h2, upd_ne h1]
          have exH : Ex H (upd (upd H' dk (.ext (phiD P w dk lf))) lf (.ext (phiL P w lf))) := fun a o z => by
            by_cases x2 : a = lf
            · subst x2; rw [upd_same, ← hl]; exact z
            · by_cases x1 : a = dk
              · subst x1; rw [upd_ne x2, upd_same, ← hd]; exact z
              · rw [at2 a x1 x2]; exact ex a o (by rw [upd_ne x2, upd_ne x1]; exact z)
          have kd2 : ∀ b o, H' b = some o → (∀ kvs, o ≠ .dK kvs) → (∀ xs, o ≠ .lst xs) → b ≠ dk ∧ b ≠ lf := fun b o z n1 n2 => ⟨fun y => by rw [y, ex dk _ (by rw [upd_ne ne, upd_same])] at z; exact n1 _ (Option.some.inj z).symm, fun y => by rw [y, ex lf _ upd_same] at z; exact n2 _ (Option.some.inj z).symm⟩
          refine ⟨.int r, _, os, bare, ⟨fun b o z n hb hx => un.keep b o z (by rw [at1 b (n1 b n).1 (n1 b n).2]; exact n) hb hx, fun b o z n hb hx => un.slot b o z (by rw [at1 b (n1 b n).1 (n1 b n).2]; exact n) hb hx,
            fun b o z n hx => by rw [at2 b (n1 b n).1 (n1 b n).2]; exact un.free b o z (by rw [at1 b (n1 b n).1 (n1 b n).2]; exact n) hx, fun b o z hx => un.there b o z hx, fun b xs z => exH b _ z, fun b o u z => exH b _ z, fun b ps z => ⟨#[], by rw [exH b _ z]; simp⟩⟩, ?_, rv, q r _ r0 r1 exH⟩
          refine hok_swap hok (fun b y z => ?_) (fun b y z => ?_) fun b o z => ?_
          · obtain ⟨x1, x2⟩ := kd2 b _ z (fun _ => nofun) (fun _ => nofun)
            rw [at2 b x1 x2]; exact z
          · obtain ⟨x1, x2⟩ := kd2 b _ z (fun _ => nofun) (fun _ => nofun)
            rw [at2 b x1 x2]; exact z
          · by_cases x2 : b = lf
            · subst x2; rw [upd_same] at z; cases z; exact .inr (ext_L a2 hL)
            · by_cases x1 : b = dk
              · subst x1; rw [upd_ne x2, upd_same] at z; cases z; exact .inr (ext_D a0 a1 hD)
              · rw [at2 b x1 x2] at z; exact .inl z
        | next => exact hq
        | brk => exact hq
        | cont => exact hq
end
end E5
set_option Elab.async false
set_option linter.all false
set_option maxRecDepth 100000
set_option maxHeartbeats 4000000
namespace E5
open PySem PySem.Spec PyProof.Rows L2 Evl Y
theorem cut63 {ns : List Int} (h : ns.length ≤ 63) : cutV (ns.map V.int) none (some 63) = ns.map V.int := cutV_all rfl (by
  show min 63 (ns.map V.int).length = _
  rw [List.length_map]; omega)
theorem mk_deck (x1 x2 x3 : V) : mergeK [] [((Sum.inr ("left" : Str) : Key), x1), (Sum.inr "mixed", x2), (Sum.inr "draws", x3)] = [((Sum.inr ("left" : Str) : Key), x1), (Sum.inr "mixed", x2), (Sum.inr "draws", x3)] := by
  have h1 : ¬ ((Sum.inr ("left" : Str) : Key) = (Sum.inr ("mixed" : Str) : Key)) := fun q => lm_ (Sum.inr.inj q)
  have h2 : ¬ ((Sum.inr ("left" : Str) : Key) = (Sum.inr ("draws" : Str) : Key)) := fun q => lt_ (Sum.inr.inj q)
  have h3 : ¬ ((Sum.inr ("mixed" : Str) : Key) = (Sum.inr ("draws" : Str) : Key)) := fun q => mt_ (Sum.inr.inj q)
  simp only [mergeK, List.foldl_cons, List.foldl_nil, putK, List.any_cons, List.any_nil, List.nil_append, List.cons_append, h1, h2, h3, decide_false, Bool.or_false, Bool.false_eq_true, if_false]
section
variable {P : Program} {w : World} {K : PySem.W.Frag} {mg : Str → Option Value} {base : Heap}
def spDeck0 (K : PySem.W.Frag) : Sp := fun vs H Q _ => ∃ (a : Addr) (ns : List Int), vs = [.ref a] ∧ SqL K H a (ns.map V.int) ∧ ns.length ≤ 63 ∧
  ∀ (dk lf : Addr) (m : Int) (left : List Int) (H' : Hp), H dk = none → H lf = none → dk ≠ lf → Ex H H' → H' dk = some (.dK (dks lf m 0)) → H' lf = some (.lst (left.map V.int)) → 0 ≤ m → m < 2147483647 → left.length ≤ 63 → Q (.ref dk) H'
theorem ok_deck0 {f : Addr} {fd : FuncData} {k : Nat} (F : Fun K "_law_deck" "_law_deck" sDeck f fd) (mi : mg "int" = none) (ml : mg "list" = none) : FnOk P w K mg base CX0 (k + 1) f fd ["_law_script"] (spDeck0 K) := by
  refine F.ok scDeck (fun vs H Q E h => ?_) (fun cdv A outer s H vs Q E hr h => ?_)
  · obtain ⟨a, ns, rfl, _⟩ := h
    rfl
  · obtain ⟨a, ns, rfl, hx, hlen, q⟩ := h
    have hu := hu_of hr
    have nd := scDeck.nd
    refine ⟨_, pss_sem, ?_⟩
    suffices G : RX (cxOf CX0 P w K mg base ["_law_script", "_law_mixed", "_law_cell"] "_law_deck" (defScope sDeck) f cdv A outer s H E).nox (defBody sDeck) { nx := fun _ H' => Q .non H', rt := Q } [some (.ref a), none, none] H from G H (Ex.refl H)
    refine rx_set 1 ev_i ?_ nd
    refine rx_forN 2 PassesOwn.never rfl (en_slL (ev_nm 0) hx ov_n (ov_s ev_i)) (fun v H2 e2 hv => ?_) nd
    obtain ⟨r, rfl, hr0, hr1⟩ := hv
    rw [cut63 hlen] at hr1
    refine ⟨r, ns.map V.int, fun n σ' Hb => ∃ (m : Int) (c : Option V), σ' = [some (.ref a), some (.int m), c] ∧ 0 ≤ m ∧ m < 2147483647 ∧ Hb = H2, rfl, sq_of hr1, ⟨13745047, none, rfl, by decide, by decide, rfl⟩, fun n σ' Hb _ ⟨m, c, _, _, _, eb⟩ => eb ▸ sq_of hr1, fun n x σ' Hb hx' ⟨m, c, es, m0, m1, eb⟩ => ?_, fun σ' Hb ⟨m, c, es, m0, m1, eb⟩ => ?_⟩
    · subst es eb
      obtain ⟨u, rfl⟩ : ∃ u, x = V.int u := by
        rw [List.getElem?_map] at hx'
        obtain ⟨u, _, e⟩ := Option.map_eq_some_iff.mp hx'
        exact ⟨u, e.symm⟩
      refine rx_set 1 (ev_mod (ev_int rfl (by rfl) mi (ev_add (ev_add (ev_mul (ev_nm 1) ev_i (.inr ⟨by decide, by decide⟩)) (ev_mod (ev_int rfl (by rfl) mi (ev_nm 2)) ev_i (by decide))) ev_i)) ev_i (by decide)) ?_ nd
      exact rx_up rfl ⟨_, _, rfl, Int.emod_nonneg _ (by decide), Int.lt_trans (Int.emod_lt_of_pos _ (by decide)) (by decide), rfl⟩
    · subst es eb
      have hx2 : SqL K Hb a (ns.map V.int) := ex_l e2 hx
      refine rx_retM (em_disp3 (en_rev (xs := ns.map V.int) (en_listT (by rfl) ml ((en_slL (ev_nm 0) hx2 ov_n (ov_s ev_i)).weak fun v H3 e3 ⟨r', er, _, h3⟩ => ⟨r', er, .inl (by rw [cut63 hlen] at h3; exact sq_of h3)⟩))) (ev_nm 1) ev_i mk_deck (fun p x1 x2 x3 Ha Hb' Hc hp ea f1 eb f2 ec f3 H1 e1 => ?_))
      · obtain ⟨lf, rfl, hlf0, hlf⟩ := f1
        subst f2 f3
        have h1 : Hc lf = some (.lst (ns.map V.int).reverse) := (eb.trans ec) _ _ hlf
        have hpc : Hc p = some (.dK []) := ((ea.trans eb).trans ec) _ _ upd_same
        have npl : p ≠ lf := ne_of hpc h1 (fun z => nomatch z)
        rw [← List.map_reverse] at h1
        refine q p lf m ns.reverse H1 (fresh_back e2 hp) (fresh_back e2 hlf0) npl ?_ (e1 _ _ upd_same) (e1 _ _ (by rw [upd_ne (Ne.symm npl)]; exact h1)) m0 m1 (by rw [List.length_reverse]; exact hlen)
        intro u o hu'
        refine e1 u o ?_
        have nup : u ≠ p := ne_of_none (e2 _ _ hu') hp
        rw [upd_ne nup]
        exact ((ea.trans eb).trans ec) u o (by rw [upd_ne nup]; exact e2 _ _ hu')
end
end E5
set_option Elab.async false
set_option linter.all false
set_option maxRecDepth 100000
set_option maxHeartbeats 4000000
namespace E5
open PySem PySem.Spec PyProof.Rows L2 Evl Y
section
variable {P : Program} {w : World} {K : PySem.W.Frag} {mg : Str → Option Value} {base : Heap}
def spDeck (P : Program) (w : World) (K : PySem.W.Frag) : Sp := fun vs H Q _ => ∃ (a : Addr) (ns : List Int), vs = [.ref a] ∧ SqL K H a (ns.map V.int) ∧ ns.length ≤ 63 ∧ ∀ (dk lf : Addr) (H' : Hp), H dk = none → H lf = none → H' dk = some (.ext (phiD P w dk lf)) → H' lf = some (.ext (phiL P w lf)) → dk ≠ lf → Ex H H' → Q (.ref dk) H'
theorem deck_ext {f : Addr} {fd : FuncData} {k : Nat} (F : FnOk P w K mg base CX0 k f fd ["_law_script"] (spDeck0 K)) : FnOk P w K mg base CX0 k f fd ["_law_script"] (spDeck P w K) := by
  refine ⟨fun vs H Q E h => ?_, fun A outer s H args us vs Q E hr e0 hb hv hs => ?_⟩
  · obtain ⟨a, ns, rfl, _⟩ := h
    rfl
  · obtain ⟨a, ns, rfl, hx, hlen, q⟩ := hs
    refine codeAny_mono (F.run A outer s H args us _ (fun v H' => ∃ (dk lf : Addr) (m : Int) (left : List Int), v = .ref dk ∧ H dk = none ∧ H lf = none ∧ dk ≠ lf ∧ Ex H H' ∧ H' dk = some (.dK (dks lf m 0)) ∧ H' lf = some (.lst (left.map V.int)) ∧ 0 ≤ m ∧ m < 2147483647 ∧ left.length ≤ 63) E hr e0 hb hv
      ⟨a, ns, rfl, hx, hlen, fun dk lf m left H' h1 h2 h3 h4 h5 h6 h7 h8 h9 => ⟨dk, lf, m, left, rfl, h1, h2, h3, h4, h5, h6, h7, h8, h9⟩⟩) fun r s' hq => ?_
    cases r with
    | error e => exact hq
    | ok fl =>
      cases fl with
      | ret u =>
        obtain ⟨v, H', os, bare, un, hok, rv, dk, lf, m, left, rfl, nd, nl, ne, ex, hd, hl, m0, m1, hlen'⟩ := hq
        have at2 : ∀ a, a ≠ dk → a ≠ lf → (upd (upd H' dk (.ext (phiD P w dk lf))) lf (.ext (phiL P w lf))) a = H' a := fun a h1 h2 => by rw [upd_ne h2, upd_ne h1]
        have exH : Ex H (upd (upd H' dk (.ext (phiD P w dk lf))) lf (.ext (phiL P w lf))) := fun a o z => by
          rw [at2 a (ne_of_none z nd) (ne_of_none z nl)]; exact ex a o z
        have kd2 : ∀ b o, H' b = some o → (∀ kvs, o ≠ .dK kvs) → (∀ xs, o ≠ .lst xs) → b ≠ dk ∧ b ≠ lf := fun b o z n1 n2 => ⟨fun y => by rw [y, hd] at z; exact n1 _ (Option.some.inj z).symm, fun y => by rw [y, hl] at z; exact n2 _ (Option.some.inj z).symm⟩
        have frs1 : ∀ b o, s.heap.get? b = some o → H b = none → H' b = none := fun b o z n => un.free b o z n (by simp)
        refine ⟨.ref dk, _, os, bare, ⟨fun b o z n hb hx => un.keep b o z n hb hx, fun b o z n hb hx => un.slot b o z n hb hx,
          fun b o z n hx => ?_, fun b o z hx => un.there b o z hx, fun b xs z => exH b _ z, fun b o u z => exH b _ z, fun b ps z => ⟨#[], by rw [exH b _ z]; simp⟩⟩, ?_, rv, q dk lf _ nd nl (by rw [upd_ne ne, upd_same]) upd_same ne exH⟩
        · have n2 := un.free b o z n hx
          rw [at2 b (fun y => by rw [y, hd] at n2; cases n2) (fun y => by rw [y, hl] at n2; cases n2)]
          exact n2
        refine hok_swap hok (fun b y z => ?_) (fun b y z => ?_) fun b o z => ?_
        · obtain ⟨x1, x2⟩ := kd2 b _ z (fun _ => nofun) (fun _ => nofun)
          rw [at2 b x1 x2]; exact z
        · obtain ⟨x1, x2⟩ := kd2 b _ z (fun _ => nofun) (fun _ => nofun)
          rw [at2 b x1 x2]; exact z
        · by_cases x2 : b = lf
          · subst x2; rw [upd_same] at z; cases z; exact .inr (ext_L hlen' (hok b _ hl))
          · by_cases x1 : b = dk
            · subst x1; rw [upd_ne x2, upd_same] at z; cases z; exact .inr (ext_D m0 m1 (hok b _ hd))
            · rw [at2 b x1 x2] at z; exact .inl z
      | next => exact hq
      | brk => exact hq
      | cont => exact hq
abbrev psDraw : List Str := ["_law_deck_here", "_law_many"]
abbrev psPick : List Str := ["_law_deck_here", "_law_some"]
theorem own_draw (D : Def K mg "_law_draw" sDraw) (mi : mg "int" = none) (mm : mg "max" = none) : Own P w K mg base "_law_draw" psDraw 1 (spDraw P w) := by
  obtain ⟨f, fd, F, m⟩ := D.ex
  exact ⟨f, fd, draw_ext (ok_draw0 F mi mm), F.kp, F.binds (fun _ _ _ _ _ _ us hl => match us, hl with | [_, _], _ => rfl), m⟩
theorem own_deck (D : Def K mg "_law_deck" sDeck) (mi : mg "int" = none) (ml : mg "list" = none) : Own P w K mg base "_law_deck" ["_law_script"] 1 (spDeck P w K) := by
  obtain ⟨f, fd, F, m⟩ := D.ex
  exact ⟨f, fd, deck_ext (ok_deck0 F mi ml), F.kp, F.binds (fun _ _ _ _ _ _ us hl => match us, hl with | [_], _ => rfl), m⟩
end
end E5
set_option Elab.async false
set_option linter.all false
set_option maxRecDepth 100000
set_option maxHeartbeats 4000000
namespace Y
open PySem PySem.Spec PyProof.Rows L2 Evl
/-! ### the fields of an object by their names -/
end Y
set_option Elab.async false
set_option linter.all false
set_option maxRecDepth 100000
set_option maxHeartbeats 4000000
namespace Y
open PySem PySem.Spec PyProof.Rows L2 Evl
end Y
set_option Elab.async false
set_option linter.all false
set_option maxRecDepth 100000
set_option maxHeartbeats 4000000
namespace Y
open PySem PySem.Spec PyProof.Rows L2 Evl
end Y
set_option Elab.async false
set_option linter.all false
set_option maxRecDepth 100000
set_option maxHeartbeats 4000000
namespace Y
open PySem PySem.Spec PyProof.Rows L2 Evl
end Y
set_option Elab.async false
set_option linter.all false
set_option maxRecDepth 100000
set_option maxHeartbeats 4000000
namespace Y
open PySem PySem.Spec PyProof.Rows L2 Evl
section
variable {X : Cx} {σ : L2.St} {H H' : Hp} {v w x y z : V} {e a b c f o : Expr} {i j k : Nat} {K : PySem.W.Frag} {n m : Int} {pos pos' apos cpos p1 p2 p3 q1 q2 px py pz pt : Pos} {D : Ends} {rest : List Stmt} {R : V → Hp → Prop} {l p r C dx : Addr} {xs ys : List V} {φ ψ : V → Hp → Prop} {es : List Expr} {Φ : List V → Hp → Prop}
/-- arguments that are told, the known heap only extended -/
structure AN (X : Cx) (es : List Expr) (σ : L2.St) (H : Hp) (Φ : List V → Hp → Prop) : Prop where
  run : ∀ H1, Ex H H1 → semA X es σ H1 fun us H2 => Ex H1 H2 ∧ Φ us H2
theorem AN.nil (h : ∀ H1, Ex H H1 → Φ [] H1) : AN X [] σ H Φ := ⟨fun H1 e1 => semA_of pa_nil ⟨Ex.refl H1, h H1 e1⟩⟩
theorem AN.cons (h : EN X e σ H φ) (r : ∀ v H2, Ex H H2 → φ v H2 → AN X es σ H2 fun vs H3 => Φ (v :: vs) H3) (hs : starEach (e :: es) X.env = (false, eval e X.env) :: starEach es X.env := by rfl) : AN X (e :: es) σ H Φ :=
  ⟨fun H1 e1 => semA_of (pa_cons pe_sem pa_sem hs) (sem_mono (h H1 e1) fun v H2 ⟨e2, q⟩ => semA_mono ((r v H2 (e1.trans e2) q).run H2 (Ex.refl _)) fun vs H3 ⟨e3, q3⟩ => ⟨e2.trans e3, q3⟩)⟩
end
end Y
set_option Elab.async false
set_option linter.all false
set_option maxRecDepth 100000
set_option maxHeartbeats 4000000
namespace Y
open PySem PySem.Spec PyProof.Rows L2 Evl
end Y
set_option Elab.async false
set_option linter.all false
set_option maxRecDepth 100000
set_option maxHeartbeats 4000000
/-! dicts that are walked: under a lock they stand as frozen; what reads them reads on. -/
namespace Y
open PySem PySem.Spec PyProof.Rows L2 Evl
theorem rd_mono {H H' : Hp} {p : Addr} {u : HO} (h : Rd H p u) (e : Ex H H') : Rd H' p u := h.imp (fun z => e _ _ z) fun ⟨o, z⟩ => ⟨o, e _ _ z⟩
theorem rd_get {H : Hp} {p : Addr} {kvs : List (Key × V)} {k : Key} (h : Rd H p (.dK kvs)) : DGet H p (kV k) (valV kvs k) := .inl ⟨kvs, k, h, rfl, rfl⟩
section
variable {X : Cx} {σ : L2.St} {H H' : Hp} {v w x y z : V} {e a b c f o : Expr} {i j k : Nat} {n m : Int} {pos pos' apos cpos p1 p2 p3 q1 q2 px py pz pt : Pos} {D : Ends} {rest : List Stmt} {l p r d C dx : Addr} {xs ys : List V} {φ ψ : V → Hp → Prop} {nx ny : Str} {kvs : List (Key × V)} {ky : Key}
theorem Ex.set {H H1 : Hp} {p : Addr} {o : HO} (e : Ex H H1) : Ex (upd H p o) (upd H1 p o) := ex_upd e
end
end Y
set_option Elab.async false
set_option linter.all false
set_option maxRecDepth 100000
set_option maxHeartbeats 4000000
namespace Y
open PySem PySem.Spec PyProof.Rows L2 Evl
end Y
set_option Elab.async false
set_option linter.all false
set_option maxRecDepth 100000
set_option maxHeartbeats 4000000
namespace Y
open PySem PySem.Spec PyProof.Rows L2 Evl
end Y
set_option Elab.async false
set_option linter.all false
set_option maxRecDepth 100000
set_option maxHeartbeats 4000000
/-! a law's own def, entered where no repr runs; repr of data of any depth -/
namespace Y
open PySem PySem.Spec PyProof.Rows L2 Evl
section
variable {P : Program} {w : World} {K : PySem.W.Frag} {mg : Str → Option Value} {base : Heap} {k : Nat} {f : Addr} {fd : FuncData} {ps N : List Str} {sp : Sp} {x q nm : Str} {st : Stmt}
/-- a promise that is kept where no repr of a list, tuple or dict is under way -/
structure FnG (P : Program) (w : World) (K : PySem.W.Frag) (mg : Str → Option Value) (base : Heap) (k : Nat) (f : Addr) (fd : FuncData) (ps : List Str) (sp : Sp) : Prop where
  go : ∀ (A : Around) (fr : List Env) (t : Shared) (H : Hp) (ar : Args) (us : List Value) (vs : List V) (Q : VK) (E : XK), A.guards = some [] → Room k A → Env0 P w K mg base A fr t H → BindsTo t fd ar (ps.zip us) → Vals vs us → sp vs H Q E →
    codeAny (model P w) A (.call (.ref f) ar) (CR CX0 fr P w H t Q E) t
theorem fun_G (F : Fun K x q st f fd) (S : FnScope N ps (defScope st)) (len : ∀ vs H Q E, sp vs H Q E → vs.length = ps.length)
    (hbody : ∀ (X : Cx) (H : Hp) (vs : List V) (Q : VK) (E : XK), (∃ (f : Addr) (cdv : Value) (A : Around) (outer : List Env) (s : Shared), X = (cxOf CX0 P w K mg base N q (defScope st) f cdv A outer s H E).nox) → X.A.guards = some [] → Room k X.A → sp vs H Q E → RX X (defBody st) { nx := fun _ H' => Q .non H', rt := Q } (start N vs) H) : FnG P w K mg base (k + 1) f fd ps sp := by
  obtain ⟨oc, od, kV, doc, pm, an, cdv, ct, osl, rfl, lk, hcd⟩ := F.ex
  refine ⟨fun A fr t H ar us vs Q E hg hr e0 hb r hsp => ?_⟩
  have hl := len _ _ _ _ hsp
  have kin : K.In t.heap := e0.mod.kin.keeps fun b o e => (e0.bs b o e).1
  have nol : t.heap.NoLimit := e0.mod.nolimit.keeps fun b o e => (e0.bs b o e).1
  have kinds : ∀ y ∈ ps.zip us, (defScope st).names.lookup y.1 = some .local ∨ ((defScope st).names.lookup y.1 = some .cell ∧ ((cellsFrom (t.heap.objs.size + 1) (defScope st).names []).lookup y.1).isSome = true) := fun ⟨n, v⟩ hy =>
    (S.par n (List.of_mem_zip hy).1).imp id fun z => ⟨z, PySem.W.cellsFrom_some _ _ _ (.inl z)⟩
  refine codeAny_call_function hr.depth (kin _ _ lk) rfl S.co S.gen rfl (PySem.W.codeRec_of kin hcd) (hb _ _ _ _ ?_)
  refine wpAny_newFunctionEnv_cells S.kind kinds fun env he s1 z => ?_
  subst he
  refine ⟨nol.keeps z.toInCall.keep, codeAny_func ?_⟩
  have I0 := inv_start (CX := CX0) (E := E) S hr.hd e0 hl r z
  have B := hbody _ H vs Q E ⟨f, cdv, A, fr, t, rfl⟩ hg (hr.deeper _) hsp H (Ex.refl H)
  refine wpAny_mono ((PSs.nox pss_sem).run [] s1 (start N vs) H _ I0 B) (fun fl t' hs => ?_) fun _ _ hs => hs
  rcases fl with _ | _ | _ | u
  · obtain ⟨_, H', J, q⟩ := hs
    exact ⟨V.non, H', J.os, J.bare, J.base, J.hok, rfl, q⟩
  · obtain ⟨_, _, _, q⟩ := hs
    exact False.elim q
  · obtain ⟨_, _, _, q⟩ := hs
    exact False.elim q
  · obtain ⟨v, _, H', J, rv, q⟩ := hs
    exact ⟨v, H', J.os, J.bare, J.base, J.hok, rv, q⟩
end
end Y
set_option Elab.async false
set_option linter.all false
set_option maxRecDepth 100000
set_option maxHeartbeats 4000000
namespace Y
open PySem PySem.Spec PyProof.Rows L2 Evl
/-- from a heap in which nothing is known but, perhaps, the script -/
theorem enterG {P : Program} {w : World} {K : PySem.W.Frag} {g gb : Str → Option Value} {k : Nat} {fa a : Addr} {fd : FuncData} {x : Str} {sp : Sp} {t : Shared} {vs : List Value}
    (kin : K.In t.heap) (hg : t.heap.Ns mainGlobals g) (hb : t.heap.Ns builtinsNs gb) (hbb : ∀ x : Str, x ≠ "__name__" → gb x = bootBuiltins x) (nol : t.heap.NoLimit) (gens : t.gens = #[])
    (ha : t.heap.get? a = some { cls := .type "list", data := .seq vs.toArray }) (room : Room k callerA)
    (F : ∀ bs : Heap, K.In bs → bs.Ns mainGlobals g → FnG P w K g bs k fa fd [x] sp) (bind : ∀ (s : Shared) (u : Value), BindsTo s fd ⟨[u], []⟩ [(x, u)])
    (H : Hp) (only : Only H) (hsp : sp [.ref a] H (fun v _ => v = .bl true) fun _ _ _ => False) (ok : HOk P w H t.heap) (alone : ∀ b, H b ≠ none → b = a) (free : H a ≠ none → K.lookup a = none) :
    codeAny (model P w) callerA (.call (.ref fa) ⟨[.ref a], []⟩) (fun r t' => r = .ok (.ret (.bool true)) ∧ OldK t.heap t'.heap ∧ t'.os = t.os ∧ AllBare t'.gens) t := by
  -- a namespace is no list: it is not the script
  have off : ∀ {b : Addr} {o : Obj} {es : Array DictEntry} {ep : Nat}, t.heap.get? b = some o → o.data = .dict es ep → H b = none := by
    intro b o es ep e d
    rcases Classical.em (H b = none) with z | z
    · exact z
    · rw [alone b z, ha] at e
      cases e
      cases (show Data.seq vs.toArray _ = Data.dict es ep from d)
  have up : ∀ {b : Addr} {m : Str → Option Value}, t.heap.Ns b m → (hidT t.heap H).Ns b m := by
    rintro b m ⟨o, es, ep, e, d, r⟩
    exact ⟨o, es, ep, hidT_get e (off e d), d, r⟩
  have kb : K.In (hidT t.heap H) := by
    intro b o e
    refine hidT_get (kin b o e) ?_
    rcases Classical.em (H b = none) with z | z
    · exact z
    · have q := alone b z
      subst q
      rw [free z] at e; cases e
  obtain ⟨mc, l1, l2⟩ := id nol
  have md : Mod K g (hidT t.heap H) := ⟨kb, up hg, ⟨gb, up hb, hbb⟩, ⟨mc, up l1, l2⟩⟩
  have e0 : Env0 P w K g (hidT t.heap H) callerA [] t H := by
    refine ⟨rfl, md, fun _ _ e => of_hidT e, ?_, trivial, ?_, ok, .of_eq gens⟩
    · exact Nat.le_of_eq (hidT_size _ _)
    · intro b z
      cases (show b ∈ ([] : List Addr) from z)
  have R := (F _ kb (up hg)).go callerA [] t H ⟨[.ref a], []⟩ [.ref a] [.ref a] _ _ rfl room e0 (bind t (.ref a)) (.cons rfl .nil) hsp
  refine codeAny_mono R fun r t' h => ?_
  match r, h with
  | .error e, h => exact False.elim h
  | .ok .next, h => exact False.elim h
  | .ok .brk, h => exact False.elim h
  | .ok .cont, h => exact False.elim h
  | .ok (.ret u), h =>
    obtain ⟨v, H', os, bare, un, ok', rv, rfl⟩ := h
    cases (show u = Value.bool true from rv)
    refine ⟨rfl, OldK.of_keep fun b o e => ?_, os, bare⟩
    rcases z : H b with _ | u
    · refine un.keep b o e z (fun q => ?_) (fun q => nomatch q)
      cases (show b ∈ ([] : List Addr) from q)
    · rcases only b with q | ⟨o', xs, q⟩
      · rw [z] at q; cases q
      · obtain ⟨f1, _⟩ := ok b _ q
        obtain ⟨f2, _⟩ := ok' b _ (un.frzs b o' _ q)
        rw [e] at f1
        cases f1
        exact f2
theorem law_G {P : Program} {w : World} {K : PySem.W.Frag} {g gb : Str → Option Value} {k : Nat} {fa a : Addr} {fd : FuncData} {x : Str} {sp : Sp} {t : Shared} {vs : List Value} {ns : List Int}
    (kin : K.In t.heap) (hg : t.heap.Ns mainGlobals g) (hb : t.heap.Ns builtinsNs gb) (hbb : ∀ x : Str, x ≠ "__name__" → gb x = bootBuiltins x) (nol : t.heap.NoLimit) (gens : t.gens = #[])
    (ha : t.heap.get? a = some { cls := .type "list", data := .seq vs.toArray }) (hin : IntsAre vs ns) (hl : ns.length ≤ sizeLine) (room : Room k callerA)
    (F : ∀ bs : Heap, K.In bs → bs.Ns mainGlobals g → FnG P w K g bs k fa fd [x] sp) (bind : ∀ (s : Shared) (u : Value), BindsTo s fd ⟨[u], []⟩ [(x, u)])
    (hsp : ∀ H : Hp, Only H → SqL K H a (ns.map V.int) → sp [.ref a] H (fun v _ => v = .bl true) fun _ _ _ => False) :
    codeAny (model P w) callerA (.call (.ref fa) ⟨[.ref a], []⟩) (fun r t' => r = .ok (.ret (.bool true)) ∧ OldK t.heap t'.heap ∧ t'.os = t.os ∧ AllBare t'.gens) t := by
  have rv := vals_ints hin
  have len := hin.length
  cases hk : K.lookup a with
  | some o =>
    have e := kin a o hk
    rw [ha] at e
    cases e
    have o0 : Only fun _ => none := fun _ => .inl rfl
    refine enterG kin hg hb hbb nol gens ha room F bind (fun _ => none) o0 (hsp _ o0 (.inr ⟨_, vs.toArray, _, hk, rfl, rfl, rfl, ?_, by simpa using rv⟩)) (fun b u z => nomatch z) (fun b z => absurd rfl z) fun z => absurd rfl z
    rw [List.size_toArray, len]; exact hl
  | none =>
    have here : ∀ b, (upd (fun _ => none) a (.frz { cls := .type "list", data := .seq vs.toArray } (.lst (ns.map V.int)))) b ≠ none → b = a := fun b z => by
      rcases Classical.em (b = a) with q | q
      · exact q
      · exact absurd (upd_ne q) z
    have o1 : Only (upd (fun _ => none) a (.frz { cls := .type "list", data := .seq vs.toArray } (.lst (ns.map V.int)))) := fun b => by
      rcases Classical.em (b = a) with q | q
      · subst q; exact .inr ⟨_, _, upd_same⟩
      · exact .inl (upd_ne q)
    refine enterG kin hg hb hbb nol gens ha room F bind _ o1 (hsp _ o1 (.inl (.inr ⟨_, upd_same⟩))) (fun b u z => ?_) here fun _ => hk
    have q := here b (by rw [z]; exact nofun)
    subst q
    rw [upd_same] at z
    cases z
    exact ⟨ha, by rw [List.length_map]; exact hl, vs, _, rv, ha⟩
/-- what the head leaves, from a promise that is kept at the entry -/
theorem walk_G {l : PySem.W.OpenLaw} {n k : Nat} {q : Program} {loose : List Str} {XP : (Str → Option Value) → Heap → Prop} {YP : World → Heap → Prop} {d : DefRec} {K : Params → PySem.W.Frag} {sp : World → Sp} {x : Str}
    (most : l.most = some n) (n2 : n ≤ sizeLine) (nodf : d.params.defaults = []) (room : Room k callerA) (hY : ∀ (w : World) (h : Heap), YP w h → (K w.params).In h)
    (F : ∀ (w : World) (g : Str → Option Value) (fa : Addr) (h : Heap), (K w.params).In h → h.Ns mainGlobals g → g d.name = some (.ref fa) →
      ∃ fd : FuncData, (∀ (s : Shared) (u : Value), BindsTo s fd ⟨[u], []⟩ [(x, u)]) ∧ ∀ bs : Heap, (K w.params).In bs → bs.Ns mainGlobals g → FnG l.prog w (K w.params) g bs k fa fd [x] (sp w))
    (hsp : ∀ (w : World) (H : Hp) (a : Addr) (ns : List Int), ns.length ≤ n → Only H → SqL (K w.params) H a (ns.map V.int) → sp w [.ref a] H (fun v _ => v = .bl true) fun _ _ _ => False) :
    PySem.W.WalkO q loose XP YP l.row.toRowW d [] (fun f vs => PySem.call f vs) := by
  refine Att.attach_call most nodf fun w _ t g _ fa _ _ _ _ a vs ns G Y _ _ _ hmg hobj hints hlen gens => ?_
  obtain ⟨fd, bind, B⟩ := F w g fa _ (hY w _ Y) G.T.g hmg
  exact law_G (hY w _ Y) G.T.g G.T.b G.T.builtins G.T.nolimit gens hobj hints (Nat.le_trans hlen n2) room B bind fun H o1 o2 => hsp w H a ns hlen o1 o2
end Y
set_option Elab.async false
set_option linter.all false
set_option maxRecDepth 100000
set_option maxHeartbeats 4000000
namespace Y
open PySem PySem.Spec PyProof.Rows L2 Evl
section
variable {X : Cx} {σ : L2.St} {H H' : Hp} {v w x y z : V} {e a b c f o : Expr} {i j k : Nat} {n m : Int} {pos p1 p2 p3 q1 q2 q3 : Pos} {D : Ends} {l p r d : Addr} {xs ys : List V} {φ ψ : V → Hp → Prop} {nm : Str} {ns : List Int}
/-! ### repr of data -/
mutual
theorem Dp.ex {K : PySem.W.Frag} (e : Ex H H') : ∀ (d : PyData) (v : V), Dp K H v d → Dp K H' v d
  | .none, _, h => by cases h; exact .non
  | .bool b, _, h => by cases h; exact .bl b
  | .int i, _, h => by cases h; exact .int i
  | .str x, _, h => by cases h; exact .str x
  | .list ds, _, h => by
    cases h with
    | lst hs ha => exact .lst (ex_l e hs) (DpAll.ex e ds _ ha)
  | .tuple ds, _, h => by
    cases h with
    | tup hs ha => exact .tup (ex_t e hs) (DpAll.ex e ds _ ha)
  | .dict _, _, h => by cases h
theorem DpAll.ex {K : PySem.W.Frag} (e : Ex H H') : ∀ (ds : List PyData) (vs : List V), DpAll K H vs ds → DpAll K H' vs ds
  | [], _, h => by cases h; exact .nil
  | d :: ds, _, h => by
    cases h with
    | cons h1 h2 => exact .cons (Dp.ex e d _ h1) (DpAll.ex e ds _ h2)
end
end
/-! ### numbers, and pairs of them -/
abbrev dI (xs : List Int) : PyData := .tuple (xs.map PyData.int)
abbrev dPr (q : Int × Int) : PyData := .tuple [.int q.1, .int q.2]
abbrev dP (ps : List (Int × Int)) : PyData := .tuple (ps.map dPr)
section
variable {K : PySem.W.Frag} {H : Hp}
def IntOk (i : Int) : Prop := i.natAbs < 10 ^ 41
theorem IntOk.show {i : Int} (h : IntOk i) : PyData.showable (.int i) = true := by
  show decide (i.natAbs.log2 < 1920) = true
  have h : i.natAbs < 10 ^ 41 := h
  refine decide_eq_true ?_
  by_cases z : i.natAbs = 0
  · rw [z]; decide
  · exact (Nat.log2_lt z).mpr (Nat.lt_of_lt_of_le h (Nat.le_trans (show 10 ^ 41 ≤ 2 ^ 200 by decide) (Nat.pow_le_pow_right (by decide) (by decide))))
theorem IntOk.len {i : Int} (h : IntOk i) : (PyData.shown (.int i)).length ≤ 42 := by
  have h : i.natAbs < 10 ^ 41 := h
  have e := int_text_length_le10 (k := 41) (by decide) h
  show (Str.ofString (toString i)).length ≤ 42
  rw [PySem.ofString_length]; exact e
theorem sum_le {α : Type} {f : α → Nat} {B : Nat} : ∀ {l : List α}, (∀ x ∈ l, f x ≤ B) → (l.map f).sum ≤ B * l.length
  | [], _ => by simp
  | x :: r, h => by
    have h1 := h x List.mem_cons_self
    have h2 := sum_le (l := r) fun y hy => h y (List.mem_cons_of_mem _ hy)
    rw [List.map_cons, List.sum_cons, List.length_cons, Nat.mul_add, Nat.mul_one]; omega
theorem shownAll_map (ds : List PyData) : PyData.shownAll ds = ds.map PyData.shown := by
  induction ds with
  | nil => rfl
  | cons d r ih => rw [PyData.shownAll, ih]; rfl
theorem showableAll_map (ds : List PyData) : PyData.showableAll ds = ds.all PyData.showable := by
  induction ds with
  | nil => rfl
  | cons d r ih => rw [PyData.showableAll, ih]; rfl
theorem hasDictAll_map (ds : List PyData) : PyData.hasDictAll ds = ds.any PyData.hasDict := by
  induction ds with
  | nil => rfl
  | cons d r ih => rw [PyData.hasDictAll, ih]; rfl
theorem depthAll_le {B : Nat} : ∀ (ds : List PyData), (∀ d ∈ ds, d.depth ≤ B) → PyData.depthAll ds ≤ B
  | [], _ => Nat.zero_le _
  | d :: r, h => by
    have h1 := h d List.mem_cons_self
    have h2 := depthAll_le r fun y hy => h y (List.mem_cons_of_mem _ hy)
    rw [PyData.depthAll]; omega
theorem canLayAll_map (ds : List PyData) : PyData.canLayAll0 ds = ds.all PyData.canLay0 := by
  induction ds with
  | nil => rfl
  | cons d r ih => rw [PyData.canLayAll0, ih]; rfl
/-- data that can be shown, in at most so many signs -/
structure Sh (d : PyData) (dep len : Nat) : Prop where
  s : d.showable = true
  h : d.hasDict = false
  dp : d.depth ≤ dep
  l : d.shown.length ≤ len
  c : d.canLay0 = true
theorem Sh.int {i : Int} (h : IntOk i) : Sh (.int i) 0 42 := ⟨h.show, rfl, Nat.le_refl _, h.len, rfl⟩
theorem Sh.tup {ds : List PyData} {dep len n : Nat} (h : ∀ d ∈ ds, Sh d dep len) (hn : ds.length ≤ n) : Sh (.tuple ds) (dep + 1) ((len + 2) * n + 3) := by
  refine ⟨?_, ?_, ?_, ?_, ?_⟩
  · show PyData.showableAll ds = true
    rw [showableAll_map, List.all_eq_true]
    exact fun d hd => (h d hd).s
  · show PyData.hasDictAll ds = false
    rw [hasDictAll_map, List.any_eq_false]
    exact fun d hd => by rw [(h d hd).h]; decide
  · show PyData.depthAll ds + 1 ≤ _
    exact Nat.succ_le_succ (depthAll_le ds fun d hd => (h d hd).dp)
  · show (tupleText (PyData.shownAll ds)).length ≤ _
    have h1 := tupleText_len_le (PyData.shownAll ds)
    rw [shownAll_map, List.map_map, List.length_map] at h1
    have h2 := sum_le (f := fun d => (PyData.shown d).length) (l := ds) fun d hd => (h d hd).l
    rw [shownAll_map]
    have h3 : (ds.map ((fun s : Str => s.length) ∘ PyData.shown)).sum = (ds.map fun d => (PyData.shown d).length).sum := rfl
    have h4 : (len + 2) * ds.length ≤ (len + 2) * n := Nat.mul_le_mul_left _ hn
    have h5 : (len + 2) * ds.length = len * ds.length + 2 * ds.length := Nat.add_mul _ _ _
    omega
  · show PyData.canLayAll0 ds = true
    rw [canLayAll_map, List.all_eq_true]
    exact fun d hd => (h d hd).c
theorem Sh.mono {d : PyData} {a b a' b' : Nat} (h : Sh d a b) (ha : a ≤ a') (hb : b ≤ b') : Sh d a' b' := ⟨h.s, h.h, Nat.le_trans h.dp ha, Nat.le_trans h.l hb, h.c⟩
theorem Sh.I {xs : List Int} (h : ∀ x ∈ xs, IntOk x) (hl : xs.length ≤ 1000) : Sh (dI xs) 1 50000 := by
  refine (Sh.tup (len := 42) (dep := 0) (n := 1000) (fun d hd => ?_) (by rw [List.length_map]; exact hl)).mono (Nat.le_refl _) (by decide)
  obtain ⟨x, hx, rfl⟩ := List.mem_map.mp hd
  exact Sh.int (h x hx)
theorem Sh.P {ps : List (Int × Int)} (h : ∀ q ∈ ps, IntOk q.1 ∧ IntOk q.2) (hl : ps.length ≤ 1000) : Sh (dP ps) 2 100000 := by
  refine (Sh.tup (len := 91) (dep := 1) (n := 1000) (fun d hd => ?_) (by rw [List.length_map]; exact hl)).mono (Nat.le_refl _) (by decide)
  obtain ⟨q, hq, rfl⟩ := List.mem_map.mp hd
  refine (Sh.tup (ds := [.int q.1, .int q.2]) (len := 42) (dep := 0) (n := 2) (fun d hd => ?_) (Nat.le_refl 2)).mono (Nat.le_refl _) (by decide)
  rcases List.mem_cons.mp hd with rfl | hd
  · exact Sh.int (h q hq).1
  · rcases List.mem_cons.mp hd with rfl | hd
    · exact Sh.int (h q hq).2
    · exact nomatch hd
theorem Sh.shaped {d : PyData} {a b : Nat} (h : Sh d a b) (ha : a ≤ 64) : SeqAt.shaped d = true := by
  unfold SeqAt.shaped
  rw [h.c, decide_eq_true (Nat.le_trans h.dp ha)]; rfl
end
end Y
set_option Elab.async false
set_option linter.all false
set_option maxRecDepth 100000
set_option maxHeartbeats 4000000
/-! calls by keyword in any order -/
namespace Y
open PySem PySem.Spec PyProof.Rows L2 Evl
/-- the items at some places -/
def at_ {α : Type} (ix : List Nat) (l : List α) : List α := ix.filterMap fun i => l[i]?
theorem Vals.at_ {zs : List V} {ws : List Value} (h : Vals zs ws) : ∀ ix : List Nat, Vals (Y.at_ ix zs) (Y.at_ ix ws)
  | [] => .nil
  | i :: r => by
    have ih := Vals.at_ h r
    cases e : zs[i]? with
    | none =>
      have e' := Vals.none_of h e
      show Vals (List.filterMap _ (i :: r)) (List.filterMap _ (i :: r))
      rw [List.filterMap_cons, List.filterMap_cons, e, e']
      exact ih
    | some z =>
      obtain ⟨u, e', rz⟩ := Vals.get h e
      show Vals (List.filterMap _ (i :: r)) (List.filterMap _ (i :: r))
      rw [List.filterMap_cons, List.filterMap_cons, e, e']
      exact .cons rz ih
section
variable {P : Program} {w : World} {K : PySem.W.Frag} {mg : Str → Option Value} {base : Heap} {nm : Str} {ps qs : List Str} {ix : List Nat} {lv : Nat} {sp : Sp} {st : Stmt}
structure OwnK (P : Program) (w : World) (K : PySem.W.Frag) (mg : Str → Option Value) (base : Heap) (nm : Str) (ps qs : List Str) (ix : List Nat) (lv : Nat) (sp : Sp) : Prop where
  ex : ∃ g fd, FnOk P w K mg base CX0 lv g fd ps sp ∧ PySem.W.keepIn K (.ref g) = true ∧ (∀ (s : Shared) (ws : List Value), ws.length = qs.length → BindsTo s fd ⟨[], qs.zip ws⟩ (ps.zip (at_ ix ws))) ∧ mg nm = some (.ref g)
theorem Def.both (D : Def K mg nm st) (ok : ∀ f fd, Fun K nm nm st f fd → FnOk P w K mg base CX0 lv f fd ps sp)
    (hb : ∀ (kV doc pm : Value) (an : Option Addr) (cdv ct : Value) (us : List Value), us.length = ps.length → bindArgs (PySem.W.fnOf nm nm (defArgs st) (defBody st) (defScope st) .none kV doc pm an cdv ct) ⟨us, []⟩ = pure (ps.zip us))
    (hbK : ∀ (kV doc pm : Value) (an : Option Addr) (cdv ct : Value) (us : List Value), us.length = qs.length → bindArgs (PySem.W.fnOf nm nm (defArgs st) (defBody st) (defScope st) .none kV doc pm an cdv ct) ⟨[], qs.zip us⟩ = pure (ps.zip (at_ ix us))) :
    Own P w K mg base nm ps lv sp ∧ OwnK P w K mg base nm ps qs ix lv sp := by
  obtain ⟨f, fd, F, m⟩ := D.ex
  have h1 := ok f fd F
  refine ⟨⟨f, fd, h1, F.kp, F.binds hb, m⟩, ⟨f, fd, h1, F.kp, ?_, m⟩⟩
  obtain ⟨oc, od, kV, doc, pm, an, cdv, ct, osl, rfl, lk, hcd⟩ := F.ex
  exact fun s ws hl => .of_eq (hbK kV doc pm an cdv ct ws hl)
end
end Y
set_option Elab.async false
set_option linter.all false
set_option maxRecDepth 100000
set_option maxHeartbeats 4000000
namespace Y
open PySem PySem.Spec PyProof.Rows L2 Evl
end Y
set_option Elab.async false
set_option linter.all false
set_option maxRecDepth 100000
set_option maxHeartbeats 4000000
namespace Y
open PySem PySem.Spec PyProof.Rows L2 Evl
section
variable {X : Cx} {σ : L2.St} {H H' : Hp} {v w x y z : V} {e a b c f o : Expr} {i j k : Nat} {n m : Int} {pos pos' apos cpos p1 p2 p3 q1 q2 q3 px py pt spos : Pos} {D : Ends} {rest : List Stmt} {l p r d : Addr} {xs ys : List V} {φ ψ : V → Hp → Prop} {nm : Str} {ns : List Int} {kvs : List (Key × V)} {ky : Key}
/-- a tuple of which α is true -/
def TP (α : List V → Hp → Prop) : V → Hp → Prop := fun v H => ∃ p xs, v = .ref p ∧ H p = some (.tup xs) ∧ α xs H
/-! ### loops and comprehensions over what is made on the way -/
end
end Y
set_option Elab.async false
set_option linter.all false
set_option maxRecDepth 100000
set_option maxHeartbeats 4000000
namespace Y
open PySem PySem.Spec PyProof.Rows L2 Evl
end Y
set_option Elab.async false
set_option linter.all false
set_option maxRecDepth 100000
set_option maxHeartbeats 4000000
/-! t[::-1] of a tuple. -/
namespace Y
open PySem PySem.Spec PyProof.Rows L2 Evl HT
end Y
set_option Elab.async false
set_option linter.all false
set_option maxRecDepth 100000
set_option maxHeartbeats 4000000
/-! Data, how it lies in a heap, what is known of the slots: a heap is frozen in part (B), the lists and dicts of one's own stand outside of it. -/
namespace Z
open PySem PySem.Spec PyProof.Rows L2 Evl Y
inductive Dt where
  | non | bl (b : Bool) | int (n : Int) | str (s : Str)
  | tup (ds : List Dt) | lst (ds : List Dt)
  | dic (kvs : List (Key × Dt)) | dit (kvs : List (List Key × Dt))
  | obj (C : Addr) (fs : List (Str × Dt))
  | dk (a b : Addr) (f g : Heap → Prop)
  | tx (ds : List Dt)
  | tz (ds : List Dt)
/-- a tuple that has no dict -/
def TzAt (B : Hp) (a : Addr) (xs : List V) : Prop := ∃ o : Obj, B a = some (.frz o (.tup xs)) ∧ o.dict = none
theorem TzAt.st {K : PySem.W.Frag} {B : Hp} {a : Addr} {xs : List V} (h : TzAt B a xs) : SqT K B a xs := let ⟨o, h, _⟩ := h; .inl (.inr ⟨o, h⟩)
mutual
inductive Rp (K : PySem.W.Frag) (B : Hp) : V → Dt → Prop
  | non : Rp K B .non .non
  | bl (b : Bool) : Rp K B (.bl b) (.bl b)
  | int (n : Int) : Rp K B (.int n) (.int n)
  | str (s : Str) : Rp K B (.str s) (.str s)
  | tup {a : Addr} {xs : List V} {ds : List Dt} : SqT K B a xs → RpL K B xs ds → Rp K B (.ref a) (.tup ds)
  | lst {a : Addr} {xs : List V} {ds : List Dt} : SqL K B a xs → RpL K B xs ds → Rp K B (.ref a) (.lst ds)
  | dic {a : Addr} {ys : List (Key × V)} {kvs : List (Key × Dt)} : Rd B a (.dK ys) → RpK K B ys kvs → Rp K B (.ref a) (.dic kvs)
  | dit {a : Addr} {ys : List (List Key × V)} {kvs : List (List Key × Dt)} : Rd B a (.dT ys) → RpT K B ys kvs → Rp K B (.ref a) (.dit kvs)
  | obj {a C dx : Addr} {ys : List (Str × V)} {fs : List (Str × Dt)} : B a = some (.ins C dx ys) → RpF K B ys fs → Rp K B (.ref a) (.obj C fs)
  | dk {a b : Addr} {f g : Heap → Prop} : B a = some (.ext f) → B b = some (.ext g) → a ≠ b → Rp K B (.ref a) (.dk a b f g)
  | tx {a : Addr} {xs : List V} {ds : List Dt} : B a = some (.tup xs) → RpL K B xs ds → Rp K B (.ref a) (.tx ds)
  | tz {a : Addr} {xs : List V} {ds : List Dt} : TzAt B a xs → RpL K B xs ds → Rp K B (.ref a) (.tz ds)
inductive RpL (K : PySem.W.Frag) (B : Hp) : List V → List Dt → Prop
  | nil : RpL K B [] []
  | cons {v : V} {d : Dt} {vs : List V} {ds : List Dt} : Rp K B v d → RpL K B vs ds → RpL K B (v :: vs) (d :: ds)
inductive RpK (K : PySem.W.Frag) (B : Hp) : List (Key × V) → List (Key × Dt) → Prop
  | nil : RpK K B [] []
  | cons {k : Key} {v : V} {d : Dt} {vs : List (Key × V)} {ds : List (Key × Dt)} : Rp K B v d → RpK K B vs ds → RpK K B ((k, v) :: vs) ((k, d) :: ds)
inductive RpT (K : PySem.W.Frag) (B : Hp) : List (List Key × V) → List (List Key × Dt) → Prop
  | nil : RpT K B [] []
  | cons {k : List Key} {v : V} {d : Dt} {vs : List (List Key × V)} {ds : List (List Key × Dt)} : Rp K B v d → RpT K B vs ds → RpT K B ((k, v) :: vs) ((k, d) :: ds)
inductive RpF (K : PySem.W.Frag) (B : Hp) : List (Str × V) → List (Str × Dt) → Prop
  | nil : RpF K B [] []
  | cons {k : Str} {v : V} {d : Dt} {vs : List (Str × V)} {ds : List (Str × Dt)} : Rp K B v d → RpF K B vs ds → RpF K B ((k, v) :: vs) ((k, d) :: ds)
end
/-- what can be read there can be read here -/
structure Rds (K : PySem.W.Frag) (B B' : Hp) : Prop where
  t : ∀ a xs, SqT K B a xs → SqT K B' a xs
  l : ∀ a xs, SqL K B a xs → SqL K B' a xs
  d : ∀ a ys, Rd B a (.dK ys) → Rd B' a (.dK ys)
  dt : ∀ a ys, Rd B a (.dT ys) → Rd B' a (.dT ys)
  o : ∀ a C dx ys, B a = some (.ins C dx ys) → B' a = some (.ins C dx ys)
  x : ∀ a f, B a = some (.ext f) → B' a = some (.ext f)
  u : ∀ a xs, B a = some (.tup xs) → B' a = some (.tup xs)
  z : ∀ a xs, TzAt B a xs → TzAt B' a xs
theorem rds_ex {K : PySem.W.Frag} {B B' : Hp} (e : Ex B B') : Rds K B B' := ⟨fun _ _ => ex_t e, fun _ _ => ex_l e, fun _ _ h => rd_mono h e, fun _ _ h => rd_mono h e, fun _ _ _ _ h => e _ _ h, fun _ _ h => e _ _ h, fun _ _ h => e _ _ h, fun _ _ ⟨o, h, d⟩ => ⟨o, e _ _ h, d⟩⟩
section
variable {K : PySem.W.Frag} {B B' H H' : Hp}
mutual
theorem Rp.rds (m : Rds K B B') : ∀ {v : V} {d : Dt}, Rp K B v d → Rp K B' v d
  | _, _, .non => .non
  | _, _, .bl b => .bl b
  | _, _, .int n => .int n
  | _, _, .str s => .str s
  | _, _, .tup a h => .tup (m.t _ _ a) (RpL.rds m h)
  | _, _, .lst a h => .lst (m.l _ _ a) (RpL.rds m h)
  | _, _, .dic a h => .dic (m.d _ _ a) (RpK.rds m h)
  | _, _, .dit a h => .dit (m.dt _ _ a) (RpT.rds m h)
  | _, _, .obj a h => .obj (m.o _ _ _ _ a) (RpF.rds m h)
  | _, _, .dk a b n => .dk (m.x _ _ a) (m.x _ _ b) n
  | _, _, .tx a h => .tx (m.u _ _ a) (RpL.rds m h)
  | _, _, .tz a h => .tz (m.z _ _ a) (RpL.rds m h)
theorem RpL.rds (m : Rds K B B') : ∀ {v : List V} {d : List Dt}, RpL K B v d → RpL K B' v d
  | _, _, .nil => .nil
  | _, _, .cons a b => .cons (Rp.rds m a) (RpL.rds m b)
theorem RpK.rds (m : Rds K B B') : ∀ {v : List (Key × V)} {d : List (Key × Dt)}, RpK K B v d → RpK K B' v d
  | _, _, .nil => .nil
  | _, _, .cons a b => .cons (Rp.rds m a) (RpK.rds m b)
theorem RpT.rds (m : Rds K B B') : ∀ {v : List (List Key × V)} {d : List (List Key × Dt)}, RpT K B v d → RpT K B' v d
  | _, _, .nil => .nil
  | _, _, .cons a b => .cons (Rp.rds m a) (RpT.rds m b)
theorem RpF.rds (m : Rds K B B') : ∀ {v : List (Str × V)} {d : List (Str × Dt)}, RpF K B v d → RpF K B' v d
  | _, _, .nil => .nil
  | _, _, .cons a b => .cons (Rp.rds m a) (RpF.rds m b)
end
theorem Rp.ex {v : V} {d : Dt} (h : Rp K B v d) (e : Ex B B') : Rp K B' v d := h.rds (rds_ex e)
theorem RpL.ex {v : List V} {d : List Dt} (h : RpL K B v d) (e : Ex B B') : RpL K B' v d := h.rds (rds_ex e)
theorem RpK.ex {v : List (Key × V)} {d : List (Key × Dt)} (h : RpK K B v d) (e : Ex B B') : RpK K B' v d := h.rds (rds_ex e)
theorem RpT.ex {v : List (List Key × V)} {d : List (List Key × Dt)} (h : RpT K B v d) (e : Ex B B') : RpT K B' v d := h.rds (rds_ex e)
theorem RpL.all2 : ∀ {vs : List V} {ds : List Dt}, RpL K B vs ds → All2 (Rp K B) vs ds
  | _, _, .nil => True.intro
  | _, _, .cons a b => ⟨a, RpL.all2 b⟩
theorem RpL.of : ∀ {vs : List V} {ds : List Dt}, All2 (Rp K B) vs ds → RpL K B vs ds
  | [], [], _ => .nil
  | _ :: _, _ :: _, ⟨a, b⟩ => .cons a (RpL.of b)
  | [], _ :: _, h => h.elim
  | _ :: _, [], h => h.elim
theorem RpL.len {vs : List V} {ds : List Dt} (h : RpL K B vs ds) : vs.length = ds.length := h.all2.len
theorem RpL.app {vs ws : List V} {ds es : List Dt} (h : RpL K B vs ds) (g : RpL K B ws es) : RpL K B (vs ++ ws) (ds ++ es) := .of (h.all2.app g.all2)
theorem RpL.at' {vs : List V} {ds : List Dt} (h : RpL K B vs ds) {i : Nat} {d : Dt} (e : ds[i]? = some d) : ∃ v, vs[i]? = some v ∧ Rp K B v d := h.all2.at' e
theorem RpL.at {vs : List V} {ds : List Dt} (h : RpL K B vs ds) {i : Nat} {v : V} (e : vs[i]? = some v) : ∃ d, ds[i]? = some d ∧ Rp K B v d := h.all2.at e
theorem RpL.take {vs : List V} {ds : List Dt} (h : RpL K B vs ds) (n : Nat) : RpL K B (vs.take n) (ds.take n) := .of (h.all2.take n)
theorem RpL.drop {vs : List V} {ds : List Dt} (h : RpL K B vs ds) (n : Nat) : RpL K B (vs.drop n) (ds.drop n) := .of (h.all2.drop n)
end
/-! ### data of ints, texts, truth values, None and tuples of such -/
mutual
def imm : Dt → Bool
  | .non => true | .bl _ => true | .int _ => true | .str _ => true
  | .tup ds => immL ds
  | .tz ds => immL ds
  | _ => false
def immL : List Dt → Bool
  | [] => true
  | d :: ds => imm d && immL ds
end
theorem imm_lst {ds : List Dt} (h : imm (.lst ds) = true) : False := by simp [imm] at h
theorem imm_dic {ds} (h : imm (.dic ds) = true) : False := by simp [imm] at h
theorem imm_dit {ds} (h : imm (.dit ds) = true) : False := by simp [imm] at h
theorem imm_tx {ds} (h : imm (.tx ds) = true) : False := by simp [imm] at h
theorem imm_dk {a b f g} (h : imm (.dk a b f g) = true) : False := by simp [imm] at h
theorem imm_obj {C ds} (h : imm (.obj C ds) = true) : False := by simp [imm] at h
theorem imm_tup {ds : List Dt} (h : imm (.tup ds) = true) : immL ds = true := by simpa [imm] using h
theorem immL_cons {d : Dt} {ds : List Dt} (h : immL (d :: ds) = true) : imm d = true ∧ immL ds = true := by simpa [immL] using h
theorem imm_tz {ds : List Dt} (h : imm (.tz ds) = true) : immL ds = true := by simpa [imm] using h
structure Flt (K : PySem.W.Frag) (B B' : Hp) : Prop where
  t : ∀ a xs, SqT K B a xs → SqT K B' a xs
  z : ∀ a xs, TzAt B a xs → TzAt B' a xs
mutual
theorem Rp.flat {K : PySem.W.Frag} {B B' : Hp} (m : Flt K B B') : ∀ {v : V} {d : Dt}, Rp K B v d → imm d = true → Rp K B' v d
  | _, _, .non, _ => .non
  | _, _, .bl b, _ => .bl b
  | _, _, .int n, _ => .int n
  | _, _, .str s, _ => .str s
  | _, _, .tup a h, i => .tup (m.t _ _ a) (RpL.flat m h (imm_tup i))
  | _, _, .tz a h, i => .tz (m.z _ _ a) (RpL.flat m h (imm_tz i))
  | _, _, .lst _ _, i => (imm_lst i).elim
  | _, _, .dic _ _, i => (imm_dic i).elim
  | _, _, .dit _ _, i => (imm_dit i).elim
  | _, _, .obj _ _, i => (imm_obj i).elim
  | _, _, .dk _ _ _, i => (imm_dk i).elim
  | _, _, .tx _ _, i => (imm_tx i).elim
theorem RpL.flat {K : PySem.W.Frag} {B B' : Hp} (m : Flt K B B') : ∀ {v : List V} {d : List Dt}, RpL K B v d → immL d = true → RpL K B' v d
  | _, _, .nil, _ => .nil
  | _, _, .cons a b, i => .cons (Rp.flat m a (immL_cons i).1) (RpL.flat m b (immL_cons i).2)
end
/-! ### heaps that grow -/
def mutO : HO → Bool
  | .tup _ => false
  | .frz _ (.tup _) => false
  | _ => true
/-- the frozen part grows by what is new, and by tuples -/
structure Gr (B H B2 H2 : Hp) : Prop where
  b : Ex B B2
  h : Ex H H2
  s : Ex B2 H2
  o : ∀ a u, H a = some u → mutO u = true → B a = none → B2 a = none
theorem Gr.refl {B H : Hp} (s : Ex B H) : Gr B H B H := ⟨Ex.refl _, Ex.refl _, s, fun _ _ _ _ h => h⟩
theorem Gr.trans {B H B2 H2 B3 H3 : Hp} (a : Gr B H B2 H2) (b : Gr B2 H2 B3 H3) : Gr B H B3 H3 := ⟨a.b.trans b.b, a.h.trans b.h, b.s, fun x u h m q => b.o x u (a.h _ _ h) m (a.o x u h m q)⟩
/-- what is known more of the heap -/
theorem Gr.more {B H H2 : Hp} (s : Ex B H) (e : Ex H H2) : Gr B H B H2 := ⟨Ex.refl _, e, s.trans e, fun _ _ _ _ h => h⟩
theorem Gr.new {B H : Hp} {p : Addr} {o : HO} (s : Ex B H) (h : H p = none) : Gr B H (upd B p o) (upd H p o) := by
  have hb := fresh_back s h
  refine ⟨Ex.new hb, Ex.new h, ex_upd s, fun a u e _ q => ?_⟩
  by_cases z : a = p
  · subst z; rw [h] at e; cases e
  · rw [upd_ne z]; exact q
/-- the tuples of H too -/
noncomputable def wT (B H : Hp) : Hp := fun a => match H a with
  | some (.tup xs) => some (.tup xs)
  | some (.frz o (.tup xs)) => some (.frz o (.tup xs))
  | _ => B a
theorem wT_ex {B H : Hp} (s : Ex B H) : Ex B (wT B H) := fun a o h => by
  have h2 := s a o h
  unfold wT
  rw [h2]
  split
  · rename_i q; cases q; rfl
  · rename_i q; cases q; rfl
  · exact h
theorem wT_sub {B H : Hp} (s : Ex B H) : Ex (wT B H) H := fun a o h => by
  unfold wT at h
  split at h
  · rename_i q; cases h; exact q
  · rename_i q; cases h; exact q
  · exact s a o h
theorem Gr.tups {B H : Hp} (s : Ex B H) : Gr B H (wT B H) H := ⟨wT_ex s, Ex.refl _, wT_sub s, fun a u h m q => by
  unfold wT
  split
  · rename_i z; rw [h] at z; cases z; cases m
  · rename_i z; rw [h] at z; cases z; cases m
  · exact q⟩
theorem wT_t0 {K : PySem.W.Frag} {B H : Hp} (a : Addr) (xs : List V) (h : SqT K H a xs) : SqT K (wT B H) a xs := by
  rcases h with h | h
  · refine .inl ?_
    rcases h with h | ⟨o, h⟩
    · exact .inl (by unfold wT; rw [h])
    · exact .inr ⟨o, by unfold wT; rw [h]⟩
  · exact .inr h
theorem wT_t {K : PySem.W.Frag} {B H : Hp} : Flt K H (wT B H) := ⟨wT_t0, fun a xs ⟨o, h, d⟩ => ⟨o, by unfold wT; rw [h], d⟩⟩
/-! ### what is known of the slots -/
inductive Sl where
  | un | fr (d : Dt) | ow (d : Dt)
/-- an object of one's own -/
def Od (K : PySem.W.Frag) (B H : Hp) (p : Addr) : Dt → Prop
  | .lst ds => ∃ xs, H p = some (.lst xs) ∧ RpL K B xs ds
  | .dic kvs => ∃ ys, H p = some (.dK ys) ∧ RpK K B ys kvs
  | .dit kvs => ∃ ys, H p = some (.dT ys) ∧ RpT K B ys kvs
  | _ => False
theorem Od.mut {K : PySem.W.Frag} {B H : Hp} {p : Addr} {d : Dt} (h : Od K B H p d) : ∃ u, H p = some u ∧ mutO u = true := by
  cases d with
  | lst ds => obtain ⟨xs, h, _⟩ := h; exact ⟨_, h, rfl⟩
  | dic ds => obtain ⟨xs, h, _⟩ := h; exact ⟨_, h, rfl⟩
  | dit ds => obtain ⟨xs, h, _⟩ := h; exact ⟨_, h, rfl⟩
  | _ => exact h.elim
theorem Od.ex {K : PySem.W.Frag} {B H B2 H2 : Hp} {p : Addr} {d : Dt} (h : Od K B H p d) (b : Ex B B2) (e : H2 p = H p) : Od K B2 H2 p d := by
  cases d with
  | lst ds => obtain ⟨xs, h, r⟩ := h; exact ⟨xs, e.trans h, r.ex b⟩
  | dic ds => obtain ⟨xs, h, r⟩ := h; exact ⟨xs, e.trans h, r.ex b⟩
  | dit ds => obtain ⟨xs, h, r⟩ := h; exact ⟨xs, e.trans h, r.ex b⟩
  | _ => exact h.elim
/-- an object of one's own, read in a heap in which it stands -/
theorem Od.rp {K : PySem.W.Frag} {B H : Hp} {p : Addr} {d : Dt} (h : Od K B H p d) (s : Ex B H) : Rp K H (.ref p) d := by
  cases d with
  | lst ds => obtain ⟨xs, h, r⟩ := h; exact .lst (sq_of h) (r.ex s)
  | dic ds => obtain ⟨xs, h, r⟩ := h; exact .dic (.inl h) (r.ex s)
  | dit ds => obtain ⟨xs, h, r⟩ := h; exact .dit (.inl h) (r.ex s)
  | _ => exact h.elim
structure En (K : PySem.W.Frag) (H0 B : Hp) (ρ : List Sl) (σ : L2.St) (H : Hp) : Prop where
  ex : Ex B H
  len : σ.length = ρ.length
  fr : ∀ (i : Nat) (d : Dt), ρ[i]? = some (Sl.fr d) → ∃ v : V, σ[i]? = some (some v) ∧ Rp K B v d
  ow : ∀ (i : Nat) (d : Dt), ρ[i]? = some (Sl.ow d) → ∃ p : Addr, σ[i]? = some (some (V.ref p)) ∧ B p = none ∧ H0 p = none ∧ Od K B H p d
  sep : ∀ (i j : Nat) (d d' : Dt) (p : Addr), i ≠ j → ρ[i]? = some (Sl.ow d) → ρ[j]? = some (Sl.ow d') → σ[i]? = some (some (V.ref p)) → σ[j]? = some (some (V.ref p)) → False
section
variable {K : PySem.W.Frag} {H0 B B2 H H2 : Hp} {ρ : List Sl} {σ : L2.St} {i : Nat} {d : Dt} {v : V}
theorem En.gr (E : En K H0 B ρ σ H) (g : Gr B H B2 H2) : En K H0 B2 ρ σ H2 := ⟨g.s, E.len, fun i d h => let ⟨v, a, r⟩ := E.fr i d h; ⟨v, a, r.ex g.b⟩, fun i d h => by
  obtain ⟨p, a, b, c, o⟩ := E.ow i d h
  obtain ⟨u, hu, m⟩ := o.mut
  exact ⟨p, a, g.o p u hu m b, c, o.ex g.b ((g.h _ _ hu).trans hu.symm)⟩, E.sep⟩
/-- a slot is set to frozen data -/
theorem En.set (E : En K H0 B ρ σ H) (r : Rp K B v d) : En K H0 B (ρ.set i (Sl.fr d)) (σ.set i (some v)) H := by
  refine ⟨E.ex, by rw [List.length_set, List.length_set]; exact E.len, fun j e h => ?_, fun j e h => ?_, fun j k e e' p n h1 h2 h3 h4 => ?_⟩
  · by_cases z : i = j
    · subst z
      have hl : i < ρ.length := by
        have := (List.getElem?_eq_some_iff.mp h).1
        rwa [List.length_set] at this
      rw [List.getElem?_set_self hl] at h
      cases h
      exact ⟨v, by rw [List.getElem?_set_self (by rw [E.len]; exact hl)], r⟩
    · rw [List.getElem?_set_ne z] at h ⊢
      exact E.fr j e h
  · by_cases z : i = j
    · subst z
      have hl : i < ρ.length := by
        have := (List.getElem?_eq_some_iff.mp h).1
        rwa [List.length_set] at this
      rw [List.getElem?_set_self hl] at h
      cases h
    · rw [List.getElem?_set_ne z] at h ⊢
      exact E.ow j e h
  · have g : ∀ (m : Nat) (e : Dt), (ρ.set i (Sl.fr d))[m]? = some (Sl.ow e) → i ≠ m := fun m e h z => by
      subst z
      have hl : i < ρ.length := by
        have := (List.getElem?_eq_some_iff.mp h).1
        rwa [List.length_set] at this
      rw [List.getElem?_set_self hl] at h
      cases h
    have z1 := g _ _ h1
    have z2 := g _ _ h2
    rw [List.getElem?_set_ne z1] at h1 h3
    rw [List.getElem?_set_ne z2] at h2 h4
    exact E.sep j k e e' p n h1 h2 h3 h4
/-- a slot is set to an object of one's own that no slot has -/
theorem En.setO {p : Addr} (E : En K H0 B ρ σ H) (hb : B p = none) (h0 : H0 p = none) (o : Od K B H p d) (hn : ∀ (j : Nat) (e : Dt), ρ[j]? = some (Sl.ow e) → σ[j]? = some (some (V.ref p)) → j = i) : En K H0 B (ρ.set i (Sl.ow d)) (σ.set i (some (V.ref p))) H := by
  have g : ∀ (m : Nat) (e : Dt), (ρ.set i (Sl.ow d))[m]? = some (Sl.ow e) → (i = m ∧ e = d ∧ (σ.set i (some (V.ref p)))[m]? = some (some (V.ref p))) ∨ (i ≠ m ∧ ρ[m]? = some (Sl.ow e) ∧ (σ.set i (some (V.ref p)))[m]? = σ[m]?) := fun m e h => by
    by_cases z : i = m
    · subst z
      have hl : i < ρ.length := by
        have := (List.getElem?_eq_some_iff.mp h).1
        rwa [List.length_set] at this
      rw [List.getElem?_set_self hl] at h
      cases h
      exact .inl ⟨rfl, rfl, by rw [List.getElem?_set_self (by rw [E.len]; exact hl)]⟩
    · rw [List.getElem?_set_ne z] at h
      exact .inr ⟨z, h, List.getElem?_set_ne z⟩
  refine ⟨E.ex, by rw [List.length_set, List.length_set]; exact E.len, fun j e h => ?_, fun j e h => ?_, fun j k e e' q n h1 h2 h3 h4 => ?_⟩
  · by_cases z : i = j
    · subst z
      have hl : i < ρ.length := by
        have := (List.getElem?_eq_some_iff.mp h).1
        rwa [List.length_set] at this
      rw [List.getElem?_set_self hl] at h
      cases h
    · rw [List.getElem?_set_ne z] at h ⊢
      exact E.fr j e h
  · rcases g j e h with ⟨rfl, rfl, q⟩ | ⟨z, h', q⟩
    · exact ⟨p, q, hb, h0, o⟩
    · rw [q]; exact E.ow j e h'
  · rcases g j e h1 with ⟨rfl, rfl, q1⟩ | ⟨z, h', q1⟩
    · rcases g k e' h2 with ⟨rfl, rfl, q2⟩ | ⟨z2, h2', q2⟩
      · exact n rfl
      · rw [q1] at h3
        cases h3
        rw [q2] at h4
        exact z2 (hn k e' h2' h4).symm
    · rcases g k e' h2 with ⟨rfl, rfl, q2⟩ | ⟨z2, h2', q2⟩
      · rw [q2] at h4
        cases h4
        rw [q1] at h3
        exact z (hn j e h' h3).symm
      · rw [q1] at h3; rw [q2] at h4
        exact E.sep j k e e' q n h' h2' h3 h4
/-- the object of one's own at a slot changes -/
theorem En.put {p : Addr} {o : HO} {d' : Dt} (E : En K H0 B ρ σ H) (hi : ρ[i]? = some (.ow d)) (hp : σ[i]? = some (some (V.ref p))) (od : Od K B (upd H p o) p d') : En K H0 B (ρ.set i (Sl.ow d')) σ (upd H p o) := by
  obtain ⟨p', a, b, c, _⟩ := E.ow i d hi
  have e : p' = p := by rw [hp] at a; cases a; rfl
  subst e
  have hl := (List.getElem?_eq_some_iff.mp hi).1
  have E1 : En K H0 B (ρ.set i (Sl.fr .non)) (σ.set i (some .non)) H := E.set .non
  have hs : (σ.set i (some V.non)).set i (some (.ref p')) = σ := by
    rw [List.set_set]
    refine List.ext_getElem? fun j => ?_
    by_cases z : i = j
    · subst z; rw [List.getElem?_set_self (by rw [E.len]; exact hl), hp]
    · rw [List.getElem?_set_ne z]
  have E2 : En K H0 B (ρ.set i (Sl.fr .non)) (σ.set i (some .non)) (L2.upd H p' o) := by
    refine ⟨Ex.mut E1.ex b, E1.len, E1.fr, fun j e h => ?_, E1.sep⟩
    obtain ⟨q, q1, q2, q3, q4⟩ := E1.ow j e h
    have nq : q ≠ p' := fun z => by
      subst z
      by_cases z : i = j
      · subst z
        rw [List.getElem?_set_self hl] at h; cases h
      · rw [List.getElem?_set_ne z] at h q1
        exact E.sep i j d e q z hi h hp q1
    exact ⟨q, q1, q2, q3, q4.ex (Ex.refl _) (upd_ne nq)⟩
  have := E2.setO (i := i) (p := p') (d := d') b c od fun j e h1 h2 => by
    by_cases z : i = j
    · exact z.symm
    · rw [List.getElem?_set_ne z] at h1 h2
      exact (E.sep i j d e p' z hi h1 hp h2).elim
  rw [List.set_set, hs] at this
  exact this
/-- an object of one's own is frozen -/
theorem En.freeze (E : En K H0 B ρ σ H) (hi : ρ[i]? = some (.ow d)) : ∃ B2, En K H0 B2 (ρ.set i (Sl.fr d)) σ H ∧ ∀ B0, Gr B0 H0 B H → Gr B0 H0 B2 H := by
  obtain ⟨p, a, b, c, o⟩ := E.ow i d hi
  have hl := (List.getElem?_eq_some_iff.mp hi).1
  obtain ⟨u, hu, m⟩ := o.mut
  have sub : Ex (L2.upd B p u) H := fun x w h => by
    by_cases z : x = p
    · subst z; rw [upd_same] at h; cases h; exact hu
    · rw [upd_ne z] at h; exact E.ex _ _ h
  have eb : Ex B (L2.upd B p u) := Ex.new b
  refine ⟨L2.upd B p u, ⟨sub, by rw [List.length_set]; exact E.len, fun j e h => ?_, fun j e h => ?_, fun j k e e' q n h1 h2 h3 h4 => ?_⟩, fun B0 g => ⟨g.b.trans eb, g.h, sub, fun x w h m' q => ?_⟩⟩
  · by_cases z : i = j
    · subst z
      rw [List.getElem?_set_self hl] at h
      cases h
      exact ⟨_, a, by
        cases d with
        | lst ds => obtain ⟨xs, h, r⟩ := o; rw [h] at hu; cases hu; exact .lst (sq_of upd_same) (r.ex eb)
        | dic ds => obtain ⟨xs, h, r⟩ := o; rw [h] at hu; cases hu; exact .dic (.inl upd_same) (r.ex eb)
        | dit ds => obtain ⟨xs, h, r⟩ := o; rw [h] at hu; cases hu; exact .dit (.inl upd_same) (r.ex eb)
        | _ => exact o.elim⟩
    · rw [List.getElem?_set_ne z] at h
      obtain ⟨v, q, r⟩ := E.fr j e h
      exact ⟨v, q, r.ex eb⟩
  · by_cases z : i = j
    · subst z
      rw [List.getElem?_set_self hl] at h; cases h
    · rw [List.getElem?_set_ne z] at h
      obtain ⟨q, q1, q2, q3, q4⟩ := E.ow j e h
      have nq : q ≠ p := fun y => by subst y; exact E.sep i j d e q z hi h a q1
      exact ⟨q, q1, by rw [upd_ne nq]; exact q2, q3, q4.ex eb rfl⟩
  · have g : ∀ (m : Nat) (e : Dt), (ρ.set i (Sl.fr d))[m]? = some (Sl.ow e) → i ≠ m := fun m e h z => by
      subst z
      rw [List.getElem?_set_self hl] at h; cases h
    have z1 := g _ _ h1
    have z2 := g _ _ h2
    rw [List.getElem?_set_ne z1] at h1
    rw [List.getElem?_set_ne z2] at h2
    exact E.sep j k e e' q n h1 h2 h3 h4
  · have nx : x ≠ p := fun y => by subst y; rw [c] at h; cases h
    rw [upd_ne nx]
    exact g.o x w h m' q
end
end Z
set_option Elab.async false
set_option linter.all false
set_option maxRecDepth 100000
set_option maxHeartbeats 4000000
/-! What an expression comes to, in data. -/
namespace Z
open PySem PySem.Spec PyProof.Rows L2 Evl Y
/-- e comes to data of which Q is true -/
structure DE (X : Cx) (ρ : List Sl) (e : Expr) (Q : Dt → Prop) : Prop where
  run : ∀ H0 B σ H, En X.K H0 B ρ σ H → semE X e σ H fun v H2 => ∃ B2 d, Gr B H B2 H2 ∧ Rp X.K B2 v d ∧ Q d
/-- .. that may be an object of one's own: it is only read -/
structure DA (X : Cx) (ρ : List Sl) (e : Expr) (Q : Dt → Prop) : Prop where
  run : ∀ H0 B σ H, En X.K H0 B ρ σ H → semE X e σ H fun v H2 => ∃ B2 d, Gr B H B2 H2 ∧ Rp X.K H2 v d ∧ Q d
/-- .. that is new -/
structure DN (X : Cx) (ρ : List Sl) (e : Expr) (Q : Dt → Prop) : Prop where
  run : ∀ H0 B σ H, En X.K H0 B ρ σ H → semE X e σ H fun v H2 => ∃ B2 p d, Gr B H B2 H2 ∧ v = .ref p ∧ H p = none ∧ B2 p = none ∧ Od X.K B2 H2 p d ∧ Q d
structure DT (X : Cx) (ρ : List Sl) (e : Expr) (Q : Bool → Prop) : Prop where
  run : ∀ H0 B σ H, En X.K H0 B ρ σ H → semT X e σ H fun b H2 => ∃ B2, Gr B H B2 H2 ∧ Q b
structure DL (X : Cx) (ρ : List Sl) (es : List Expr) (Q : List Dt → Prop) : Prop where
  run : ∀ H0 B σ H, En X.K H0 B ρ σ H → semA X es σ H fun vs H2 => ∃ B2 ds, Gr B H B2 H2 ∧ RpL X.K B2 vs ds ∧ Q ds
section
variable {X : Cx} {ρ : List Sl} {e a b c : Expr} {es : List Expr} {Q Q' : Dt → Prop} {H0 B B2 H H2 : Hp} {σ : L2.St} {i : Nat} {d : Dt} {pos : Pos}
theorem DE.go (h : DE X ρ e Q) (E : En X.K H0 B ρ σ H) {R : VK} (k : ∀ B2 v d H2, Gr B H B2 H2 → En X.K H0 B2 ρ σ H2 → Rp X.K B2 v d → Q d → R v H2) : semE X e σ H R :=
  sem_mono (h.run _ _ _ _ E) fun v H2 ⟨B2, d, g, r, q⟩ => k B2 v d H2 g (E.gr g) r q
theorem DA.go (h : DA X ρ e Q) (E : En X.K H0 B ρ σ H) {R : VK} (k : ∀ B2 v d H2, Gr B H B2 H2 → En X.K H0 B2 ρ σ H2 → Rp X.K H2 v d → Q d → R v H2) : semE X e σ H R :=
  sem_mono (h.run _ _ _ _ E) fun v H2 ⟨B2, d, g, r, q⟩ => k B2 v d H2 g (E.gr g) r q
theorem DN.go (h : DN X ρ e Q) (E : En X.K H0 B ρ σ H) {R : VK} (k : ∀ B2 p d H2, Gr B H B2 H2 → En X.K H0 B2 ρ σ H2 → H p = none → B2 p = none → Od X.K B2 H2 p d → Q d → R (.ref p) H2) : semE X e σ H R :=
  sem_mono (h.run _ _ _ _ E) fun v H2 ⟨B2, p, d, g, ev, hp, hb, o, q⟩ => by subst ev; exact k B2 p d H2 g (E.gr g) hp hb o q
theorem DT.go {Q : Bool → Prop} (h : DT X ρ e Q) (E : En X.K H0 B ρ σ H) {R : Bool → Hp → Prop} (k : ∀ B2 b H2, Gr B H B2 H2 → En X.K H0 B2 ρ σ H2 → Q b → R b H2) : semT X e σ H R :=
  semT_mono (h.run _ _ _ _ E) fun b H2 ⟨B2, g, q⟩ => k B2 b H2 g (E.gr g) q
theorem DL.go {Q : List Dt → Prop} (h : DL X ρ es Q) (E : En X.K H0 B ρ σ H) {R : List V → Hp → Prop} (k : ∀ B2 vs ds H2, Gr B H B2 H2 → En X.K H0 B2 ρ σ H2 → RpL X.K B2 vs ds → Q ds → R vs H2) : semA X es σ H R :=
  semA_mono (h.run _ _ _ _ E) fun vs H2 ⟨B2, ds, g, r, q⟩ => k B2 vs ds H2 g (E.gr g) r q
theorem DE.weak (h : DE X ρ e Q) (k : ∀ d, Q d → Q' d) : DE X ρ e Q' := ⟨fun H0 B σ H E => h.go E fun B2 v d H2 g _ r q => ⟨B2, d, g, r, k d q⟩⟩
theorem DA.weak (h : DA X ρ e Q) (k : ∀ d, Q d → Q' d) : DA X ρ e Q' := ⟨fun H0 B σ H E => h.go E fun B2 v d H2 g _ r q => ⟨B2, d, g, r, k d q⟩⟩
theorem DN.weak (h : DN X ρ e Q) (k : ∀ d, Q d → Q' d) : DN X ρ e Q' := ⟨fun H0 B σ H E => h.go E fun B2 p d H2 g _ hp hb o q => ⟨B2, p, d, g, rfl, hp, hb, o, k d q⟩⟩
theorem DT.weak {Q Q' : Bool → Prop} (h : DT X ρ e Q) (k : ∀ d, Q d → Q' d) : DT X ρ e Q' := ⟨fun H0 B σ H E => h.go E fun B2 b H2 g _ q => ⟨B2, g, k b q⟩⟩
theorem DE.da (h : DE X ρ e Q) : DA X ρ e Q := ⟨fun H0 B σ H E => h.go E fun B2 v d H2 g E2 r q => ⟨B2, d, g, r.ex E2.ex, q⟩⟩
/-- read and made of tuples alone -/
theorem DA.de (h : DA X ρ e fun d => imm d = true ∧ Q d) : DE X ρ e Q := ⟨fun H0 B σ H E => h.go E fun B2 v d H2 g E2 r q => ⟨wT B2 H2, d, g.trans (Gr.tups E2.ex), r.flat wT_t q.1, q.2⟩⟩
/-- what is new, frozen -/
theorem Od.put {K : PySem.W.Frag} {B H : Hp} {p : Addr} {d : Dt} (o : Od K B H p d) (s : Ex B H) (hb : B p = none) : ∃ B2, Ex B B2 ∧ Ex B2 H ∧ Rp K B2 (.ref p) d ∧ ∀ a, a ≠ p → B2 a = B a := by
  obtain ⟨u, hu, m⟩ := o.mut
  refine ⟨upd B p u, Ex.new hb, fun x w h => ?_, ?_, fun a n => upd_ne n⟩
  · by_cases z : x = p
    · subst z; rw [upd_same] at h; cases h; exact hu
    · rw [upd_ne z] at h; exact s _ _ h
  · have eb : Ex B (upd B p u) := Ex.new hb
    cases d with
    | lst ds => obtain ⟨xs, h, r⟩ := o; rw [h] at hu; cases hu; exact .lst (sq_of upd_same) (r.ex eb)
    | dic ds => obtain ⟨xs, h, r⟩ := o; rw [h] at hu; cases hu; exact .dic (.inl upd_same) (r.ex eb)
    | dit ds => obtain ⟨xs, h, r⟩ := o; rw [h] at hu; cases hu; exact .dit (.inl upd_same) (r.ex eb)
    | _ => exact o.elim
theorem DN.de (h : DN X ρ e Q) : DE X ρ e Q := ⟨fun H0 B σ H E => h.go E fun B2 p d H2 g E2 hp hb o q => by
  obtain ⟨B3, e1, e2, r, ne⟩ := Od.put o E2.ex hb
  refine ⟨B3, d, ⟨g.b.trans e1, g.h, e2, fun a u h m z => ?_⟩, r, q⟩
  have na : a ≠ p := fun y => by subst y; rw [hp] at h; cases h
  rw [ne a na]
  exact g.o a u h m z⟩
theorem DN.da (h : DN X ρ e Q) : DA X ρ e Q := h.de.da
theorem DA.of (h : DE X ρ e Q) : DA X ρ e Q := h.da
theorem DA.ofN (h : DN X ρ e Q) : DA X ρ e Q := h.da
theorem DE.ofN (h : DN X ρ e Q) : DE X ρ e Q := h.de
/-! ### names, constants -/
theorem d_nm (i : Nat) {x : Str} {d : Dt} (h : ρ[i]? = some (.fr d)) (q : Q d) (hN : X.N[i]? = some x := by rfl) (hv : Vis X.env.scope x := by first | exact Or.inl rfl | exact Or.inr (Or.inl rfl) | exact Or.inr (Or.inr rfl))
    (hd : (x == ("__debug__" : Str)) = false := by decide) (hcd : (x == ("__classdict__" : Str)) = false := by decide) : DE X ρ (.Name x pos) Q :=
  ⟨fun H0 B σ H E => by
    obtain ⟨v, hs, r⟩ := E.fr i d h
    exact sem_of (pe_var hN hv hd hcd) ⟨v, hs, B, d, Gr.refl E.ex, r, q⟩⟩
theorem d_nmO (i : Nat) {x : Str} {d : Dt} (h : ρ[i]? = some (.ow d)) (q : Q d) (hN : X.N[i]? = some x := by rfl) (hv : Vis X.env.scope x := by first | exact Or.inl rfl | exact Or.inr (Or.inl rfl) | exact Or.inr (Or.inr rfl))
    (hd : (x == ("__debug__" : Str)) = false := by decide) (hcd : (x == ("__classdict__" : Str)) = false := by decide) : DA X ρ (.Name x pos) Q :=
  ⟨fun H0 B σ H E => by
    obtain ⟨p, hs, _, _, o⟩ := E.ow i d h
    exact sem_of (pe_var hN hv hd hcd) ⟨.ref p, hs, B, d, Gr.refl E.ex, o.rp E.ex, q⟩⟩
theorem d_glob {u : Value} {nm : Str} {v : V} {d : Dt} (q : Q d) (hg : Gl X nm) (hm : X.mg nm = some u) (r : RelV v u) (hr : ∀ B, Rp X.K B v d) (hd : (nm == ("__debug__" : Str)) = false := by decide) : DE X ρ (.Name nm pos) Q :=
  ⟨fun H0 B σ H E => sem_of (pe_glob hg hm r hd) ⟨B, d, Gr.refl E.ex, hr B, q⟩⟩
theorem d_int {n : Int} {j} (q : Q (.int n)) : DE X ρ (.Constant (.int n) j pos) Q := ⟨fun H0 B σ H E => sem_of pe_int ⟨B, _, Gr.refl E.ex, .int n, q⟩⟩
theorem d_bl {n : Bool} {j} (q : Q (.bl n)) : DE X ρ (.Constant (.bool n) j pos) Q := ⟨fun H0 B σ H E => sem_of pe_bl ⟨B, _, Gr.refl E.ex, .bl n, q⟩⟩
theorem d_non {j} (q : Q .non) : DE X ρ (.Constant .none j pos) Q := ⟨fun H0 B σ H E => sem_of pe_non ⟨B, _, Gr.refl E.ex, .non, q⟩⟩
theorem d_str {n : Str} {j} (q : Q (.str n)) : DE X ρ (.Constant (.str n) j pos) Q := ⟨fun H0 B σ H E => sem_of pe_str ⟨B, _, Gr.refl E.ex, .str n, q⟩⟩
/-! ### operators -/
/-- what two values come to, by an operator's reading r, in data W -/
def WR (K : PySem.W.Frag) (r : R2) (W : Dt → Dt → (Dt → Prop) → Prop) : Prop := ∀ B H x y d1 d2 (Q : Dt → Prop) (R : VK), Ex B H → Rp K B x d1 → Rp K B y d2 → W d1 d2 Q → (∀ B2 v d H2, Gr B H B2 H2 → Rp K B2 v d → Q d → R v H2) → r x y H R
theorem d_op {op : Operator} {r : R2} {W : Dt → Dt → (Dt → Prop) → Prop} (ho : OpR X (binaryOp op) r) (hw : WR X.K r W) (h : DE X ρ a fun d1 => DE X ρ b fun d2 => W d1 d2 Q) : DE X ρ (.BinOp a op b pos) Q :=
  ⟨fun H0 B σ H E => sem_of (pe_op ho pe_sem pe_sem) (h.go E fun B2 v d H2 g E2 r q => q.go E2 fun B3 w d' H3 g3 E3 r3 q3 =>
    hw B3 H3 v w d d' Q _ E3.ex (r.ex g3.b) r3 q3 fun B4 z e H4 g4 r4 q4 => ⟨B4, e, (g.trans g3).trans g4, r4, q4⟩)⟩
abbrev addQ (x y : Dt) (Q : Dt → Prop) : Prop := match x, y with
  | .int n, .int m => Q (.int (n + m))
  | .str s, .str t => s.length + t.length ≤ sizeLine ∧ Q (.str (s ++ t))
  | .tup xs, .tup ys => xs.length + ys.length ≤ sizeLine ∧ Q (.tup (xs ++ ys))
  | _, _ => False
theorem d_add (h : DE X ρ a fun d1 => DE X ρ b fun d2 => addQ d1 d2 Q) : DE X ρ (.BinOp a .Add b pos) Q :=
  d_op (OpR.or op_add (OpR.or op_add_str op_catA)) (W := addQ) (fun B H x y d1 d2 Q R s rx ry w k => by
    cases rx with
    | int n =>
      cases ry with
      | int m => exact .inl ⟨n, m, rfl, rfl, k B _ _ H (Gr.refl s) (.int _) w⟩
      | _ => exact w.elim
    | str n =>
      cases ry with
      | str m => exact .inr (.inl ⟨n, m, rfl, rfl, w.1, k B _ _ H (Gr.refl s) (.str _) w.2⟩)
      | _ => exact w.elim
    | tup ha hx =>
      cases ry with
      | tup hb hy =>
        refine .inr (.inr ⟨_, _, _, _, rfl, rfl, ex_t s ha, ex_t s hb, by rw [hx.len, hy.len]; exact w.1, fun z => ?_, fun z1 z2 => ?_, fun z1 z2 p hp => ?_⟩)
        · subst z; cases hx
          exact k B _ _ H (Gr.refl s) (.tup hb hy) w.2
        · subst z2; cases hy
          have w2 := w.2
          rw [List.append_nil] at w2
          exact k B _ _ H (Gr.refl s) (.tup ha hx) w2
        · exact k _ _ _ _ (Gr.new s hp) (.tup (st_of upd_same) ((hx.app hy).ex (Gr.new s hp).b)) w.2
      | _ => exact w.elim
    | _ => cases ry <;> exact w.elim) h
abbrev intQ (f : Int → Int → Int) (C : Int → Int → Prop) (x y : Dt) (Q : Dt → Prop) : Prop := match x, y with
  | .int n, .int m => C n m ∧ Q (.int (f n m))
  | _, _ => False
theorem wr_int {f : Int → Int → Int} {C : Int → Int → Prop} {K : PySem.W.Frag} : WR K (rI C fun n m => .int (f n m)) (intQ f C) := fun B H x y d1 d2 Q R s rx ry w k => by
  cases rx with
  | int n =>
    cases ry with
    | int m => exact ⟨n, m, rfl, rfl, w.1, k B _ _ H (Gr.refl s) (.int _) w.2⟩
    | _ => exact w.elim
  | _ => cases ry <;> exact w.elim
theorem wr_int0 {f : Int → Int → Int} {K : PySem.W.Frag} : WR K (rI0 fun n m => .int (f n m)) (intQ f fun _ _ => True) := fun B H x y d1 d2 Q R s rx ry w k => by
  cases rx with
  | int n =>
    cases ry with
    | int m => exact ⟨n, m, rfl, rfl, k B _ _ H (Gr.refl s) (.int _) w.2⟩
    | _ => exact w.elim
  | _ => cases ry <;> exact w.elim
theorem d_sub (h : DE X ρ a fun d1 => DE X ρ b fun d2 => intQ (· - ·) (fun _ _ => True) d1 d2 Q) : DE X ρ (.BinOp a .Sub b pos) Q := d_op op_sub wr_int0 h
theorem d_mod (h : DE X ρ a fun d1 => DE X ρ b fun d2 => intQ (· % ·) (fun _ m => 0 < m) d1 d2 Q) : DE X ρ (.BinOp a .Mod b pos) Q := d_op op_mod wr_int h
abbrev negQ (x : Dt) (Q : Dt → Prop) : Prop := match x with
  | .int n => Q (.int (-n))
  | _ => False
theorem d_neg (h : DE X ρ a fun d => negQ d Q) : DE X ρ (.UnaryOp .USub a pos) Q :=
  ⟨fun H0 B σ H E => sem_of (pe_un un_neg pe_sem) (h.go E fun B2 v d H2 g E2 r q => by
    cases r with
    | int n => exact ⟨n, rfl, B2, _, g, .int _, q⟩
    | _ => exact q.elim)⟩
/-! ### comparisons -/
mutual
def toP : Dt → PyData
  | .non => .none
  | .bl b => .bool b
  | .int n => .int n
  | .str s => .str s
  | .tup ds => .tuple (toPL ds)
  | .tz ds => .tuple (toPL ds)
  | .lst ds => .list (toPL ds)
  | _ => .dict []
def toPL : List Dt → List PyData
  | [] => []
  | d :: ds => toP d :: toPL ds
end
mutual
/-- data without dicts, objects -/
def isP : Dt → Bool
  | .non => true | .bl _ => true | .int _ => true | .str _ => true
  | .tup ds => isPL ds
  | .tz ds => isPL ds
  | .lst ds => isPL ds
  | _ => false
def isPL : List Dt → Bool
  | [] => true
  | d :: ds => isP d && isPL ds
end
theorem isP_dic {ds} (h : isP (.dic ds) = true) : False := by simp [isP] at h
theorem isP_dit {ds} (h : isP (.dit ds) = true) : False := by simp [isP] at h
theorem isP_tx {ds} (h : isP (.tx ds) = true) : False := by simp [isP] at h
theorem isP_dk {a b f g} (h : isP (.dk a b f g) = true) : False := by simp [isP] at h
theorem isP_obj {C ds} (h : isP (.obj C ds) = true) : False := by simp [isP] at h
theorem isP_tz {ds : List Dt} (h : isP (.tz ds) = true) : isPL ds = true := by simpa [isP] using h
theorem toP_tz {ds : List Dt} : toP (.tz ds) = .tuple (toPL ds) := by simp [toP]
theorem isP_tup {ds : List Dt} (h : isP (.tup ds) = true) : isPL ds = true := by simpa [isP] using h
theorem isP_lst {ds : List Dt} (h : isP (.lst ds) = true) : isPL ds = true := by simpa [isP] using h
theorem isPL_cons {d : Dt} {ds : List Dt} (h : isPL (d :: ds) = true) : isP d = true ∧ isPL ds = true := by simpa [isPL] using h
theorem toP_tup {ds : List Dt} : toP (.tup ds) = .tuple (toPL ds) := by simp [toP]
theorem toP_lst {ds : List Dt} : toP (.lst ds) = .list (toPL ds) := by simp [toP]
theorem toPL_cons {d : Dt} {ds : List Dt} : toPL (d :: ds) = toP d :: toPL ds := by simp [toPL]
theorem toPL_nil : toPL [] = [] := by simp [toPL]
mutual
theorem Rp.dp {K : PySem.W.Frag} {B : Hp} : ∀ {v : V} {d : Dt}, Rp K B v d → isP d = true → Dp K B v (toP d)
  | _, _, .non, _ => .non
  | _, _, .bl b, _ => .bl b
  | _, _, .int n, _ => .int n
  | _, _, .str s, _ => .str s
  | _, _, .tup a h, i => toP_tup ▸ .tup a (RpL.dp h (isP_tup i))
  | _, _, .tz a h, i => toP_tz ▸ .tup a.st (RpL.dp h (isP_tz i))
  | _, _, .lst a h, i => toP_lst ▸ .lst a (RpL.dp h (isP_lst i))
  | _, _, .dic _ _, i => (isP_dic i).elim
  | _, _, .dit _ _, i => (isP_dit i).elim
  | _, _, .obj _ _, i => (isP_obj i).elim
  | _, _, .dk _ _ _, i => (isP_dk i).elim
  | _, _, .tx _ _, i => (isP_tx i).elim
theorem RpL.dp {K : PySem.W.Frag} {B : Hp} : ∀ {v : List V} {d : List Dt}, RpL K B v d → isPL d = true → DpAll K B v (toPL d)
  | _, _, .nil, _ => toPL_nil ▸ .nil
  | _, _, .cons a b, i => toPL_cons ▸ .cons (Rp.dp a (isPL_cons i).1) (RpL.dp b (isPL_cons i).2)
end
/-- what == says -/
abbrev eqQ (f : Bool → Bool) (x y : Dt) (Q : Bool → Prop) : Prop := match x, y with
  | .int n, .int m => Q (f (decide (n = m)))
  | .str n, .str m => Q (f (decide (n = m)))
  | .bl n, .bl m => Q (f (decide (n = m)))
  | x, y => (isP x = true ∧ isP y = true ∧ SeqAt.shaped (toP x) = true ∧ SeqAt.shaped (toP y) = true) ∧ Q (f (PyData.eqv (toP x) (toP y)))
/-- what a comparison comes to -/
def WC (K : PySem.W.Frag) (r : R2) (W : Dt → Dt → (Bool → Prop) → Prop) : Prop := ∀ B H x y d1 d2 (Q : Bool → Prop) (R : VK), Ex B H → Rp K B x d1 → Rp K B y d2 → W d1 d2 Q → (∀ b, Q b → R (.bl b) H) → r x y H R
theorem d_cmp {op : CmpOp} {r : R2} {W : Dt → Dt → (Bool → Prop) → Prop} (ho : OpR X (compareOp op) r) (hw : WC X.K r W) (h : DA X ρ a fun d1 => DA X ρ b fun d2 => W d1 d2 fun b => Q (.bl b)) (hm : behindInMarks op b = false := by rfl) : DE X ρ (.Compare a [op] [b] pos) Q :=
  ⟨fun H0 B σ H E => sem_of (pe_cmpR ho pe_sem pe_sem hm) (h.go E fun B2 v d H2 g E2 r q => q.go E2 fun B3 w d' H3 g3 E3 r3 q3 =>
    hw H3 H3 v w d d' _ _ (Ex.refl _) (r.ex g3.h) r3 q3 fun b q4 => ⟨B3, .bl b, g.trans g3, .bl b, q4⟩)⟩
theorem t_cmp {op : CmpOp} {r : R2} {W : Dt → Dt → (Bool → Prop) → Prop} {Q : Bool → Prop} (ho : OpR X (compareOp op) r) (hw : WC X.K r W) (h : DA X ρ a fun d1 => DA X ρ b fun d2 => W d1 d2 Q) (hm : behindInMarks op b = false := by rfl) : DT X ρ (.Compare a [op] [b] pos) Q :=
  ⟨fun H0 B σ H E => semT_of (pt_cmpR ho pe_sem pe_sem hm) (h.go E fun B2 v d H2 g E2 r q => q.go E2 fun B3 w d' H3 g3 E3 r3 q3 =>
    hw H3 H3 v w d d' _ _ (Ex.refl _) (r.ex g3.h) r3 q3 fun b q4 => ⟨b, rfl, B3, g.trans g3, q4⟩)⟩
theorem wc_eq {K : PySem.W.Frag} : WC K (fun x y H Q => rEq x y H Q ∨ rEqD K x y H Q) (eqQ id) := fun B H x y d1 d2 Q R s rx ry w k => by
  have gen : ((isP d1 = true ∧ isP d2 = true ∧ SeqAt.shaped (toP d1) = true ∧ SeqAt.shaped (toP d2) = true) ∧ Q (id (PyData.eqv (toP d1) (toP d2)))) → rEqD K x y H R := fun w => ⟨_, _, (rx.ex s).dp w.1.1, (ry.ex s).dp w.1.2.1, w.1.2.2.1, w.1.2.2.2, k _ w.2⟩
  unfold eqQ at w
  split at w
  · cases rx; cases ry; exact .inl ⟨rfl, k _ (by simpa using w)⟩
  · cases rx; cases ry; exact .inl ⟨rfl, k _ (by simpa using w)⟩
  · cases rx; cases ry; exact .inl ⟨rfl, k _ (by simpa using w)⟩
  · exact .inr (gen w)
theorem wc_ne {K : PySem.W.Frag} : WC K (fun x y H Q => rNe x y H Q ∨ rNeD K x y H Q) (eqQ not) := fun B H x y d1 d2 Q R s rx ry w k => by
  have gen : ((isP d1 = true ∧ isP d2 = true ∧ SeqAt.shaped (toP d1) = true ∧ SeqAt.shaped (toP d2) = true) ∧ Q (not (PyData.eqv (toP d1) (toP d2)))) → rNeD K x y H R := fun w => ⟨_, _, (rx.ex s).dp w.1.1, (ry.ex s).dp w.1.2.1, w.1.2.2.1, w.1.2.2.2, k _ w.2⟩
  unfold eqQ at w
  split at w
  · cases rx; cases ry; exact .inl ⟨rfl, k _ (by simpa using w)⟩
  · cases rx; cases ry; exact .inl ⟨rfl, k _ (by simpa using w)⟩
  · cases rx; cases ry; exact .inl ⟨rfl, k _ (by simpa using w)⟩
  · exact .inr (gen w)
abbrev ordQ (f : Int → Int → Bool) (x y : Dt) (Q : Bool → Prop) : Prop := match x, y with
  | .int n, .int m => Q (f n m)
  | _, _ => False
theorem wc_ord {f : Int → Int → Bool} {K : PySem.W.Frag} : WC K (rI0 fun n m => .bl (f n m)) (ordQ f) := fun B H x y d1 d2 Q R s rx ry w k => by
  cases rx with
  | int n =>
    cases ry with
    | int m => exact ⟨n, m, rfl, rfl, k _ w⟩
    | _ => exact w.elim
  | _ => cases ry <;> exact w.elim
theorem d_ge (h : DA X ρ a fun d1 => DA X ρ b fun d2 => ordQ (fun n m => decide (m ≤ n)) d1 d2 fun b => Q (.bl b)) : DE X ρ (.Compare a [.GtE] [b] pos) Q := d_cmp op_ge wc_ord h (nomark _)
theorem t_lt {Q : Bool → Prop} (h : DA X ρ a fun d1 => DA X ρ b fun d2 => ordQ (fun n m => decide (n < m)) d1 d2 Q) : DT X ρ (.Compare a [.Lt] [b] pos) Q := t_cmp op_lt wc_ord h (nomark _)
theorem d_eq (hu : X.A.units + 64 < cLine) (h : DA X ρ a fun d1 => DA X ρ b fun d2 => eqQ id d1 d2 fun b => Q (.bl b)) : DE X ρ (.Compare a [.Eq] [b] pos) Q := d_cmp (OpR.or op_eq (op_eqD hu)) wc_eq h (nomark _)
theorem d_ne (hu : X.A.units + 64 < cLine) (h : DA X ρ a fun d1 => DA X ρ b fun d2 => eqQ not d1 d2 fun b => Q (.bl b)) : DE X ρ (.Compare a [.NotEq] [b] pos) Q := d_cmp (OpR.or op_ne (op_neD hu)) wc_ne h (nomark _)
theorem t_eq {Q : Bool → Prop} (hu : X.A.units + 64 < cLine) (h : DA X ρ a fun d1 => DA X ρ b fun d2 => eqQ id d1 d2 Q) : DT X ρ (.Compare a [.Eq] [b] pos) Q := t_cmp (OpR.or op_eq (op_eqD hu)) wc_eq h (nomark _)
theorem t_ne {Q : Bool → Prop} (hu : X.A.units + 64 < cLine) (h : DA X ρ a fun d1 => DA X ρ b fun d2 => eqQ not d1 d2 Q) : DT X ρ (.Compare a [.NotEq] [b] pos) Q := t_cmp (OpR.or op_ne (op_neD hu)) wc_ne h (nomark _)
/-! ### tests -/
theorem t_not {Q : Bool → Prop} (h : DT X ρ a fun b => Q (!b)) : DT X ρ (.UnaryOp .Not a pos) Q := ⟨fun H0 B σ H E => semT_of (pt_not pt_sem) (h.go E fun B2 b H2 g _ q => ⟨B2, g, q⟩)⟩
/-- the truth of data -/
abbrev truQ (x : Dt) (Q : Bool → Prop) : Prop := match x with
  | .non => Q false
  | .bl b => Q b
  | .int n => Q (n != 0)
  | .str s => s.length ≤ sizeLine ∧ Q ((s.length : Int) != 0)
  | .tup ds => Q (!ds.isEmpty)
  | .lst ds => Q (!ds.isEmpty)
  | _ => False
theorem emp_eq {α β : Type} {R : α → β → Prop} {as : List α} {bs : List β} (h : All2 R as bs) : as.isEmpty = bs.isEmpty := by
  have := h.len
  cases as <;> cases bs <;> simp_all
theorem t_v {Q : Bool → Prop} (h : DA X ρ e fun d => truQ d Q) (he : ∀ whole, isTrue e X.env whole = (do let v ← whole; standAt e.pos; holding [v] (truthy v)) := by intro _; rfl) : DT X ρ e Q :=
  ⟨fun H0 B σ H E => semT_of (pt_truth pe_sem he) (h.go E fun B2 v d H2 g E2 r q => by
    cases r with
    | non => exact ⟨_, rfl, B2, g, q⟩
    | bl b => exact ⟨_, rfl, B2, g, q⟩
    | int n => exact ⟨_, rfl, B2, g, q⟩
    | str n => exact ⟨_, ⟨q.1, rfl⟩, B2, g, q.2⟩
    | tup a r => exact ⟨_, .inr (.inl ⟨_, a, rfl⟩), B2, g, by rw [emp_eq r.all2]; exact q⟩
    | lst a r => exact ⟨_, .inl ⟨_, a, rfl⟩, B2, g, by rw [emp_eq r.all2]; exact q⟩
    | _ => exact q.elim)⟩
end
end Z
set_option Elab.async false
set_option linter.all false
set_option maxRecDepth 100000
set_option maxHeartbeats 4000000
namespace Z
open PySem PySem.Spec PyProof.Rows L2 Evl Y
section
variable {X : Cx} {ρ : List Sl} {e a b c o : Expr} {es : List Expr} {Q Q' : Dt → Prop} {H0 B B2 H H2 : Hp} {σ : L2.St} {i : Nat} {d : Dt} {pos p2 q1 q2 apos cpos : Pos}
theorem two_t {A B' : Prop} (h : A) : (true = true → A) ∧ (true = false → B') := ⟨fun _ => h, fun z => Bool.noConfusion z⟩
theorem two_f {A B' : Prop} (h : B') : (false = true → A) ∧ (false = false → B') := ⟨fun z => Bool.noConfusion z, fun _ => h⟩
/-! ### and, or, if .. else -/
structure DW (X : Cx) (ρ : List Sl) (e : Expr) (Q : Bool → Prop) : Prop where
  run : ∀ H0 B σ H, En X.K H0 B ρ σ H → semW X e σ H fun b H2 => ∃ B2, Gr B H B2 H2 ∧ Q b
theorem DW.dt {Q : Bool → Prop} (h : DW X ρ e Q) : DT X ρ e Q := ⟨fun H0 B σ H E => semT_of (PW.pt pw_sem) (h.run _ _ _ _ E)⟩
theorem w_and1 {Q : Bool → Prop} (h : DT X ρ a Q) : DW X ρ (.BoolOp .And [a] pos) Q := ⟨fun H0 B σ H E => semW_of (pw_and1 pt_sem) (h.run _ _ _ _ E)⟩
theorem w_or1 {Q : Bool → Prop} (h : DT X ρ a Q) : DW X ρ (.BoolOp .Or [a] pos) Q := ⟨fun H0 B σ H E => semW_of (pw_or1 pt_sem) (h.run _ _ _ _ E)⟩
theorem w_and {Q : Bool → Prop} (h : DT X ρ a fun x => (x = true → DW X ρ (.BoolOp .And (b :: es) pos) Q) ∧ (x = false → Q false)) : DW X ρ (.BoolOp .And (a :: b :: es) pos) Q :=
  ⟨fun H0 B σ H E => semW_of (pw_and pt_sem pw_sem) (h.go E fun B2 x H2 g E2 q => by
    cases x with
    | true => exact semW_mono ((q.1 rfl).run _ _ _ _ E2) fun y H3 ⟨B3, g3, q3⟩ => ⟨B3, g.trans g3, q3⟩
    | false => exact ⟨B2, g, q.2 rfl⟩)⟩
theorem w_or {Q : Bool → Prop} (h : DT X ρ a fun x => (x = true → Q true) ∧ (x = false → DW X ρ (.BoolOp .Or (b :: es) pos) Q)) : DW X ρ (.BoolOp .Or (a :: b :: es) pos) Q :=
  ⟨fun H0 B σ H E => semW_of (pw_or pt_sem pw_sem) (h.go E fun B2 x H2 g E2 q => by
    cases x with
    | true => exact ⟨B2, g, q.1 rfl⟩
    | false => exact semW_mono ((q.2 rfl).run _ _ _ _ E2) fun y H3 ⟨B3, g3, q3⟩ => ⟨B3, g.trans g3, q3⟩)⟩
theorem t_and {Q : Bool → Prop} (h : DT X ρ a fun x => (x = true → DT X ρ b Q) ∧ (x = false → Q false)) : DT X ρ (.BoolOp .And [a, b] pos) Q := (w_and (h.weak fun _ q => ⟨fun z => w_and1 (q.1 z), q.2⟩)).dt
theorem t_or {Q : Bool → Prop} (h : DT X ρ a fun x => (x = true → Q true) ∧ (x = false → DT X ρ b Q)) : DT X ρ (.BoolOp .Or [a, b] pos) Q := (w_or (h.weak fun _ q => ⟨q.1, fun z => w_or1 (q.2 z)⟩)).dt
/-- a truth value -/
abbrev blQ (d : Dt) (f : Bool → Prop) : Prop := match d with
  | .bl x => f x
  | _ => False
theorem d_one {op} (h : DE X ρ a Q) : DE X ρ (.BoolOp op [a] pos) Q := ⟨fun H0 B σ H E => sem_of (pe_one pe_sem) (h.run _ _ _ _ E)⟩
theorem d_andN (h : DE X ρ a fun d => blQ d fun x => (x = true → DE X ρ (.BoolOp .And (b :: es) pos) Q) ∧ (x = false → Q (.bl false))) : DE X ρ (.BoolOp .And (a :: b :: es) pos) Q :=
  ⟨fun H0 B σ H E => sem_of (pe_and pe_sem pe_sem) (h.go E fun B2 v d H2 g E2 r q => by
    cases r with
    | bl x =>
      refine ⟨x, rfl, ?_⟩
      cases x with
      | true => exact (q.1 rfl).go E2 fun B3 w d' H3 g3 _ r3 q3 => ⟨B3, d', g.trans g3, r3, q3⟩
      | false => exact ⟨B2, _, g, .bl false, q.2 rfl⟩
    | _ => exact q.elim)⟩
theorem d_and (h : DE X ρ a fun d => blQ d fun x => (x = true → DE X ρ b Q) ∧ (x = false → Q (.bl false))) : DE X ρ (.BoolOp .And [a, b] pos) Q := d_andN (h.weak fun d q => by
  cases d with
  | bl x => exact ⟨fun z => d_one (q.1 z), q.2⟩
  | _ => exact q)
theorem d_not (h : DE X ρ a fun d => blQ d fun x => Q (.bl (!x))) : DE X ρ (.UnaryOp .Not a pos) Q :=
  ⟨fun H0 B σ H E => sem_of (pe_not pe_sem) (h.go E fun B2 v d H2 g E2 r q => by
    cases r with
    | bl x => exact ⟨x, rfl, B2, _, g, .bl _, q⟩
    | _ => exact q.elim)⟩
theorem d_if (h : DT X ρ c fun x => (x = true → DE X ρ a Q) ∧ (x = false → DE X ρ b Q)) : DE X ρ (.IfExp c a b pos) Q :=
  ⟨fun H0 B σ H E => sem_of (pe_ifExp pt_sem pe_sem pe_sem) (h.go E fun B2 x H2 g E2 q => by
    cases x with
    | true => exact (q.1 rfl).go E2 fun B3 w d' H3 g3 _ r3 q3 => ⟨B3, d', g.trans g3, r3, q3⟩
    | false => exact (q.2 rfl).go E2 fun B3 w d' H3 g3 _ r3 q3 => ⟨B3, d', g.trans g3, r3, q3⟩)⟩
/-! ### arguments, displays -/
theorem l_nil {Q : List Dt → Prop} (q : Q []) : DL X ρ [] Q := ⟨fun H0 B σ H E => semA_of pa_nil ⟨B, [], Gr.refl E.ex, .nil, q⟩⟩
theorem l_cons {Q : List Dt → Prop} (h : DE X ρ e fun d => DL X ρ es fun ds => Q (d :: ds)) (hs : starEach (e :: es) X.env = (false, eval e X.env) :: starEach es X.env := by rfl) : DL X ρ (e :: es) Q :=
  ⟨fun H0 B σ H E => semA_of (pa_cons pe_sem pa_sem hs) (h.go E fun B2 v d H2 g E2 r q => q.go E2 fun B3 vs ds H3 g3 E3 rs q3 => ⟨B3, _, g.trans g3, .cons (r.ex g3.b) rs, q3⟩)⟩
theorem d_tup {x1} (h : DL X ρ es fun ds => ds.length ≤ 100000 ∧ Q (.tup ds)) : DE X ρ (.Tuple es x1 pos) Q :=
  ⟨fun H0 B σ H E => sem_of (pe_tup pa_sem) (h.go E fun B2 vs ds H2 g E2 rs q => ⟨sz_of (by rw [rs.len]; exact q.1), fun p hp => ⟨_, _, g.trans (Gr.new E2.ex hp), .tup (st_of upd_same) (rs.ex (Gr.new E2.ex hp).b), q.2⟩⟩)⟩
theorem n_lst (h : DL X ρ es fun ds => ds.length ≤ 100000 ∧ Q (.lst ds)) : DN X ρ (.List es pos) Q :=
  ⟨fun H0 B σ H E => sem_of (pe_lst pa_sem) (h.go E fun B2 vs ds H2 g E2 rs q => ⟨sz_of (by rw [rs.len]; exact q.1), fun p hp => by
    have hb : B2 p = none := fresh_back E2.ex hp
    exact ⟨B2, p, .lst ds, ⟨g.b, g.h.trans (Ex.new hp), Ex.mut E2.ex hb, g.o⟩, rfl, fresh_back g.h hp, hb, ⟨vs, upd_same, rs⟩, q.2⟩⟩)⟩
/-! ### items, slices -/
theorem RpL.ix {K : PySem.W.Frag} {vs : List V} {ds : List Dt} {n : Int} {d : Dt} (r : RpL K B vs ds) (h : atI ds n = some d) : ∃ v, atI vs n = some v ∧ Rp K B v d := by
  unfold atI at h ⊢
  rw [r.len]
  cases e : ixN ds.length n with
  | none => rw [e] at h; cases h
  | some j =>
    rw [e] at h
    obtain ⟨v, h1, h2⟩ := r.at' (show ds[j]? = some d from h)
    exact ⟨v, h1, h2⟩
abbrev ixQ (x y : Dt) (Q : Dt → Prop) : Prop := match x, y with
  | .tup ds, .int n => ∃ d, atI ds n = some d ∧ Q d
  | .lst ds, .int n => ∃ d, atI ds n = some d ∧ Q d
  | .str s, .int n => s.length ≤ 100000 ∧ ∃ k, atI s.cps.toList n = some k ∧ Q (.str ⟨#[k]⟩)
  | _, _ => False
theorem d_ix (h : DE X ρ a fun x => DE X ρ b fun y => ixQ x y Q) (hs : PlainIx b := by exact fun _ _ => rfl) : DE X ρ (.Subscript a b pos) Q :=
  ⟨fun H0 B σ H E => sem_of (pe_ix (IxR.or ix_list (IxR.or ix_tup ix_str)) pe_sem pe_sem hs) (h.go E fun B2 v d H2 g E2 r q => q.go E2 fun B3 w d' H3 g3 E3 r3 q3 => by
    have r := r.ex g3.b
    cases r3 with
    | int n =>
      cases r with
      | tup ha hx =>
        obtain ⟨z, hz, q4⟩ := q3
        obtain ⟨u, hu, ru⟩ := hx.ix hz
        exact .inr (.inl ⟨_, _, n, u, rfl, rfl, ex_t E3.ex ha, hu, B3, z, g.trans g3, ru, q4⟩)
      | lst ha hx =>
        obtain ⟨z, hz, q4⟩ := q3
        obtain ⟨u, hu, ru⟩ := hx.ix hz
        exact .inl ⟨_, _, n, u, rfl, rfl, ex_l E3.ex ha, hu, B3, z, g.trans g3, ru, q4⟩
      | str s =>
        obtain ⟨hl, k, hk, q4⟩ := q3
        exact .inr (.inr ⟨s, n, k, rfl, rfl, sz_of hl, hk, B3, _, g.trans g3, .str _, q4⟩)
      | _ => exact q3.elim
    | _ => cases r <;> exact q3.elim)⟩
/-- keys of dicts -/
abbrev keyD : Dt → Option Key
  | .int n => some (.inl n)
  | .str s => some (.inr s)
  | _ => none
theorem Rp.key {K : PySem.W.Frag} {v : V} {d : Dt} {k : Key} (r : Rp K B v d) (h : keyD d = some k) : v = kV k := by
  cases r with
  | int n => cases h; rfl
  | str s => cases h; rfl
  | _ => cases h
def valD (kvs : List (Key × Dt)) (k : Key) : Option Dt := (kvs.find? fun kv => decide (kv.1 = k)).map (·.2)
theorem RpK.val {K : PySem.W.Frag} {k : Key} : ∀ {ys : List (Key × V)} {kvs : List (Key × Dt)}, RpK K B ys kvs → (valV ys k = none ∧ valD kvs k = none) ∨ ∃ v d, valV ys k = some v ∧ valD kvs k = some d ∧ Rp K B v d
  | _, _, .nil => .inl ⟨rfl, rfl⟩
  | _, _, .cons (k := k') (v := v) (d := d) (vs := vs) (ds := ds) r t => by
    by_cases z : k' = k
    · refine .inr ⟨v, d, ?_, ?_, r⟩
      · unfold valV; rw [List.find?_cons_of_pos (by simpa using z)]; rfl
      · unfold valD; rw [List.find?_cons_of_pos (by simpa using z)]; rfl
    · have e1 : valV ((k', v) :: vs) k = valV vs k := by unfold valV; rw [List.find?_cons_of_neg (by simpa using z)]
      have e2 : valD ((k', d) :: ds) k = valD ds k := by unfold valD; rw [List.find?_cons_of_neg (by simpa using z)]
      rw [e1, e2]
      exact RpK.val t
abbrev getQ (x y : Dt) (Q : Dt → Prop) : Prop := match x with
  | .dic kvs => ∃ k d, keyD y = some k ∧ valD kvs k = some d ∧ Q d
  | _ => False
theorem d_dget (hu : X.A.units + 1 < cLine) (h : DE X ρ a fun x => DE X ρ b fun y => getQ x y Q) (hs : NoSl b := by exact fun _ _ => rfl) : DE X ρ (.Subscript a b pos) Q :=
  ⟨fun H0 B σ H E => sem_of (pe_dget hu pe_sem pe_sem hs) (h.go E fun B2 v d H2 g E2 r q => q.go E2 fun B3 w d' H3 g3 E3 r3 q3 => by
    have r := r.ex g3.b
    cases r with
    | dic ha hx =>
      obtain ⟨k, z, hk, hz, q4⟩ := q3
      rcases hx.val (k := k) with ⟨_, h2⟩ | ⟨u, z', h1, h2, ru⟩
      · rw [hz] at h2; cases h2
      · rw [hz] at h2; cases h2
        refine ⟨_, u, rfl, ?_, B3, z, g.trans g3, ru, q4⟩
        rw [← h1, r3.key hk]
        exact rd_get (rd_mono ha E3.ex)
    | _ => exact q3.elim)⟩
/-- slices -/
def cutD (xs : List Dt) (lo hi : Option Int) : List Dt := (xs.drop (HT.sIx xs.length 0 lo)).take (HT.sIx xs.length xs.length hi - HT.sIx xs.length 0 lo)
theorem RpL.cut {K : PySem.W.Frag} {vs : List V} {ds : List Dt} (r : RpL K B vs ds) (lo hi : Option Int) : RpL K B (cutV vs lo hi) (cutD ds lo hi) := by
  unfold cutV cutD
  rw [r.len]
  exact (r.drop _).take _
/-- a part of a slice -/
abbrev intOQ (d : Dt) (Q : Option Int → Prop) : Prop := match d with
  | .int n => Q (some n)
  | _ => False
def DO (X : Cx) (ρ : List Sl) : Option Expr → (Option Int → Prop) → Prop
  | none, Q => Q none
  | some e, Q => DE X ρ e fun d => intOQ d Q
abbrev slQ (x : Dt) (lo hi : Option Int) (Q : Dt → Prop) : Prop := match x with
  | .tup ds => Q (.tup (cutD ds lo hi))
  | .str s => s.length ≤ 100000 ∧ Q (.str (cutS s lo hi))
  | _ => False
theorem SlR.or {r r' : V → Option Int → Option Int → Hp → VK → Prop} (h : SlR X r) (h' : SlR X r') : SlR X (fun x l u H Q => r x l u H Q ∨ r' x l u H Q) := by
  intro pins s σ H x v vl vu lo hi sl Q I rx hs pl pu q
  rcases q with q | q
  · exact h pins s σ H x v vl vu lo hi sl Q I rx hs pl pu q
  · exact h' pins s σ H x v vl vu lo hi sl Q I rx hs pl pu q
theorem cutD_all {K : PySem.W.Frag} {vs : List V} {ds : List Dt} {lo hi : Option Int} (r : RpL K B vs ds) (h1 : HT.sIx vs.length 0 lo = 0) (h2 : HT.sIx vs.length vs.length hi = vs.length) : cutD ds lo hi = ds := by
  unfold cutD
  rw [r.len] at h1 h2
  rw [h1, h2, List.drop_zero, Nat.sub_zero, List.take_length]
/-- the reading of a part, whatever is wanted of it -/
theorem po_any (lo : Option Expr) : ∃ t, PO X lo t ∧ ∀ (ρ : List Sl) (Q : Option Int → Prop) H0 B σ H (R : Option Int → Hp → Prop), DO X ρ lo Q → En X.K H0 B ρ σ H → (∀ B2 n H2, Gr B H B2 H2 → En X.K H0 B2 ρ σ H2 → Q n → R n H2) → t σ H R := by
  cases lo with
  | none => exact ⟨_, po_none, fun ρ Q H0 B σ H R h E k => k B none H (Gr.refl E.ex) E h⟩
  | some e => exact ⟨_, po_some pe_sem, fun ρ Q H0 B σ H R h E k => DE.go h E fun B2 v d H2 g E2 r q => by
      cases r with
      | int n => exact ⟨n, rfl, k B2 (some n) H2 g E2 q⟩
      | _ => exact q.elim⟩
theorem d_sl {lo hi : Option Expr} (h : DE X ρ a fun x => DO X ρ lo fun l => DO X ρ hi fun u => slQ x l u Q) : DE X ρ (.Subscript a (.Slice lo hi none p2) pos) Q := by
  obtain ⟨tl, hl, kl⟩ := po_any (X := X) lo
  obtain ⟨th, hh, kh⟩ := po_any (X := X) hi
  exact ⟨fun H0 B σ H E => sem_of (pe_slice (SlR.or sl_tupA sl_str) pe_sem hl hh) (h.go E fun B2 v d H2 g E2 r q => kl ρ _ H0 _ _ _ _ q E2 fun B3 l H3 g3 E3 q3 => kh ρ _ H0 _ _ _ _ q3 E3 fun B4 u H4 g4 E4 q4 => by
    have r := (r.ex g3.b).ex g4.b
    have gg := (g.trans g3).trans g4
    cases r with
    | tup ha hx =>
      refine .inl ⟨_, _, rfl, ex_t E4.ex ha, fun z => ?_, fun z p hp => ?_⟩
      · have q5 : Q (.tup (cutD _ l u)) := q4
        rw [cutD_all hx z.1 z.2] at q5
        exact ⟨B4, _, gg, .tup ha hx, q5⟩
      · exact ⟨_, _, gg.trans (Gr.new E4.ex hp), .tup (st_of upd_same) ((hx.cut l u).ex (Gr.new E4.ex hp).b), q4⟩
    | str s => exact .inr ⟨s, rfl, sz_of q4.1, B4, _, gg, .str _, q4.2⟩
    | _ => exact q4.elim)⟩
/-- a slice of a list -/
abbrev slLQ (x : Dt) (lo hi : Option Int) (Q : Dt → Prop) : Prop := match x with
  | .lst ds => Q (.lst (cutD ds lo hi))
  | _ => False
theorem n_sl {lo hi : Option Expr} (h : DE X ρ a fun x => DO X ρ lo fun l => DO X ρ hi fun u => slLQ x l u Q) : DN X ρ (.Subscript a (.Slice lo hi none p2) pos) Q := by
  obtain ⟨tl, hl, kl⟩ := po_any (X := X) lo
  obtain ⟨th, hh, kh⟩ := po_any (X := X) hi
  exact ⟨fun H0 B σ H E => sem_of (pe_slice sl_list pe_sem hl hh) (h.go E fun B2 v d H2 g E2 r q => kl ρ _ H0 _ _ _ _ q E2 fun B3 l H3 g3 E3 q3 => kh ρ _ H0 _ _ _ _ q3 E3 fun B4 u H4 g4 E4 q4 => by
    have r := (r.ex g3.b).ex g4.b
    have gg := (g.trans g3).trans g4
    cases r with
    | lst ha hx =>
      refine ⟨_, _, rfl, ex_l E4.ex ha, fun p hp => ?_⟩
      have hb := fresh_back E4.ex hp
      exact ⟨B4, p, .lst (cutD _ l u), ⟨gg.b, gg.h.trans (Ex.new hp), Ex.mut E4.ex hb, gg.o⟩, rfl, fresh_back gg.h hp, hb, ⟨_, upd_same, hx.cut l u⟩, q4⟩
    | _ => exact q4.elim)⟩
end
end Z
set_option Elab.async false
set_option linter.all false
set_option maxRecDepth 100000
set_option maxHeartbeats 4000000
namespace Z
open PySem PySem.Spec PyProof.Rows L2 Evl Y
section
variable {X : Cx} {ρ : List Sl} {e a b c o : Expr} {es : List Expr} {Q Q' : Dt → Prop} {H0 B B2 H H2 : Hp} {σ : L2.St} {i : Nat} {d : Dt} {pos p2 q1 q2 apos cpos : Pos}
/-! ### fields -/
theorem RpF.look {K : PySem.W.Frag} {nm : Str} {d : Dt} : ∀ {ys : List (Str × V)} {fs : List (Str × Dt)}, RpF K B ys fs → fs.lookup nm = some d → ∃ v, ys.lookup nm = some v ∧ Rp K B v d
  | _, _, .nil, h => by cases h
  | _, _, .cons (k := k) r t, h => by
    rw [List.lookup_cons] at h ⊢
    split at h
    · cases h; exact ⟨_, rfl, r⟩
    · exact RpF.look t h
/-! ### in, is -/
abbrev flatD : Dt → Bool
  | .non => true | .bl _ => true | .int _ => true | .str _ => true
  | _ => false
def eqF : Dt → Dt → Bool
  | .non, .non => true
  | .bl a, .bl b => a == b
  | .bl a, .int b => (if a then 1 else 0) == b
  | .int a, .bl b => a == (if b then 1 else 0)
  | .int a, .int b => a == b
  | .str a, .str b => a == b
  | _, _ => false
def inD (x : Dt) (ds : List Dt) : Bool := ds.any fun y => eqF y x
theorem Rp.flatV {K : PySem.W.Frag} {v : V} {d : Dt} (r : Rp K B v d) (h : flatD d = true) : L2.flatV v = true := by cases r <;> first | rfl | cases h
theorem Rp.eqF {K : PySem.W.Frag} {v w : V} {d e : Dt} (r : Rp K B v d) (r' : Rp K B w e) (h : flatD d = true) (h' : flatD e = true) : eqV v w = Z.eqF d e := by
  cases r <;> cases r' <;> first | rfl | exact absurd h Bool.false_ne_true | exact absurd h' Bool.false_ne_true
theorem RpL.inD {K : PySem.W.Frag} {x : V} {d : Dt} (r : Rp K B x d) (h : flatD d = true) : ∀ {vs : List V} {ds : List Dt}, RpL K B vs ds → ds.all flatD = true → vs.all L2.flatV = true ∧ inV x vs = Z.inD d ds
  | _, _, .nil, _ => ⟨rfl, rfl⟩
  | _, _, .cons a t, f => by
    rw [List.all_cons, Bool.and_eq_true] at f
    obtain ⟨h1, h2⟩ := RpL.inD r h t f.2
    refine ⟨by rw [List.all_cons, a.flatV f.1, h1]; rfl, ?_⟩
    unfold inV Z.inD at h2 ⊢
    rw [List.any_cons, List.any_cons, h2, a.eqF r f.1 h]
abbrev inQ (f : Bool → Bool) (y x : Dt) (Q : Bool → Prop) : Prop := match x with
  | .tup ds => (flatD y = true ∧ ds.all flatD = true) ∧ Q (f (inD y ds))
  | .lst ds => (flatD y = true ∧ ds.all flatD = true) ∧ Q (f (inD y ds))
  | _ => False
theorem wc_in {K : PySem.W.Frag} : WC K (rIn K false) (inQ id) := fun B H x y d1 d2 Q R s rx ry w k => by
  have rx := rx.ex s
  have ry := ry.ex s
  cases ry with
  | tup ha hx =>
    obtain ⟨h1, h2⟩ := RpL.inD rx w.1.1 hx w.1.2
    exact ⟨_, _, rfl, .inr ha, rx.flatV w.1.1, h1, by rw [if_neg Bool.false_ne_true, h2]; exact k _ w.2⟩
  | lst ha hx =>
    obtain ⟨h1, h2⟩ := RpL.inD rx w.1.1 hx w.1.2
    exact ⟨_, _, rfl, .inl ha, rx.flatV w.1.1, h1, by rw [if_neg Bool.false_ne_true, h2]; exact k _ w.2⟩
  | _ => exact w.elim
theorem d_in (h : DA X ρ a fun d1 => DA X ρ b fun d2 => inQ id d1 d2 fun b => Q (.bl b)) (hm : behindInMarks .In b = false := by rfl) : DE X ρ (.Compare a [.In] [b] pos) Q := d_cmp op_in_seq wc_in h hm
theorem t_in {Q : Bool → Prop} (h : DA X ρ a fun d1 => DA X ρ b fun d2 => inQ id d1 d2 Q) (hm : behindInMarks .In b = false := by rfl) : DT X ρ (.Compare a [.In] [b] pos) Q := t_cmp op_in_seq wc_in h hm
/-! ### built-in calls of one argument -/
/-- what a call comes to: r of [x] leads to W of the data -/
def WU (K : PySem.W.Frag) (r : List V → Hp → VK → Prop) (W : Dt → (Dt → Prop) → Prop) : Prop := ∀ B H x d (Q : Dt → Prop) (R : VK), Ex B H → Rp K B x d → W d Q → (∀ B2 v d H2, Gr B H B2 H2 → Rp K B2 v d → Q d → R v H2) → r [x] H R
theorem d_callB {id : String} {r : List V → Hp → VK → Prop} {W : Dt → (Dt → Prop) → Prop} {nm : Str} (hr : CallR X (.builtin id) r) (hw : WU X.K r W) (hg : Gl X nm) (hm : X.mg nm = none) (hv : bootBuiltins nm = some (.builtin id)) (h : DE X ρ a fun d => W d Q)
    (hn : nm ≠ "__name__" := by decide) (hdb : (nm == ("__debug__" : Str)) = false := by decide) (hst : starEach [a] X.env = (false, eval a X.env) :: starEach [] X.env := by rfl) : DE X ρ (.Call (.Name nm q1) [a] [] q2) Q :=
  ⟨fun H0 B σ H E => sem_of (pe_callB hr hg hm hv (pa_cons pe_sem pa_nil hst) hn hdb (he := hst)) (h.go E fun B2 v d H2 g E2 r q => hw B2 H2 v d Q _ E2.ex r q fun B3 w e H3 g3 r3 q3 => ⟨B3, e, g.trans g3, r3, q3⟩)⟩
theorem d_callT {T : String} {r : List V → Hp → VK → Prop} {W : Dt → (Dt → Prop) → Prop} {nm : Str} (hr : CallR X (.type T) r) (hw : WU X.K r W) (hg : Gl X nm) (hm : X.mg nm = none) (hv : bootBuiltins nm = some (.type T)) (h : DE X ρ a fun d => W d Q)
    (hn : nm ≠ "__name__" := by decide) (hdb : (nm == ("__debug__" : Str)) = false := by decide) (hst : starEach [a] X.env = (false, eval a X.env) :: starEach [] X.env := by rfl) : DE X ρ (.Call (.Name nm q1) [a] [] q2) Q :=
  ⟨fun H0 B σ H E => sem_of (pe_callTy hr hg hm hv (pa_cons pe_sem pa_nil hst) hn hdb (he := hst)) (h.go E fun B2 v d H2 g E2 r q => hw B2 H2 v d Q _ E2.ex r q fun B3 w e H3 g3 r3 q3 => ⟨B3, e, g.trans g3, r3, q3⟩)⟩
/-- .. of what may be one's own: what comes is made of tuples alone -/
theorem d_callBA {id : String} {r : List V → Hp → VK → Prop} {W : Dt → (Dt → Prop) → Prop} {nm : Str} (hr : CallR X (.builtin id) r) (hw : WU X.K r W) (hg : Gl X nm) (hm : X.mg nm = none) (hv : bootBuiltins nm = some (.builtin id)) (h : DA X ρ a fun d => W d fun z => imm z = true ∧ Q z)
    (hn : nm ≠ "__name__" := by decide) (hdb : (nm == ("__debug__" : Str)) = false := by decide) (hst : starEach [a] X.env = (false, eval a X.env) :: starEach [] X.env := by rfl) : DE X ρ (.Call (.Name nm q1) [a] [] q2) Q :=
  DA.de ⟨fun H0 B σ H E => sem_of (pe_callB hr hg hm hv (pa_cons pe_sem pa_nil hst) hn hdb (he := hst)) (h.go E fun B2 v d H2 g E2 r q => hw H2 H2 v d _ _ (Ex.refl _) r q fun B3 w e H3 g3 r3 q3 => ⟨B2, e, g.trans (Gr.more E2.ex g3.h), r3.ex g3.s, q3⟩)⟩
abbrev lenQ (x : Dt) (Q : Dt → Prop) : Prop := match x with
  | .tup ds => Q (.int ds.length)
  | .lst ds => Q (.int ds.length)
  | .str s => s.length ≤ sizeLine ∧ Q (.int s.length)
  | _ => False
theorem wu_len {K : PySem.W.Frag} : WU K (fun xs H Q => (∃ p ys, xs = [.ref p] ∧ (SqL K H p ys ∨ SqT K H p ys) ∧ Q (.int ys.length) H) ∨ ∃ z, xs = [.str z] ∧ z.length ≤ sizeLine ∧ Q (.int z.length) H) lenQ := fun B H x d Q R s r w k => by
  cases r with
  | tup ha hx => exact .inl ⟨_, _, rfl, .inr (ex_t s ha), by rw [hx.len]; exact k B _ _ H (Gr.refl s) (.int _) w⟩
  | lst ha hx => exact .inl ⟨_, _, rfl, .inl (ex_l s ha), by rw [hx.len]; exact k B _ _ H (Gr.refl s) (.int _) w⟩
  | str z => exact .inr ⟨z, rfl, w.1, k B _ _ H (Gr.refl s) (.int _) w.2⟩
  | _ => exact w.elim
theorem d_len (hg : Gl X "len") (hm : X.mg "len" = none) (h : DA X ρ a fun d => lenQ d Q) (hst : starEach [a] X.env = (false, eval a X.env) :: starEach [] X.env := by rfl) : DE X ρ (.Call (.Name "len" q1) [a] [] q2) Q :=
  d_callBA (CallR.or call_len_seq call_len_str) wu_len hg hm PySem.boot_len (h.weak fun d w => by
    cases d with
    | tup ds => exact ⟨rfl, w⟩
    | lst ds => exact ⟨rfl, w⟩
    | str s => exact ⟨w.1, rfl, w.2⟩
    | _ => exact w) (hst := hst)
/-- tuple(..) -/
abbrev tupQ (x : Dt) (Q : Dt → Prop) : Prop := match x with
  | .tup ds => Q (.tup ds)
  | .lst ds => Q (.tup ds)
  | _ => False
theorem wu_tup {K : PySem.W.Frag} : WU K (fun xs H Q => ∃ p ys, xs = [.ref p] ∧ ((SqL K H p ys ∧ ∀ l, H l = none → Q (.ref l) (upd H l (.tup ys))) ∨ (SqT K H p ys ∧ Q (.ref p) H))) tupQ := fun B H x d Q R s r w k => by
  cases r with
  | tup ha hx => exact ⟨_, _, rfl, .inr ⟨ex_t s ha, k B _ _ H (Gr.refl s) (.tup ha hx) w⟩⟩
  | lst ha hx => exact ⟨_, _, rfl, .inl ⟨ex_l s ha, fun p hp => k _ _ _ _ (Gr.new s hp) (.tup (st_of upd_same) (hx.ex (Gr.new s hp).b)) w⟩⟩
  | _ => exact w.elim
theorem d_tuple (hg : Gl X "tuple") (hm : X.mg "tuple" = none) (h : DE X ρ a fun d => tupQ d Q) (hst : starEach [a] X.env = (false, eval a X.env) :: starEach [] X.env := by rfl) : DE X ρ (.Call (.Name "tuple" q1) [a] [] q2) Q :=
  d_callT call_tuple_of wu_tup hg hm (by decide +kernel) h (hst := hst)
/-- all, any, sum of lists -/
abbrev blL (x : Dt) (f : List Bool → Prop) : Prop := ∃ bs : List Bool, x = .lst (bs.map Dt.bl) ∧ f bs
theorem RpL.bls {K : PySem.W.Frag} : ∀ {vs : List V} {bs : List Bool}, RpL K B vs (bs.map Dt.bl) → vs = bs.map V.bl
  | [], [], _ => rfl
  | _, _ :: _, .cons (.bl _) t => by rw [List.map_cons, ← RpL.bls t]
  | _ :: _, [], h => by cases h
theorem RpL.ints {K : PySem.W.Frag} : ∀ {vs : List V} {bs : List Int}, RpL K B vs (bs.map Dt.int) → vs = bs.map V.int
  | [], [], _ => rfl
  | _, _ :: _, .cons (.int _) t => by rw [List.map_cons, ← RpL.ints t]
  | _ :: _, [], h => by cases h
theorem RpL.strs {K : PySem.W.Frag} : ∀ {vs : List V} {bs : List Str}, RpL K B vs (bs.map Dt.str) → vs = bs.map V.str
  | [], [], _ => rfl
  | _, _ :: _, .cons (.str _) t => by rw [List.map_cons, ← RpL.strs t]
  | _ :: _, [], h => by cases h
theorem wu_all {K : PySem.W.Frag} : WU K (rAll K) fun x Q => blL x fun bs => Q (.bl (bs.all id)) := fun B H x d Q R s r w k => by
  obtain ⟨bs, rfl, w⟩ := w
  cases r with
  | lst ha hx => exact ⟨_, bs, rfl, by rw [← hx.bls]; exact ex_l s ha, k B _ _ H (Gr.refl s) (.bl _) w⟩
theorem d_all (hc : X.calm = true) (hg : Gl X "all") (hm : X.mg "all" = none) (h : DE X ρ a fun d => blL d fun bs => Q (.bl (bs.all id))) (hst : starEach [a] X.env = (false, eval a X.env) :: starEach [] X.env := by rfl) : DE X ρ (.Call (.Name "all" q1) [a] [] q2) Q :=
  d_callB (cr_all hc) wu_all hg hm (by decide +kernel) h (hst := hst)
/-- int(n) -/
theorem d_intI {nm : Str} (hx : nm = ("int" : Str)) (hg : Gl X "int") (hm : X.mg "int" = none) (h : DE X ρ a fun d => ∃ n, d = .int n ∧ Q (.int n)) (hst : starEach [a] X.env = (false, eval a X.env) :: starEach [] X.env := by rfl) : DE X ρ (.Call (.Name nm q1) [a] [] q2) Q := by
  subst hx
  exact ⟨fun H0 B σ H E => sem_of (pe_callTy call_int1 hg hm (by decide +kernel) (pa_cons pe_sem pa_nil hst) (he := hst)) (h.go E fun B2 v d H2 g E2 r q => by
    obtain ⟨n, rfl, q⟩ := q
    cases r
    exact .inl ⟨n, rfl, B2, _, g, .int n, q⟩)⟩
/-- list(..): a new list -/
theorem n_list (hg : Gl X "list") (hm : X.mg "list" = none) (h : DE X ρ a fun d => ∃ ds, (d = .lst ds ∨ d = .tup ds) ∧ Q (.lst ds)) (hst : starEach [a] X.env = (false, eval a X.env) :: starEach [] X.env := by rfl) : DN X ρ (.Call (.Name "list" q1) [a] [] q2) Q :=
  ⟨fun H0 B σ H E => sem_of (pe_callTy call_list_of hg hm (by decide +kernel) (pa_cons pe_sem pa_nil hst) (he := hst)) (h.go E fun B2 v d H2 g E2 r q => by
    obtain ⟨ds, hd, q⟩ := q
    obtain ⟨p, ys, rfl, hs, rs⟩ : ∃ p ys, v = .ref p ∧ (SqL X.K H2 p ys ∨ SqT X.K H2 p ys) ∧ RpL X.K B2 ys ds := by
      rcases hd with rfl | rfl
      · cases r with
        | lst ha hx => exact ⟨_, _, rfl, .inl (ex_l E2.ex ha), hx⟩
      · cases r with
        | tup ha hx => exact ⟨_, _, rfl, .inr (ex_t E2.ex ha), hx⟩
    refine ⟨p, ys, rfl, hs, fun l hl => ?_⟩
    have hb := fresh_back E2.ex hl
    exact ⟨B2, l, .lst ds, ⟨g.b, g.h.trans (Ex.new hl), Ex.mut E2.ex hb, g.o⟩, rfl, fresh_back g.h hl, hb, ⟨_, upd_same, rs⟩, q⟩)⟩
/-! ### isinstance -/
abbrev tyD : Dt → String
  | .non => "NoneType" | .bl _ => "bool" | .int _ => "int" | .str _ => "str"
  | .tup _ => "tuple" | .tz _ => "tuple" | .lst _ => "list" | .dic _ => "dict" | _ => "dict"
theorem Rp.ty {K : PySem.W.Frag} {v : V} {d : Dt} (r : Rp K B v d) (h : ∀ C fs, d ≠ .obj C fs) (h2 : ∀ kvs, d ≠ .dit kvs) (h3 : ∀ a b f g, d ≠ .dk a b f g) (h4 : ∀ ds, d ≠ .tx ds) : TyX K B v (.type (tyD d)) := by
  cases r with
  | non => exact .base .non
  | bl x => exact .base (.bl x)
  | int x => exact .base (.int x)
  | str x => exact .base (.str x)
  | tup ha _ =>
    rcases ha with (ha | ⟨o, ha⟩) | ⟨o, its, n, h1, h2, _⟩
    · exact .base (.tup ha)
    · exact .fTuple ha
    · exact .kTuple h1 h2
  | lst ha _ =>
    rcases ha with (ha | ⟨o, ha⟩) | ⟨o, its, n, h1, h2, _⟩
    · exact .base (.lst ha)
    · exact .base (.frz ha)
    · exact .kList h1 h2
  | dic ha _ =>
    rcases ha with ha | ⟨o, ha⟩
    · exact .base (.dK ha)
    · exact .fDict ha
  | dit ha _ => exact absurd rfl (h2 _)
  | obj ha _ => exact absurd rfl (h _ _)
  | dk _ _ _ => exact absurd rfl (h3 _ _ _ _)
  | tx _ _ => exact absurd rfl (h4 _)
  | tz ha _ =>
    obtain ⟨o, ha, _⟩ := ha
    exact .fTuple ha
/-! what isinstance says of the kinds -/
theorem kb_NoneType_int : kitB "NoneType" "int" = some false := by decide +kernel
theorem kb_NoneType_str : kitB "NoneType" "str" = some false := by decide +kernel
theorem kb_NoneType_tuple : kitB "NoneType" "tuple" = some false := by decide +kernel
theorem kb_bool_int : kitB "bool" "int" = some true := by decide +kernel
theorem kb_bool_bool : kitB "bool" "bool" = some true := by decide +kernel
theorem kb_bool_str : kitB "bool" "str" = some false := by decide +kernel
theorem kb_bool_tuple : kitB "bool" "tuple" = some false := by decide +kernel
theorem kb_int_int : kitB "int" "int" = some true := by decide +kernel
theorem kb_int_bool : kitB "int" "bool" = some false := by decide +kernel
theorem kb_int_str : kitB "int" "str" = some false := by decide +kernel
theorem kb_int_tuple : kitB "int" "tuple" = some false := by decide +kernel
theorem kb_str_int : kitB "str" "int" = some false := by decide +kernel
theorem kb_str_str : kitB "str" "str" = some true := by decide +kernel
theorem kb_str_tuple : kitB "str" "tuple" = some false := by decide +kernel
theorem kb_tuple_int : kitB "tuple" "int" = some false := by decide +kernel
theorem kb_tuple_str : kitB "tuple" "str" = some false := by decide +kernel
theorem kb_tuple_tuple : kitB "tuple" "tuple" = some true := by decide +kernel
theorem kb_list_int : kitB "list" "int" = some false := by decide +kernel
theorem kb_list_str : kitB "list" "str" = some false := by decide +kernel
theorem kb_list_tuple : kitB "list" "tuple" = some false := by decide +kernel
theorem kb_dict_int : kitB "dict" "int" = some false := by decide +kernel
theorem kb_dict_str : kitB "dict" "str" = some false := by decide +kernel
theorem kb_dict_tuple : kitB "dict" "tuple" = some false := by decide +kernel
abbrev plainD : Dt → Bool
  | .dit _ => false | .obj _ _ => false | .dk _ _ _ _ => false | .tx _ => false | _ => true
theorem d_isi {T : String} {nm : Str} (hg : Gl X "isinstance") (hm : X.mg "isinstance" = none) (hgt : Gl X nm) (hmt : X.mg nm = none) (hv : bootBuiltins nm = some (.type T)) (h : DA X ρ a fun d => plainD d = true ∧ ∃ r, kitB (tyD d) T = some r ∧ Q (.bl r))
    (hn : nm ≠ "__name__" := by decide) (hd : (nm == ("__debug__" : Str)) = false := by decide) (he : starEach [a, .Name nm pos] X.env = (false, eval a X.env) :: starEach [.Name nm pos] X.env := by rfl) (he2 : starEach [.Name nm pos] X.env = (false, eval (.Name nm pos) X.env) :: starEach [] X.env := by rfl) (hpl : (backTo q2 (starEach [.Name nm pos] X.env)).any (·.1) = false := by rfl) :
    DE X ρ (.Call (.Name "isinstance" q1) [a, .Name nm pos] [] q2) Q :=
  ⟨fun H0 B σ H E => sem_of (pe_callB call_isi hg hm (by decide +kernel) (pa_cons pe_sem (pa_cons (pe_bltn hgt hmt hv (show RelV (.ty T) (.type T) from rfl) hn hd) pa_nil he2) he) (he := he) (hpl := hpl)) (h.go E fun B2 v d H2 g E2 r q => by
    obtain ⟨q0, z, hz, q⟩ := q
    exact ⟨v, .ty T, .type (tyD d), .type T, z, rfl, .ty T, r.ty (fun C fs e => by subst e; cases q0) (fun kvs e => by subst e; cases q0) (fun _ _ _ _ e => by subst e; cases q0) (fun _ e => by subst e; cases q0), kit_ty hz, B2, _, g, .bl z, q⟩)⟩
end
end Z
set_option Elab.async false
set_option linter.all false
set_option maxRecDepth 100000
set_option maxHeartbeats 4000000
namespace Z
open PySem PySem.Spec PyProof.Rows L2 Evl Y
/-! ### own defs, by data -/
/-- a promise in data -/
def spD (K : PySem.W.Frag) (S : List Dt → (Dt → Prop) → Prop) : Sp := fun vs H Q _ => ∃ B ds, Ex B H ∧ RpL K B vs ds ∧ S ds fun d => ∀ B2 v H2, Gr B H B2 H2 → Rp K B2 v d → Q v H2
structure OwnD (P : Program) (w : World) (K : PySem.W.Frag) (mg : Str → Option Value) (base : Heap) (nm : Str) (ps : List Str) (lv : Nat) (S : List Dt → (Dt → Prop) → Prop) : Prop where
  own : Own P w K mg base nm ps lv (spD K S)
  mono : ∀ ds (Q Q' : Dt → Prop), (∀ d, Q d → Q' d) → S ds Q → S ds Q'
structure DLA (X : Cx) (ρ : List Sl) (es : List Expr) (Q : List Dt → Prop) : Prop where
  run : ∀ H0 B σ H, En X.K H0 B ρ σ H → semA X es σ H fun vs H2 => ∃ B2 ds, Gr B H B2 H2 ∧ RpL X.K H2 vs ds ∧ Q ds
section
variable {X : Cx} {ρ : List Sl} {e a b c o elt iter tg : Expr} {es : List Expr} {Q Q' : Dt → Prop} {H0 B B2 H H2 : Hp} {σ : L2.St} {i : Nat} {d : Dt} {pos p2 q1 q2 apos cpos : Pos} {nm : Str} {ps : List Str} {lv : Nat} {S : List Dt → (Dt → Prop) → Prop}
theorem DLA.go {Q : List Dt → Prop} (h : DLA X ρ es Q) (E : En X.K H0 B ρ σ H) {R : List V → Hp → Prop} (k : ∀ B2 vs ds H2, Gr B H B2 H2 → En X.K H0 B2 ρ σ H2 → RpL X.K H2 vs ds → Q ds → R vs H2) : semA X es σ H R :=
  semA_mono (h.run _ _ _ _ E) fun vs H2 ⟨B2, ds, g, r, q⟩ => k B2 vs ds H2 g (E.gr g) r q
theorem d_own (O : OwnD X.prog X.w X.K X.mg X.base nm ps lv S) (hr : Room lv X.A) (hg : Gl X nm) (h : DL X ρ (e :: es) fun ds => S ds Q)
    (hdb : (nm == ("__debug__" : Str)) = false := by decide) (he : starEach (e :: es) X.env = (false, eval e X.env) :: starEach es X.env := by rfl) (hpl : (backTo q2 (starEach es X.env)).any (·.1) = false := by rfl) : DE X ρ (.Call (.Name nm q1) (e :: es) [] q2) Q := by
  obtain ⟨g, fd, F, hk, hb, hm⟩ := O.own.ex
  exact ⟨fun H0 B σ H E => sem_of (pe_call F hr hg hm hk hb .nil pass0 pa_sem hdb he hpl) (h.go E fun B2 vs ds H2 g2 E2 rs q => by
    rw [List.append_nil]
    exact ⟨B2, ds, E2.ex, rs, O.mono _ _ _ (fun d q B3 v H3 g3 r => ⟨B3, d, g2.trans g3, r, q⟩) q⟩)⟩
/-! ### slots forgotten -/
def wipeD (ρ : List Sl) : List Nat → List Sl
  | [] => ρ
  | v :: vs => (wipeD ρ vs).set v .un
theorem wipe_at {σ : L2.St} {j : Nat} : ∀ {vs : List Nat}, j ∉ vs → (wipe σ vs)[j]? = σ[j]?
  | [], _ => rfl
  | v :: vs, h => by
    unfold wipe
    rw [List.getElem?_set_ne (fun z => h (by rw [z]; exact List.mem_cons_self)), wipe_at fun z => h (List.mem_cons_of_mem _ z)]
theorem wipeD_at {ρ : List Sl} {j : Nat} {s : Sl} : ∀ {vs : List Nat}, s ≠ .un → (wipeD ρ vs)[j]? = some s → ρ[j]? = some s ∧ j ∉ vs
  | [], _, h => ⟨h, by simp⟩
  | v :: vs, n, h => by
    unfold wipeD at h
    by_cases z : v = j
    · subst z
      by_cases hl : v < (wipeD ρ vs).length
      · rw [List.getElem?_set_self hl] at h; cases h; exact absurd rfl n
      · rw [List.getElem?_eq_none (by simpa using hl)] at h; cases h
    · rw [List.getElem?_set_ne z] at h
      obtain ⟨a, b⟩ := wipeD_at n h
      exact ⟨a, by simp only [List.mem_cons, not_or]; exact ⟨fun y => z y.symm, b⟩⟩
theorem wipeD_len {ρ : List Sl} : ∀ {vs : List Nat}, (wipeD ρ vs).length = ρ.length
  | [] => rfl
  | v :: vs => by unfold wipeD; rw [List.length_set, wipeD_len]
theorem En.wipe {K : PySem.W.Frag} (E : En K H0 B ρ σ H) (vs : List Nat) : En K H0 B (wipeD ρ vs) (L2.wipe σ vs) H := by
  refine ⟨E.ex, by rw [wipe_length, wipeD_len]; exact E.len, fun j d h => ?_, fun j d h => ?_, fun j k d d' p n h1 h2 h3 h4 => ?_⟩
  · obtain ⟨h1, h2⟩ := wipeD_at (s := .fr d) nofun h
    rw [wipe_at h2]; exact E.fr j d h1
  · obtain ⟨h1, h2⟩ := wipeD_at (s := .ow d) nofun h
    rw [wipe_at h2]; exact E.ow j d h1
  · obtain ⟨a1, a2⟩ := wipeD_at (s := .ow d) nofun h1
    obtain ⟨b1, b2⟩ := wipeD_at (s := .ow d') nofun h2
    rw [wipe_at a2] at h3
    rw [wipe_at b2] at h4
    exact E.sep j k d d' p n a1 b1 h3 h4
theorem wipe_set {σ : L2.St} {j : Nat} {v : Option V} : ∀ {vs : List Nat}, j ∈ vs → L2.wipe (σ.set j v) vs = L2.wipe σ vs := fun {vs} h => by
  refine List.ext_getElem? fun k => ?_
  by_cases hk : k ∈ vs
  · have gen : ∀ (τ : L2.St), τ.length = σ.length → (L2.wipe τ vs)[k]? = if k < σ.length then some none else none := fun τ hl => by
      have hw := wipe_length τ vs
      by_cases z : k < σ.length
      · rw [if_pos z]
        cases e : (L2.wipe τ vs)[k]? with
        | none => rw [List.getElem?_eq_none_iff, hw, hl] at e; omega
        | some o =>
          cases o with
          | none => rfl
          | some x => exact absurd hk (wipe_some e).2
      · rw [if_neg z, List.getElem?_eq_none_iff, hw, hl]; omega
    rw [gen _ (List.length_set ..), gen _ rfl]
  · rw [wipe_at hk, wipe_at hk, List.getElem?_set_ne (fun z => hk (by rw [← z]; exact h))]
theorem wipe_idem {σ : L2.St} {vs : List Nat} : L2.wipe (L2.wipe σ vs) vs = L2.wipe σ vs := by
  refine List.ext_getElem? fun k => ?_
  by_cases hk : k ∈ vs
  · have gen : ∀ (τ : L2.St), τ.length = σ.length → (L2.wipe τ vs)[k]? = if k < σ.length then some none else none := fun τ hl => by
      have hw := wipe_length τ vs
      by_cases z : k < σ.length
      · rw [if_pos z]
        cases e : (L2.wipe τ vs)[k]? with
        | none => rw [List.getElem?_eq_none_iff, hw, hl] at e; omega
        | some o =>
          cases o with
          | none => rfl
          | some x => exact absurd hk (wipe_some e).2
      · rw [if_neg z, List.getElem?_eq_none_iff, hw, hl]; omega
    rw [gen _ (wipe_length ..), gen _ rfl]
  · rw [wipe_at hk]
/-! ### targets -/
/-- what a target does to what is known of the slots -/
structure DG (X : Cx) (tg : Expr) (js : List Nat) (f : List Sl → Dt → Option (List Sl)) : Prop where
  ex : ∃ g, PG X tg g ∧ ∀ H0 B ρ σ H x d ρ' (R : L2.St → Hp → Prop), En X.K H0 B ρ σ H → Rp X.K B x d → f ρ d = some ρ' → (∀ σ', En X.K H0 B ρ' σ' H → (∀ vs : List Nat, (∀ j ∈ js, j ∈ vs) → L2.wipe σ' vs = L2.wipe σ vs) → R σ' H) → g x σ H R
abbrev fNm (i : Nat) : List Sl → Dt → Option (List Sl) := fun ρ d => some (ρ.set i (.fr d))
theorem g_nm (i : Nat) {x : Str} (hN : X.N.Nodup) (hi : X.N[i]? = some x := by rfl) (hx : Loc X.env.scope x := by first | exact Or.inl rfl | exact Or.inr rfl) (hf : X.fn x = true ∨ X.env.scope.names.lookup x = some .local := by first | exact .inl rfl | exact .inr rfl) : DG X (.Name x pos) [i] (fNm i) :=
  ⟨gName i, pg_name hN hi hx hf, fun H0 B ρ σ H x d ρ' R E r hf k => by cases hf; exact k _ (E.set r) fun vs h => wipe_set (h i List.mem_cons_self)⟩
abbrev fTup2 (i j : Nat) : List Sl → Dt → Option (List Sl) := fun ρ d => match d with
  | .tup [x, y] => some ((ρ.set i (.fr x)).set j (.fr y))
  | _ => none
theorem g_tup2 (i j : Nat) {x y : Str} {kt : Nat} {px py : Pos} (hc : X.calm = true) (hN : X.N.Nodup) (hi : X.N[i]? = some x := by rfl) (hj : X.N[j]? = some y := by rfl) (hx : Loc X.env.scope x := by first | exact Or.inl rfl | exact Or.inr rfl) (hy : Loc X.env.scope y := by first | exact Or.inl rfl | exact Or.inr rfl)
    (hf : X.fn x = true ∨ X.env.scope.names.lookup x = some .local := by first | exact .inl rfl | exact .inr rfl) (hf2 : X.fn y = true ∨ X.env.scope.names.lookup y = some .local := by first | exact .inl rfl | exact .inr rfl) : DG X (.Tuple [.Name x px, .Name y py] kt pos) [i, j] (fTup2 i j) :=
  ⟨_, pg_tup hc (pgs_cons (pg_name hN hi hx hf) (pgs_cons (pg_name hN hj hy hf2) pgs_nil)), fun H0 B ρ σ H v d ρ' R E r hf k => by
    cases r with
    | tup ha hv =>
      unfold fTup2 at hf
      split at hf
      · rename_i q
        cases q
        cases hf
        cases hv with
        | cons r1 t => cases t with
          | cons r2 t => cases t; exact ⟨_, _, rfl, ex_t E.ex ha, rfl, _, _, rfl, _, _, rfl, rfl, k _ ((E.set r1).set r2) fun vs h => by rw [wipe_set (h j (by simp)), wipe_set (h i (by simp))]⟩
      · cases hf
    | _ => cases hf⟩
abbrev fTup3 (i j l : Nat) : List Sl → Dt → Option (List Sl) := fun ρ d => match d with
  | .tup [x, y, z] => some (((ρ.set i (.fr x)).set j (.fr y)).set l (.fr z))
  | _ => none
theorem g_tup3 (i j l : Nat) {x y z : Str} {kt : Nat} {px py pz : Pos} (hc : X.calm = true) (hN : X.N.Nodup) (hi : X.N[i]? = some x := by rfl) (hj : X.N[j]? = some y := by rfl) (hl : X.N[l]? = some z := by rfl) (hx : Loc X.env.scope x := by first | exact Or.inl rfl | exact Or.inr rfl) (hy : Loc X.env.scope y := by first | exact Or.inl rfl | exact Or.inr rfl) (hz : Loc X.env.scope z := by first | exact Or.inl rfl | exact Or.inr rfl)
    (hf : X.fn x = true ∨ X.env.scope.names.lookup x = some .local := by first | exact .inl rfl | exact .inr rfl) (hf2 : X.fn y = true ∨ X.env.scope.names.lookup y = some .local := by first | exact .inl rfl | exact .inr rfl) (hf3 : X.fn z = true ∨ X.env.scope.names.lookup z = some .local := by first | exact .inl rfl | exact .inr rfl) : DG X (.Tuple [.Name x px, .Name y py, .Name z pz] kt pos) [i, j, l] (fTup3 i j l) :=
  ⟨_, pg_tup hc (pgs_cons (pg_name hN hi hx hf) (pgs_cons (pg_name hN hj hy hf2) (pgs_cons (pg_name hN hl hz hf3) pgs_nil))), fun H0 B ρ σ H v d ρ' R E r hf k => by
    cases r with
    | tup ha hv =>
      unfold fTup3 at hf
      split at hf
      · rename_i q
        cases q
        cases hf
        cases hv with
        | cons r1 t => cases t with
          | cons r2 t => cases t with
            | cons r3 t => cases t; exact ⟨_, _, rfl, ex_t E.ex ha, rfl, _, _, rfl, _, _, rfl, _, _, rfl, rfl, k _ (((E.set r1).set r2).set r3) fun vs h => by rw [wipe_set (h l (by simp)), wipe_set (h j (by simp)), wipe_set (h i (by simp))]⟩
      · cases hf
    | _ => cases hf⟩
/-! ### what is walked -/
def DWalk (K : PySem.W.Frag) (J : It) (B : Hp) (ds : List Dt) : Prop := ∃ (G : Hp → Prop) (Y : Nat → Hp → V → Hp → Prop), Walk J ds.length G Y ∧ (∀ H', Ex B H' → G H') ∧
  ∀ i H' x H'' Bn, i < ds.length → Ex B Bn → Ex Bn H' → Y i H' x H'' → ∃ Bn' d, Gr Bn H' Bn' H'' ∧ ds[i]? = some d ∧ Rp K Bn' x d
structure DI (X : Cx) (ρ : List Sl) (tg iter : Expr) (Q : List Dt → Prop) : Prop where
  ex : ∃ wi, PI X tg iter wi ∧ ∀ H0 B σ H (R : It → Hp → Prop), En X.K H0 B ρ σ H → (∀ B2 H2 J ds, Gr B H B2 H2 → En X.K H0 B2 ρ σ H2 → DWalk X.K J B2 ds → Q ds → R J H2) → wi σ H R
  fo : ∀ x, foldedSetIterable iter X.env x = pure x
abbrev lstQ (d : Dt) (Q : List Dt → Prop) : Prop := match d with
  | .lst ds => Q ds
  | _ => False
abbrev tuQ (d : Dt) (Q : List Dt → Prop) : Prop := match d with
  | .tup ds => Q ds
  | _ => False
theorem yat {K : PySem.W.Frag} {xs : List V} {ds : List Dt} (r : RpL K B xs ds) : ∀ i H' x H'' Bn, i < ds.length → Ex B Bn → Ex Bn H' → YAt xs i H' x H'' → ∃ Bn' d, Gr Bn H' Bn' H'' ∧ ds[i]? = some d ∧ Rp K Bn' x d := fun i H' x H'' Bn hi e1 e2 y => by
  obtain ⟨rfl, hx⟩ := y
  obtain ⟨d, hd, rd⟩ := r.at hx
  exact ⟨Bn, d, Gr.refl e2, hd, rd.ex e1⟩
theorem i_lst {Q : List Dt → Prop} (h : DE X ρ e fun d => lstQ d Q) (fo : ∀ x, foldedSetIterable e X.env x = pure x := by intro _; rfl) : DI X ρ tg e Q :=
  ⟨⟨_, pi_list pe_sem, fun H0 B σ H R E k => h.go E fun B2 v d H2 g E2 r q => by
    cases r with
    | lst ha hx => exact ⟨_, rfl, ⟨_, ex_l E2.ex ha⟩, k B2 H2 _ _ g E2 ⟨_, _, by rw [← hx.len]; exact walk_list, fun H' e' => ex_l e' ha, yat hx⟩ q⟩
    | _ => exact q.elim⟩, fo⟩
theorem i_tup {Q : List Dt → Prop} (h : DE X ρ e fun d => tuQ d Q) (fo : ∀ x, foldedSetIterable e X.env x = pure x := by intro _; rfl) : DI X ρ tg e Q :=
  ⟨⟨_, pi_tup pe_sem, fun H0 B σ H R E k => h.go E fun B2 v d H2 g E2 r q => by
    cases r with
    | tup ha hx => exact ⟨_, rfl, ⟨_, ex_t E2.ex ha⟩, k B2 H2 _ _ g E2 ⟨_, _, by rw [← hx.len]; exact walk_tup, fun H' e' => ex_t e' ha, yat hx⟩ q⟩
    | _ => exact q.elim⟩, fo⟩
def rngD (lo : Int) (n : Nat) : List Dt := (List.range n).map fun (k : Nat) => Dt.int (lo + (k : Int))
theorem rngD_len {lo : Int} {n : Nat} : (rngD lo n).length = n := by unfold rngD; rw [List.length_map, List.length_range]
theorem walk_rng {K : PySem.W.Frag} {lo : Int} {n : Nat} : DWalk K (Itr lo n) B (rngD lo n) := ⟨_, _, by rw [rngD_len]; exact walk_range, fun _ _ => True.intro, fun i H' x H'' Bn hi e1 e2 y => by
  obtain ⟨rfl, rfl⟩ := y
  rw [rngD_len] at hi
  refine ⟨Bn, .int (lo + (i : Int)), Gr.refl e2, ?_, .int _⟩
  unfold rngD
  rw [List.getElem?_map, List.getElem?_range hi]; rfl⟩
abbrev rngQ (d : Dt) (Q : List Dt → Prop) : Prop := match d with
  | .int n => (-(2 ^ 62) ≤ n ∧ n < 2 ^ 62) ∧ Q (rngD 0 n.toNat)
  | _ => False
theorem i_rng {Q : List Dt → Prop} {p : Pos} (hg : Gl X "range") (hm : X.mg "range" = none) (h : DE X ρ a fun d => rngQ d Q) (hs : starEach [a] X.env = (false, eval a X.env) :: starEach [] X.env := by rfl) (fo : ∀ x, foldedSetIterable (.Call (.Name "range" p) [a] [] pos) X.env x = pure x := by intro _; rfl) : DI X ρ tg (.Call (.Name "range" p) [a] [] pos) Q :=
  ⟨⟨_, pi_range1 hg hm (pa_cons pe_sem pa_nil hs) hs, fun H0 B σ H R E k => h.go E fun B2 v d H2 g E2 r q => by
    cases r with
    | int n => exact ⟨n, rfl, q.1.1, q.1.2, k B2 H2 _ _ g E2 walk_rng q.2⟩
    | _ => exact q.elim⟩, fo⟩
/-- pairs that are made on the way -/
theorem ypair {K : PySem.W.Frag} {xs ys : Nat → Option V} {f g : Nat → Option Dt} {ds : List Dt} (hx : ∀ i v, xs i = some v → i < ds.length → ∃ d, f i = some d ∧ Rp K B v d) (hy : ∀ i v, ys i = some v → i < ds.length → ∃ d, g i = some d ∧ Rp K B v d)
    (hd : ∀ i a b, f i = some a → g i = some b → i < ds.length → ds[i]? = some (.tup [a, b])) : ∀ i H' x H'' Bn, i < ds.length → Ex B Bn → Ex Bn H' → YPair xs ys i H' x H'' → ∃ Bn' d, Gr Bn H' Bn' H'' ∧ ds[i]? = some d ∧ Rp K Bn' x d := fun i H' x H'' Bn hi e1 e2 y => by
  obtain ⟨T, u, v, rfl, hT, rfl, h1, h2⟩ := y
  obtain ⟨a, ha, ra⟩ := hx i u h1 hi
  obtain ⟨b, hb, rb⟩ := hy i v h2 hi
  have gn := Gr.new (o := .tup [u, v]) e2 hT
  exact ⟨_, _, gn, hd i a b ha hb hi, .tup (st_of upd_same) (.cons ((ra.ex e1).ex gn.b) (.cons ((rb.ex e1).ex gn.b) .nil))⟩
def enumD (ds : List Dt) : List Dt := ds.zipIdx.map fun q => .tup [.int (q.2 : Int), q.1]
theorem enumD_len {ds : List Dt} : (enumD ds).length = ds.length := by unfold enumD; rw [List.length_map, List.length_zipIdx]
theorem enumD_at {ds : List Dt} {i : Nat} {d : Dt} (h : ds[i]? = some d) : (enumD ds)[i]? = some (.tup [.int (i : Int), d]) := by
  unfold enumD
  rw [List.getElem?_map, List.getElem?_zipIdx, h]
  simp
theorem walk_en {K : PySem.W.Frag} {xs : List V} {ds : List Dt} {J : It} {G : Hp → Prop} (w : Walk J xs.length G (YPair (fun i => some (.int (i : Nat))) (fun i => xs[i]?))) (hG : ∀ H', Ex B H' → G H') (r : RpL K B xs ds) : DWalk K J B (enumD ds) :=
  ⟨G, _, by rw [enumD_len, ← r.len]; exact w, hG, ypair (f := fun i => some (.int (i : Int))) (g := fun i => ds[i]?) (fun i v h _ => by cases h; exact ⟨_, rfl, .int _⟩) (fun i v h _ => r.at h) fun i a b ha hb _ => by cases ha; exact enumD_at hb⟩
theorem i_enumL {Q : List Dt → Prop} {p tpos : Pos} {elts : List Expr} {kk : Nat} (hg : Gl X "enumerate") (hm : X.mg "enumerate" = none) (h : DE X ρ a fun d => lstQ d fun ds => Q (enumD ds)) (hs : starEach [a] X.env = (false, eval a X.env) :: starEach [] X.env := by rfl) (fo : ∀ x, foldedSetIterable (.Call (.Name "enumerate" p) [a] [] pos) X.env x = pure x := by intro _; rfl) : DI X ρ (.Tuple elts kk tpos) (.Call (.Name "enumerate" p) [a] [] pos) Q :=
  ⟨⟨_, pi_enum hg hm (pa_cons pe_sem pa_nil hs) hs, fun H0 B σ H R E k => h.go E fun B2 v d H2 g E2 r q => by
    cases r with
    | lst ha hx => exact ⟨_, _, rfl, ex_l E2.ex ha, k B2 H2 _ _ g E2 (walk_en walk_enum (fun H' e' => ex_l e' ha) hx) q⟩
    | _ => exact q.elim⟩, fo⟩
def zipD (ds es : List Dt) : List Dt := (ds.zip es).map fun q => .tup [q.1, q.2]
theorem i_zipT {Q : List Dt → Prop} {p tpos : Pos} {elts : List Expr} {kk : Nat} (hg : Gl X "zip") (hm : X.mg "zip" = none) (h : DE X ρ a fun d => tuQ d fun ds => DE X ρ b fun d' => tuQ d' fun es => Q (zipD ds es)) (hs : starEach [a, b] X.env = (false, eval a X.env) :: starEach [b] X.env := by rfl) (hs2 : starEach [b] X.env = (false, eval b X.env) :: starEach [] X.env := by rfl)
    (hpl : (backTo pos (starEach [b] X.env)).any (·.1) = false := by rfl) (fo : ∀ x, foldedSetIterable (.Call (.Name "zip" p) [a, b] [] pos) X.env x = pure x := by intro _; rfl) : DI X ρ (.Tuple elts kk tpos) (.Call (.Name "zip" p) [a, b] [] pos) Q :=
  ⟨⟨_, RZ.pi_zipA hg hm (pa_cons pe_sem (pa_cons pe_sem pa_nil hs2) hs) hs hpl, fun H0 B σ H R E k => h.go E fun B2 v d H2 g E2 r q => by
    cases r with
    | tup ha hx =>
      refine q.go E2 fun B3 w d' H3 g3 E3 r3 q3 => ?_
      cases r3 with
      | tup hb hy =>
        refine ⟨_, _, _, _, rfl, .inr ⟨ex_t (g3.b.trans E3.ex) ha, ex_t E3.ex hb, k B3 H3 _ _ (g.trans g3) E3 ⟨_, _, walk_zT ?_, fun H' e' => ⟨ex_t (g3.b.trans e') ha, ex_t e' hb⟩, ?_⟩ q3⟩⟩
        · unfold zipD; rw [List.length_map, List.length_zip, hx.len, hy.len]
        · refine ypair (fun i v h _ => (hx.ex g3.b).at h) (fun i v h _ => hy.at h) fun i a b ha hb _ => ?_
          unfold zipD
          have hz : (List.zip _ _)[i]? = some (a, b) := List.getElem?_zip_eq_some.mpr ⟨ha, hb⟩
          rw [List.getElem?_map, hz]; rfl
      | _ => exact q3.elim
    | _ => exact q.elim⟩, fo⟩
/-! ### comprehensions -/
end
end Z
set_option Elab.async false
set_option linter.all false
set_option maxRecDepth 100000
set_option maxHeartbeats 4000000
namespace Z
open PySem PySem.Spec PyProof.Rows L2 Evl Y
section
variable {X : Cx} {ρ : List Sl} {e a b c o elt tst iter tg : Expr} {es : List Expr} {Q Q' : Dt → Prop} {H0 B B2 H H2 : Hp} {σ : L2.St} {i : Nat} {d : Dt} {pos p2 q1 q2 apos cpos spos : Pos} {nm : Str} {scope : Scope} {own : List (Str × Nat)}
/-- in a comprehension's block -/
def DEb (X : Cx) (scope : Scope) (ρ : List Sl) (e : Expr) (Q : Dt → Prop) : Prop := ∀ (s : Shared) (H' : Hp) (C : Addr) (cl : List (Str × Addr)) (fp : List Addr), DE (X.blk s H' scope (compEnvC scope cl C X.env) fp) ρ e Q
def DTb (X : Cx) (scope : Scope) (ρ : List Sl) (e : Expr) (Q : Bool → Prop) : Prop := ∀ (s : Shared) (H' : Hp) (C : Addr) (cl : List (Str × Addr)) (fp : List Addr), DT (X.blk s H' scope (compEnvC scope cl C X.env) fp) ρ e Q
def DGb (X : Cx) (scope : Scope) (tg : Expr) (js : List Nat) (f : List Sl → Dt → Option (List Sl)) : Prop := ∃ g, (∀ (s : Shared) (H : Hp) (C : Addr) (cl : List (Str × Addr)) (fp : List Addr), PG (X.blk s H scope (compEnvC scope cl C X.env) fp) tg g) ∧
  ∀ H0 B ρ σ H x d ρ' (R : L2.St → Hp → Prop), En X.K H0 B ρ σ H → Rp X.K B x d → f ρ d = some ρ' → (∀ σ', En X.K H0 B ρ' σ' H → (∀ vs : List Nat, (∀ j ∈ js, j ∈ vs) → L2.wipe σ' vs = L2.wipe σ vs) → R σ' H) → g x σ H R
theorem gb_nm (j : Nat) {xn : Str} {px : Pos} (hg : ∀ (s : Shared) (H : Hp) (C : Addr) (cl : List (Str × Addr)) (fp : List Addr), PG (X.blk s H scope (compEnvC scope cl C X.env) fp) (.Name xn px) (gName j)) : DGb X scope (.Name xn px) [j] (fNm j) :=
  ⟨gName j, hg, fun H0 B ρ σ H x d ρ' R E r hf k => by cases hf; exact k _ (E.set r) fun vs h => wipe_set (h j List.mem_cons_self)⟩
theorem gb_tup2 (i j : Nat) {xn yn : Str} {px py : Pos} {kt : Nat} (hg : ∀ (s : Shared) (H : Hp) (C : Addr) (cl : List (Str × Addr)) (fp : List Addr), PG (X.blk s H scope (compEnvC scope cl C X.env) fp) (.Tuple [.Name xn px, .Name yn py] kt pos) (gTup X.K 2 (gCons (gName i) (gCons (gName j) gNil)))) : DGb X scope (.Tuple [.Name xn px, .Name yn py] kt pos) [i, j] (fTup2 i j) :=
  ⟨_, hg, fun H0 B ρ σ H v d ρ' R E r hf k => by
    cases r with
    | tup ha hv =>
      unfold fTup2 at hf
      split at hf
      · rename_i q
        cases q
        cases hf
        cases hv with
        | cons r1 t => cases t with
          | cons r2 t => cases t; exact ⟨_, _, rfl, ex_t E.ex ha, rfl, _, _, rfl, _, _, rfl, rfl, k _ ((E.set r1).set r2) fun vs h => by rw [wipe_set (h j (by simp)), wipe_set (h i (by simp))]⟩
      · cases hf
    | _ => cases hf⟩
theorem gb_tup3 (i j l : Nat) {xn yn zn : Str} {px py pz : Pos} {kt : Nat} (hg : ∀ (s : Shared) (H : Hp) (C : Addr) (cl : List (Str × Addr)) (fp : List Addr), PG (X.blk s H scope (compEnvC scope cl C X.env) fp) (.Tuple [.Name xn px, .Name yn py, .Name zn pz] kt pos) (gTup X.K 3 (gCons (gName i) (gCons (gName j) (gCons (gName l) gNil))))) : DGb X scope (.Tuple [.Name xn px, .Name yn py, .Name zn pz] kt pos) [i, j, l] (fTup3 i j l) :=
  ⟨_, hg, fun H0 B ρ σ H v d ρ' R E r hf k => by
    cases r with
    | tup ha hv =>
      unfold fTup3 at hf
      split at hf
      · rename_i q
        cases q
        cases hf
        cases hv with
        | cons r1 t => cases t with
          | cons r2 t => cases t with
            | cons r3 t => cases t; exact ⟨_, _, rfl, ex_t E.ex ha, rfl, _, _, rfl, _, _, rfl, _, _, rfl, rfl, k _ (((E.set r1).set r2).set r3) fun vs h => by rw [wipe_set (h l (by simp)), wipe_set (h j (by simp)), wipe_set (h i (by simp))]⟩
      · cases hf
    | _ => cases hf⟩
/-- the turns of a comprehension: what has been gathered -/
abbrev LcQ (X : Cx) (scope : Scope) (own : List (Str × Nat)) (ρ : List Sl) (f : List Sl → Dt → Option (List Sl)) (body : List Sl → List Dt → (List Dt → Prop) → Prop) (ds : List Dt) (Q : Dt → Prop) : Prop :=
  ds.length ≤ 100000 ∧ ∃ A : Nat → List Dt → Prop, A 0 [] ∧ (∀ n d acc, ds[n]? = some d → A n acc → ∃ ρ', f (wipeD ρ (own.map (·.2))) d = some ρ' ∧ body ρ' acc (A (n + 1))) ∧ ∀ acc, acc.length ≤ ds.length → A ds.length acc → Q (.lst acc)
/-- what the walk and the turns come to -/
theorem lc_run {js : List Nat} {f : List Sl → Dt → Option (List Sl)} {body : List Sl → List Dt → (List Dt → Prop) → Prop} {g : TG} {tt : TT} {te : TE} {J : It} {ds : List Dt} {D : Addr} {Qd : Hp → Prop}
    (hg : ∀ H0 B ρ σ H x d ρ' (R : L2.St → Hp → Prop), En X.K H0 B ρ σ H → Rp X.K B x d → f ρ d = some ρ' → (∀ σ', En X.K H0 B ρ' σ' H → (∀ vs : List Nat, (∀ j ∈ js, j ∈ vs) → L2.wipe σ' vs = L2.wipe σ vs) → R σ' H) → g x σ H R)
    (hj : ∀ j ∈ js, j ∈ own.map (·.2)) (E : En X.K H0 B ρ σ H) (w : DWalk X.K J B ds) (hD : H D = none) (h : LcQ X scope own ρ f body ds Q)
    (hb : ∀ ρ' σ' B' H' acc (P : List Dt → Prop) (R : V → Hp → Prop) (N : Hp → Prop), En X.K H0 B' ρ' σ' H' → body ρ' acc P → (∀ B3 d H3, Gr B' H' B3 H3 → ∀ v, Rp X.K B3 v d → P (acc ++ [d]) → R v H3) → (∀ B3 H3, Gr B' H' B3 H3 → P acc → N H3) → tt σ' H' fun b H3 => if b = true then te σ' H3 R else N H3)
    (hq : ∀ B3 H3 acc, Gr B H B3 H3 → B3 D = none → Od X.K B3 H3 D (.lst acc) → Q (.lst acc) → Qd H3) :
    ∃ W : Nat → Nat → Hp → Prop, (∃ m, W 0 m (upd H D (.lst []))) ∧ ∀ i m H, W i m H →
      (J.stop i H ∧ Qd H) ∨ (J.go i H ∧ ∃ Nx : Hp → Prop, (∀ H', Nx H' → ∃ m', m' < m ∧ W (i + 1) m' H') ∧ ∀ x H', J.yld i H x H' → g x (L2.wipe σ (own.map (·.2))) H' fun σ2 H2 => L2.wipe σ2 (own.map (·.2)) = L2.wipe σ (own.map (·.2)) ∧ tt σ2 H2 fun b H3 =>
        if b = true then te σ2 H3 fun y H4 => ∃ acc, H4 D = some (.lst acc) ∧ acc.length < sizeLine ∧ Nx (upd H4 D (.lst (acc ++ [y]))) else Nx H3) := by
  obtain ⟨G, Y, wk, hG, hY⟩ := w
  obtain ⟨hz, A, a0, as, ad⟩ := h
  have hBD : B D = none := fresh_back E.ex hD
  have st : ∀ B3 H3 vs, Gr B H B3 H3 → H3 D = some (.lst vs) → B3 D = none → True := fun _ _ _ _ _ _ => True.intro
  refine lc_it wk (fun n H' => n ≤ ds.length ∧ ∃ Bn vs acc, Gr B H Bn H' ∧ Bn D = none ∧ H' D = some (.lst vs) ∧ RpL X.K Bn vs acc ∧ acc.length ≤ n ∧ A n acc) ⟨Nat.zero_le _, B, [], [], ⟨Ex.refl _, Ex.new hD, Ex.mut E.ex hBD, fun _ _ _ _ q => q⟩, hBD, upd_same, .nil, Nat.le_refl _, a0⟩ ?_ ?_ ?_
  · rintro n H' _ ⟨_, Bn, vs, acc, g1, _⟩
    exact hG H' (g1.b.trans g1.s)
  · rintro n x H' H'' hn ⟨_, Bn, vs, acc, g1, n1, h1, r1, l1, p1⟩ y
    obtain ⟨Bm, d, g2, hd, rd⟩ := hY n H' x H'' Bn hn g1.b g1.s y
    obtain ⟨ρ', hf, bd⟩ := as n d acc hd p1
    have E1 : En X.K H0 Bm (wipeD ρ (own.map (·.2))) (L2.wipe σ (own.map (·.2))) H'' := ((E.gr g1).gr g2).wipe _
    have nm : Bm D = none := g2.o D _ h1 rfl n1
    have hm : H'' D = some (.lst vs) := g2.h _ _ h1
    refine hg H0 Bm _ _ H'' x d ρ' _ E1 rd hf fun σ' E2 hw => ⟨?_, ?_⟩
    · rw [hw _ hj]
      exact wipe_idem
    · refine hb ρ' σ' Bm H'' acc (A (n + 1)) _ _ E2 bd (fun B3 d' H3 g3 v rv pa => ?_) fun B3 H3 g3 pa => ?_
      · have gg := (g1.trans g2).trans g3
        have n3 : B3 D = none := g3.o D _ hm rfl nm
        have h3 : H3 D = some (.lst vs) := g3.h _ _ hm
        refine ⟨vs, h3, ?_, hn, B3, vs ++ [v], acc ++ [d'], ⟨gg.b, Ex.mut gg.h hD, Ex.mut gg.s n3, gg.o⟩, n3, upd_same, ((r1.ex g2.b).ex g3.b).app (.cons rv .nil), by rw [List.length_append]; exact Nat.add_le_add_right l1 1, pa⟩
        have := r1.len
        exact sz_lt (by omega)
      · exact ⟨hn, B3, vs, acc, (g1.trans g2).trans g3, g3.o D _ hm rfl nm, g3.h _ _ hm, (r1.ex g2.b).ex g3.b, Nat.le_succ_of_le l1, pa⟩
  · rintro H' ⟨_, Bn, vs, acc, g1, n1, h1, r1, l1, p1⟩
    exact hq Bn H' acc g1 n1 ⟨vs, h1, r1⟩ (ad acc l1 p1)
theorem n_lc {js : List Nat} {f : List Sl → Dt → Option (List Sl)} (hc : X.calm = true) (hN : X.N.Nodup) (ok : BlkOk X.N X.env.scope scope own) (hg : DGb X scope tg js f) (hj : ∀ j ∈ js, j ∈ own.map (·.2))
    (hi : DI X ρ tg iter fun ds => LcQ X scope own ρ f (fun ρ' acc P => DEb X scope ρ' elt fun d => P (acc ++ [d])) ds Q) : DN X ρ (.ListComp elt [⟨tg, iter, [], 0⟩] scope pos) Q := by
  obtain ⟨wi, pi, hw⟩ := hi.ex
  obtain ⟨g, pg, gg⟩ := hg
  refine ⟨fun H0 B σ H E => sem_of (pe_lc hc hN pi ok pg (fun _ _ _ _ _ => pts_nil) (fun s H' C cl fp => pe_blk s H' C cl fp) hi.fo) (hw H0 B σ H _ E fun B2 H2 J ds g2 E2 w q D hD => ?_)⟩
  refine lc_run gg hj E2 w hD q (fun ρ' σ' B' H' acc P R N E' bd k1 k2 => ?_) fun B3 H3 acc g3 n3 o3 q3 => ⟨B3, D, _, g2.trans g3, rfl, fresh_back g2.h hD, n3, o3, q3⟩
  exact iteT (B := N H') fun s H'' C cl fp => (bd s H'' C cl fp).go E' fun B3 v d H3 g3 _ r3 q3 => k1 B3 d H3 g3 v r3 q3
theorem n_lct {js : List Nat} {f : List Sl → Dt → Option (List Sl)} (hc : X.calm = true) (hN : X.N.Nodup) (ok : BlkOk X.N X.env.scope scope own) (hg : DGb X scope tg js f) (hj : ∀ j ∈ js, j ∈ own.map (·.2))
    (hi : DI X ρ tg iter fun ds => LcQ X scope own ρ f (fun ρ' acc P => DTb X scope ρ' tst fun z => (z = true → DEb X scope ρ' elt fun d => P (acc ++ [d])) ∧ (z = false → P acc)) ds Q) : DN X ρ (.ListComp elt [⟨tg, iter, [tst], 0⟩] scope pos) Q := by
  obtain ⟨wi, pi, hw⟩ := hi.ex
  obtain ⟨g, pg, gg⟩ := hg
  refine ⟨fun H0 B σ H E => sem_of (pe_lc hc hN pi ok pg (fun s H' C cl fp => pts_one (pt_blk s H' C cl fp)) (fun s H' C cl fp => pe_blk s H' C cl fp) hi.fo) (hw H0 B σ H _ E fun B2 H2 J ds g2 E2 w q D hD => ?_)⟩
  refine lc_run gg hj E2 w hD q (fun ρ' σ' B' H' acc P R N E' bd k1 k2 => ?_) fun B3 H3 acc g3 n3 o3 q3 => ⟨B3, D, _, g2.trans g3, rfl, fresh_back g2.h hD, n3, o3, q3⟩
  exact fun s H'' C cl fp => (bd s H'' C cl fp).go E' fun B3 z H3 g3 E3 q3 => by
    cases z with
    | true => exact iteT (B := N H3) fun s H'' C cl fp => (q3.1 rfl s H'' C cl fp).go E3 fun B4 v d H4 g4 _ r4 q4 => k1 B4 d H4 (g3.trans g4) v r4 q4
    | false =>
      rw [if_neg Bool.false_ne_true]
      exact k2 B3 H3 g3 (q3.2 rfl)
/-- each item's data by itself -/
theorem LcQ.map {f : List Sl → Dt → Option (List Sl)} {ds : List Dt} (F : Dt → Dt) (hz : ds.length ≤ 100000) (h : ∀ d ∈ ds, ∃ ρ', f (wipeD ρ (own.map (·.2))) d = some ρ' ∧ DEb X scope ρ' elt fun r => r = F d) (q : Q (.lst (ds.map F))) :
    LcQ X scope own ρ f (fun ρ' acc P => DEb X scope ρ' elt fun d => P (acc ++ [d])) ds Q :=
  ⟨hz, fun n acc => acc = (ds.take n).map F, rfl, fun n d acc hd ha => by
    obtain ⟨ρ', h1, h2⟩ := h d (List.mem_of_getElem? hd)
    refine ⟨ρ', h1, fun s H' C cl fp => (h2 s H' C cl fp).weak fun r hr => ?_⟩
    have ha : acc = (ds.take n).map F := ha
    show acc ++ [r] = (ds.take (n + 1)).map F
    rw [hr, ha, List.take_succ, hd, List.map_append]; rfl, fun acc _ ha => by
    have ha : acc = (ds.take ds.length).map F := ha
    rw [ha, List.take_length]; exact q⟩
theorem LcQ.filt {f : List Sl → Dt → Option (List Sl)} {ds : List Dt} (p : Dt → Bool) (F : Dt → Dt) (hz : ds.length ≤ 100000)
    (h : ∀ d ∈ ds, ∃ ρ', f (wipeD ρ (own.map (·.2))) d = some ρ' ∧ DTb X scope ρ' tst (fun z => z = p d) ∧ (p d = true → DEb X scope ρ' elt fun r => r = F d)) (q : Q (.lst ((ds.filter p).map F))) :
    LcQ X scope own ρ f (fun ρ' acc P => DTb X scope ρ' tst fun z => (z = true → DEb X scope ρ' elt fun d => P (acc ++ [d])) ∧ (z = false → P acc)) ds Q :=
  ⟨hz, fun n acc => acc = ((ds.take n).filter p).map F, rfl, fun n d acc hd ha => by
    obtain ⟨ρ', h1, h2, h3⟩ := h d (List.mem_of_getElem? hd)
    refine ⟨ρ', h1, fun s H' C cl fp => (h2 s H' C cl fp).weak fun z hz => ⟨fun zt s H' C cl fp => (h3 (hz.symm.trans zt) s H' C cl fp).weak fun r hr => ?_, fun zf => ?_⟩⟩
    · have ha : acc = ((ds.take n).filter p).map F := ha
      show acc ++ [r] = ((ds.take (n + 1)).filter p).map F
      rw [hr, ha, List.take_succ, hd, List.filter_append, List.map_append]
      rw [show List.filter p (some d).toList = [d] by rw [Option.toList_some, List.filter_cons_of_pos (hz.symm.trans zt)]; rfl]; rfl
    · have ha : acc = ((ds.take n).filter p).map F := ha
      show acc = ((ds.take (n + 1)).filter p).map F
      rw [ha, List.take_succ, hd, List.filter_append, List.map_append]
      rw [show List.filter p (some d).toList = [] by rw [Option.toList_some, List.filter_cons_of_neg (by rw [← hz, zf]; exact Bool.false_ne_true)]; rfl, List.map_nil, List.append_nil], fun acc _ ha => by
    have ha : acc = ((ds.take ds.length).filter p).map F := ha
    rw [ha, List.take_length]; exact q⟩
end
end Z
set_option Elab.async false
set_option linter.all false
set_option maxRecDepth 100000
set_option maxHeartbeats 4000000
namespace Z
open PySem PySem.Spec PyProof.Rows L2 Evl Y
structure DEnds where
  nx : List Sl → Prop
  rt : Dt → Prop
  bk : List Sl → Prop := fun _ => False
  ct : List Sl → Prop := fun _ => False
  r1 : Dt → Prop := fun _ => False
  r2 : Dt → Dt → Prop := fun _ _ => False
/-- two new objects in a new tuple -/
structure Two (K : PySem.W.Frag) (H0 B H : Hp) (p : Addr) (d1 d2 : Dt) : Prop where
  ex : ∃ a1 a2, H p = some (.tup [.ref a1, .ref a2]) ∧ B a1 = none ∧ B a2 = none ∧ H0 a1 = none ∧ H0 a2 = none ∧ a1 ≠ a2 ∧ Od K B H a1 d1 ∧ Od K B H a2 d2
structure Lift (K : PySem.W.Frag) (H0 B0 : Hp) (E : DEnds) (D : Ends) : Prop where
  nx : ∀ ρ B σ H, E.nx ρ → Gr B0 H0 B H → En K H0 B ρ σ H → D.nx σ H
  rt : ∀ d B v H, E.rt d → Gr B0 H0 B H → Rp K B v d → D.rt v H
  bk : ∀ ρ B σ H, E.bk ρ → Gr B0 H0 B H → En K H0 B ρ σ H → D.bk σ H
  ct : ∀ ρ B σ H, E.ct ρ → Gr B0 H0 B H → En K H0 B ρ σ H → D.ct σ H
  r1 : ∀ d B a H, E.r1 d → Gr B0 H0 B H → B a = none → H0 a = none → Od K B H a d → D.rt (.ref a) H
  r2 : ∀ d1 d2 B p H, E.r2 d1 d2 → Gr B0 H0 B H → Two K H0 B H p d1 d2 → D.rt (.ref p) H
/-- a block runs to its ends -/
structure DS (X : Cx) (ρ : List Sl) (ss : List Stmt) (E : DEnds) : Prop where
  run : ∀ H0 B0 B σ H D, Gr B0 H0 B H → En X.K H0 B ρ σ H → Lift X.K H0 B0 E D → semS X ss D σ H
/-- the frozen part as where one has come from -/
noncomputable def root (B H0 : Hp) : Hp := fun a => match B a with
  | some o => some o
  | none => H0 a
section
variable {K : PySem.W.Frag} {B0 B Bn H0 H H' : Hp} {ρ ρ' : List Sl} {σ σ' : L2.St}
theorem root_none {a : Addr} (h : B a = none) : root B H0 a = H0 a := by unfold root; rw [h]
theorem root_sub (s : Ex B H) (h : Ex H0 H) : Ex (root B H0) H := fun a o e => by
  unfold root at e
  split at e
  · rename_i q; cases e; exact s _ _ q
  · exact h _ _ e
theorem root_ex (s : Ex B H) (h : Ex H0 H) : Ex H0 (root B H0) := fun a o e => by
  unfold root
  split
  · rename_i q; rw [← h _ _ e, s _ _ q]
  · exact e
theorem Gr.root (g : Gr B0 H0 B H) : Gr B (Z.root B H0) B H := ⟨Ex.refl _, root_sub g.s g.h, g.s, fun _ _ _ _ q => q⟩
theorem Gr.unroot (g : Gr B0 H0 B H) (g2 : Gr B (Z.root B H0) Bn H') : Gr B0 H0 Bn H' := ⟨g.b.trans g2.b, (root_ex g.s g.h).trans g2.h, g2.s, fun a u h m q => g2.o a u (by rw [root_none (g.o a u h m q)]; exact h) m (g.o a u h m q)⟩
theorem En.root (E : En K H0 B ρ σ H) : En K (Z.root B H0) B ρ σ H := ⟨E.ex, E.len, E.fr, fun i d h => by
  obtain ⟨p, a, b, c, o⟩ := E.ow i d h
  exact ⟨p, a, b, (root_none b).trans c, o⟩, E.sep⟩
theorem En.unroot (g : Gr B0 H0 B H) (E : En K (Z.root B H0) Bn ρ' σ' H') : En K H0 Bn ρ' σ' H' := ⟨E.ex, E.len, E.fr, fun i d h => by
  obtain ⟨p, a, b, c, o⟩ := E.ow i d h
  refine ⟨p, a, b, ?_, o⟩
  cases e : H0 p with
  | none => rfl
  | some u => exact absurd ((root_ex g.s g.h _ _ e).symm.trans c) nofun, E.sep⟩
theorem root_less {a : Addr} (g : Gr B0 H0 B H) (h : Z.root B H0 a = none) : H0 a = none := by
  cases e : H0 a with
  | none => rfl
  | some u => exact absurd ((root_ex g.s g.h _ _ e).symm.trans h) nofun
theorem En.more (E : En K H0 B ρ σ H) (e : Ex H H') : En K H0 B ρ σ H' := E.gr (Gr.more E.ex e)
end
section
variable {X : Cx} {ρ : List Sl} {e a b c o elt tst iter tg : Expr} {es : List Expr} {Q Q' : Dt → Prop} {H0 B B0 B2 H H2 : Hp} {σ : L2.St} {i j : Nat} {d : Dt} {pos pos' p2 q1 q2 apos cpos spos px py pt : Pos} {nm : Str} {rest ss tt body : List Stmt} {E : DEnds} {D : Ends} {js : List Nat} {f : List Sl → Dt → Option (List Sl)}
theorem DS.rx (h : DS X ρ ss E) (g : Gr B0 H0 B H) (En : En X.K H0 B ρ σ H) (L : Lift X.K H0 B0 E D) : RX X ss D σ H := ⟨fun H1 e1 => h.run H0 B0 B σ H1 D (g.trans (Gr.more g.s e1)) (En.more e1) L⟩
theorem s_nil (q : E.nx ρ) : DS X ρ [] E := ⟨fun H0 B0 B σ H D g En L => semS_of pss_nil (L.nx ρ B σ H q g En)⟩
theorem s_set (i : Nat) (h : DE X ρ e fun d => DS X (ρ.set i (.fr d)) rest E) (hN : X.N.Nodup) (hi : X.N[i]? = some nm := by rfl) (hx : Loc X.env.scope nm := by first | exact Or.inl rfl | exact Or.inr rfl)
    (hs : swapsWith e (some (.Name nm pos')) pos.line X.env = pure false := by rfl) (hf : X.fn nm = true ∨ X.env.scope.names.lookup nm = some .local := by first | exact .inl rfl | exact .inr rfl) : DS X ρ (.Assign [.Name nm pos'] e pos :: rest) E :=
  ⟨fun H0 B0 B σ H D g En L => semS_of (pss_cons (ps_set hN hi hx pe_sem hs hf) pss_sem) (h.go En fun B2 v d H2 g2 E2 r q => q.run H0 B0 B2 _ H2 D (g.trans g2) (E2.set r) L)⟩
/-- a new object of one's own is no slot's -/
theorem En.noSlot {K : PySem.W.Frag} {p : Addr} (E1 : En K H0 B ρ σ H) (hp : H p = none) : ∀ (j : Nat) (d : Dt), ρ[j]? = some (Sl.ow d) → σ[j]? = some (some (V.ref p)) → j = i := fun j d h1 h2 => by
  obtain ⟨q, a, _, _, od⟩ := E1.ow j d h1
  rw [h2] at a
  cases a
  obtain ⟨u, hu, _⟩ := od.mut
  rw [hp] at hu; cases hu
theorem s_setO (i : Nat) (h : DN X ρ e fun d => DS X (ρ.set i (.ow d)) rest E) (hN : X.N.Nodup) (hi : X.N[i]? = some nm := by rfl) (hx : Loc X.env.scope nm := by first | exact Or.inl rfl | exact Or.inr rfl)
    (hs : swapsWith e (some (.Name nm pos')) pos.line X.env = pure false := by rfl) (hf : X.fn nm = true ∨ X.env.scope.names.lookup nm = some .local := by first | exact .inl rfl | exact .inr rfl) : DS X ρ (.Assign [.Name nm pos'] e pos :: rest) E :=
  ⟨fun H0 B0 B σ H D g En L => semS_of (pss_cons (ps_set hN hi hx pe_sem hs hf) pss_sem) (h.go En fun B2 p d H2 g2 E2 hp hb od q => q.run H0 B0 B2 _ H2 D (g.trans g2) (E2.setO hb (fresh_back g.h hp) od (Z.En.noSlot En hp)) L)⟩
/-- a, b = e -/
theorem s_asg {tg : Expr} (h : DE X ρ e fun d => ∃ ρ', f ρ d = some ρ' ∧ DS X ρ' rest E) (hg : DG X tg js f) (hs : swapsWithSole [tg] e pos.line X.env = pure false := by rfl) (hw : swappedStores [tg] e X.env = pure none := by rfl)
    (h1 : (assignEach [tg] X.env).map (·.2) = [assign tg X.env] := by rfl) : DS X ρ (.Assign [tg] e pos :: rest) E := by
  obtain ⟨gt, pg, gg⟩ := hg.ex
  exact ⟨fun H0 B0 B σ H D g En L => semS_of (pss_cons (ps_asg pe_sem pg hs hw h1) pss_sem) (h.go En fun B2 v d H2 g2 E2 r ⟨ρ', hf, q⟩ => gg H0 B2 ρ σ H2 v d ρ' _ E2 r hf fun σ' E3 _ => q.run H0 B0 B2 σ' H2 D (g.trans g2) E3 L)⟩
/-- a, b = x, y -/
theorem s_par {kt k2 : Nat} {pt2 : Pos} {nx ny : Str} (i j : Nat) (h : DL X ρ [a, b] fun ds => ∃ x y, ds = [x, y] ∧ DS X ((ρ.set i (.fr x)).set j (.fr y)) rest E) (hc : X.calm = true) (hN : X.N.Nodup) (hij : i ≠ j) (hi : X.N[i]? = some nx := by rfl) (hj : X.N[j]? = some ny := by rfl)
    (hx : X.env.scope.names.lookup nx = some .local := by rfl) (hy : X.env.scope.names.lookup ny = some .local := by rfl)
    (hw : swappedStores [.Tuple [.Name nx px, .Name ny py] kt pt] (.Tuple [a, b] k2 pt2) X.env = pure (some [nx, ny]) := by rfl) (hs : swapsWithSole [.Tuple [.Name nx px, .Name ny py] kt pt] (.Tuple [a, b] k2 pt2) pos.line X.env = pure false := by rfl) :
    DS X ρ (.Assign [.Tuple [.Name nx px, .Name ny py] kt pt] (.Tuple [a, b] k2 pt2) pos :: rest) E :=
  ⟨fun H0 B0 B σ H D g En L => semS_of (pss_cons (ps_par hc hN hi hj hij hx hy pa_sem hw hs) pss_sem) (h.go En fun B2 vs ds H2 g2 E2 rs ⟨x, y, ed, q⟩ => by
    subst ed
    cases rs with
    | cons r1 t => cases t with
      | cons r2 t => cases t; exact ⟨_, _, rfl, q.run H0 B0 B2 _ H2 D (g.trans g2) ((E2.set r1).set r2) L⟩)⟩
theorem s_if (h : DT X ρ c fun z => (z = true → DS X ρ ss { E with nx := fun ρ' => DS X ρ' rest E }) ∧ (z = false → DS X ρ tt { E with nx := fun ρ' => DS X ρ' rest E })) : DS X ρ (.If c ss tt pos :: rest) E :=
  ⟨fun H0 B0 B σ H D g En L => semS_of (pss_cons (ps_if pt_sem pss_sem pss_sem) pss_sem) (h.go En fun B2 z H2 g2 E2 q => by
    have L' : Lift X.K H0 B0 { E with nx := fun ρ' => DS X ρ' rest E } { D with nx := semS X rest D } := ⟨fun ρ' B σ H q g E => q.run H0 B0 B σ H D g E L, L.rt, L.bk, L.ct, L.r1, L.r2⟩
    cases z with
    | true => exact (q.1 rfl).run H0 B0 B2 σ H2 _ (g.trans g2) E2 L'
    | false => exact (q.2 rfl).run H0 B0 B2 σ H2 _ (g.trans g2) E2 L')⟩
/-- an if without else -/
theorem s_when (h : DT X ρ c fun z => (z = true → DS X ρ ss { E with nx := fun ρ' => DS X ρ' rest E }) ∧ (z = false → DS X ρ rest E)) : DS X ρ (.If c ss [] pos :: rest) E := s_if (h.weak fun z q => ⟨q.1, fun y => s_nil (q.2 y)⟩)
theorem s_ret (h : DE X ρ e E.rt) : DS X ρ (.Return (some e) pos :: rest) E :=
  ⟨fun H0 B0 B σ H D g En L => semS_of (pss_cons (ps_ret pe_sem) pss_sem) (h.go En fun B2 v d H2 g2 E2 r q => L.rt d B2 v H2 q (g.trans g2) r)⟩
theorem s_expr (h : DA X ρ e fun _ => DS X ρ rest E) (hs : swapsWith e none pos.line X.env = pure false := by rfl) : DS X ρ (.Expr e pos :: rest) E :=
  ⟨fun H0 B0 B σ H D g En L => semS_of (pss_cons (ps_expr pe_sem hs) pss_sem) (h.go En fun B2 v d H2 g2 E2 r q => q.run H0 B0 B2 σ H2 D (g.trans g2) E2 L)⟩
/-- an object of one's own is frozen -/
theorem s_freeze (i : Nat) {d : Dt} (hi : ρ[i]? = some (.ow d)) (h : DS X (ρ.set i (.fr d)) ss E) : DS X ρ ss E :=
  ⟨fun H0 B0 B σ H D g En L => by
    obtain ⟨B2, E2, k⟩ := En.freeze hi
    exact h.run H0 B0 B2 σ H D (k B0 g) E2 L⟩
/-- xs.append(e) of a list of one's own -/
theorem s_append (i : Nat) {x : Str} {ds : List Dt} (hi : ρ[i]? = some (.ow (.lst ds))) (h : DE X ρ e fun d => ds.length < 100000 ∧ DS X (ρ.set i (.ow (.lst (ds ++ [d])))) rest E) (hN : X.N[i]? = some x := by rfl) (hv : Vis X.env.scope x := by first | exact Or.inl rfl | exact Or.inr (Or.inl rfl) | exact Or.inr (Or.inr rfl))
    (hd : (x == ("__debug__" : Str)) = false := by decide) (hcd : (x == ("__classdict__" : Str)) = false := by decide)
    (hbase : attributeBase (.Name x px) "append" X.env (eval (.Name x px) X.env) = eval (.Name x px) X.env := by rfl)
    (hfew : ((backTo cpos (starEach [e] X.env)).all (fun x => !x.1) && (backToKw cpos (keywordEach [] X.env)).all (fun x => x.1.isSome) && decide (([e] : List Expr).length + ([] : List Keyword).length + (if ([] : List Keyword).isEmpty then 0 else 1) < 30)) = true := by rfl)
    (hline : (apos.endLine == cpos.line) = true := by rfl) (hst : starEach [e] X.env = (false, eval e X.env) :: starEach [] X.env := by rfl) (hplain : (backTo cpos (starEach [] X.env)).any (·.1) = false := by rfl)
    (hs : swapsWith (.Call (.Attribute (.Name x px) "append" apos) [e] [] cpos) none pos.line X.env = pure false := by rfl) : DS X ρ (.Expr (.Call (.Attribute (.Name x px) "append" apos) [e] [] cpos) pos :: rest) E :=
  ⟨fun H0 B0 B σ H D g En L => by
    obtain ⟨p, hσ, hb, h0, xs, hp, rs⟩ := En.ow i _ hi
    refine (rx_exprM (em_append (l := p) (xs := xs) (ev_nm i hσ hN hv hd hcd) ⟨fun H1 e1 => (h.go (En.more e1) fun B2 v d H2 g2 E2 r q => ⟨H2, Ex.refl _, xs, ?_, ?_, ?_⟩)⟩ hp hbase hfew hline hst hplain) hs).run H (Ex.refl H)
    · exact g2.h _ _ (e1 _ _ hp)
    · rw [rs.len]; exact q.1
    · have g3 := (g.trans (Gr.more g.s e1)).trans g2
      have nb : B2 p = none := g2.o p _ (e1 _ _ hp) rfl hb
      have hp2 : H2 p = some (.lst xs) := g2.h _ _ (e1 _ _ hp)
      have E3 := E2.put (o := .lst (xs ++ [v])) (d' := .lst (ds ++ [d])) hi hσ ⟨_, upd_same, (rs.ex g2.b).app (.cons r .nil)⟩
      exact q.2.rx ⟨g3.b, Ex.mut g3.h h0, Ex.mut g3.s nb, g3.o⟩ E3 L⟩
/-- for .. in ..: -/
theorem s_for (hp : PassesOwn (model X.prog X.w) X.A X.env X.xe) (hc : X.calm = true) (hg : DG X tg js f)
    (hi : DI X ρ tg iter fun ds => ∃ I : Nat → List Sl → Prop, I 0 ρ ∧ (∀ n d ρ1, ds[n]? = some d → I n ρ1 → ∃ ρ2, f ρ1 d = some ρ2 ∧ DS X ρ2 body { E with nx := I (n + 1), ct := I (n + 1), bk := fun ρ3 => DS X ρ3 rest E }) ∧ ∀ ρ1, I ds.length ρ1 → DS X ρ1 rest E) :
    DS X ρ (.For tg iter body [] pos :: rest) E := by
  obtain ⟨wi, pi, hw⟩ := hi.ex
  obtain ⟨gt, pg, gg⟩ := hg.ex
  refine ⟨fun H0 B0 B σ H D g En L => semS_of (pss_cons (ps_for hp hc pi pg pss_sem hi.fo) pss_sem) (hw H0 B σ H _ En fun B2 H2 J ds g2 E2 w q => ?_)⟩
  obtain ⟨I, i0, is, id⟩ := q
  obtain ⟨G, Y, wk, hG, hY⟩ := w
  have g0 := g.trans g2
  refine for_it wk (fun n σ' H' => ∃ Bn ρn, Gr B2 (root B2 H0) Bn H' ∧ Z.En X.K (root B2 H0) Bn ρn σ' H' ∧ I n ρn) ⟨B2, ρ, g0.root, E2.root, i0⟩ ?_ ?_ ?_
  · rintro n σ' H' _ ⟨Bn, ρn, g1, _⟩
    exact hG H' (g1.b.trans g1.s)
  · rintro n x σ' H' H'' hn ⟨Bn, ρn, g1, E1, p1⟩ y
    obtain ⟨Bm, d, g3, hd, rd⟩ := hY n H' x H'' Bn hn g1.b g1.s y
    obtain ⟨ρ2, hf, bd⟩ := is n d ρn hd p1
    refine gg _ Bm ρn σ' H'' x d ρ2 _ (E1.gr g3) rd hf fun σ'' E4 _ => bd.run _ B2 Bm σ'' H'' _ (g1.trans g3) E4 ⟨fun ρ5 B5 σ5 H5 q5 g5 E5 => ⟨B5, ρ5, g5, E5, q5⟩, fun d5 B5 v5 H5 q5 g5 r5 => L.rt d5 B5 v5 H5 q5 (g0.unroot g5) r5, fun ρ5 B5 σ5 H5 q5 g5 E5 => q5.run H0 B0 B5 σ5 H5 D (g0.unroot g5) (Z.En.unroot g0 E5) L, fun ρ5 B5 σ5 H5 q5 g5 E5 => ⟨B5, ρ5, g5, E5, q5⟩, fun d5 B5 a5 H5 q5 g5 n5 h5 o5 => L.r1 d5 B5 a5 H5 q5 (g0.unroot g5) n5 (root_less g0 h5) o5, fun d5 e5 B5 p5 H5 q5 g5 ⟨a1, a2, t1, t2, t3, t4, t5, t6, t7, t8⟩ => L.r2 d5 e5 B5 p5 H5 q5 (g0.unroot g5) ⟨a1, a2, t1, t2, t3, root_less g0 t4, root_less g0 t5, t6, t7, t8⟩⟩
  · rintro σ' H' ⟨Bn, ρn, g1, E1, p1⟩
    exact (id ρn p1).run H0 B0 Bn σ' H' D (g0.unroot g1) (Z.En.unroot g0 E1) L
end
/-! ### a def, by data -/
def startD (N : List Str) (ds : List Dt) : List Sl := ds.map Sl.fr ++ List.replicate (N.length - ds.length) Sl.un
theorem en_start {K : PySem.W.Frag} {H0 B H : Hp} {N : List Str} {vs : List V} {ds : List Dt} (s : Ex B H) (r : RpL K B vs ds) : En K H0 B (startD N ds) (L2.start N vs) H := by
  have hl := r.len
  have g : ∀ (i : Nat) (x : Sl), x ≠ .un → (startD N ds)[i]? = some x → ∃ d, ds[i]? = some d ∧ x = .fr d := fun i x n h => by
    unfold startD at h
    by_cases z : i < ds.length
    · rw [List.getElem?_append_left (by rw [List.length_map]; exact z), List.getElem?_map, List.getElem?_eq_getElem z] at h
      cases h
      exact ⟨_, List.getElem?_eq_getElem z, rfl⟩
    · rw [List.getElem?_append_right (by rw [List.length_map]; omega)] at h
      exact absurd (List.eq_of_mem_replicate (List.mem_of_getElem? h)) n
  refine ⟨s, ?_, fun i d h => ?_, fun i d h => ?_, fun i j d d' p n h1 h2 h3 h4 => ?_⟩
  · unfold L2.start startD
    rw [List.length_append, List.length_append, List.length_map, List.length_map, List.length_replicate, List.length_replicate, hl]
  · obtain ⟨d', hd, e⟩ := g i (.fr d) nofun h
    cases e
    obtain ⟨v, hv, rv⟩ := r.at' hd
    refine ⟨v, ?_, rv⟩
    unfold L2.start
    have hi := (List.getElem?_eq_some_iff.mp hv).1
    rw [List.getElem?_append_left (by rw [List.length_map]; exact hi), List.getElem?_map, hv]; rfl
  · obtain ⟨d', hd, e⟩ := g i (.ow d) nofun h
    cases e
  · obtain ⟨d', hd, e⟩ := g i (.ow d) nofun h1
    cases e
section
variable {P : Program} {w : World} {K : PySem.W.Frag} {mg : Str → Option Value} {base : Heap} {nm : Str} {st : Stmt} {N ps : List Str} {k : Nat} {S : List Dt → (Dt → Prop) → Prop}
theorem Gr.back {B H H1 B2 H2 : Hp} (e : Ex H H1) (g : Gr B H1 B2 H2) : Gr B H B2 H2 := ⟨g.b, e.trans g.h, g.s, fun a u h m q => g.o a u (e _ _ h) m q⟩
theorem ownD (D : Def K mg nm st) (Sc : FnScope N ps (defScope st)) (mono : ∀ ds (Q Q' : Dt → Prop), (∀ d, Q d → Q' d) → S ds Q → S ds Q') (hlen : ∀ ds Q, S ds Q → ds.length = ps.length)
    (hb : ∀ (kV doc pm : Value) (an : Option Addr) (cdv ct : Value) (us : List Value), us.length = ps.length → bindArgs (PySem.W.fnOf nm nm (defArgs st) (defBody st) (defScope st) .none kV doc pm an cdv ct) ⟨us, []⟩ = pure (ps.zip us))
    (hbody : ∀ (X : Cx) (ds : List Dt) (Q : Dt → Prop), (∃ (f : Addr) (cdv : Value) (A : Around) (outer : List Env) (s : Shared) (H : Hp) (E : XK), X = (cxOf CX0 P w K mg base N nm (defScope st) f cdv A outer s H E).nox) → Room k X.A → S ds Q → DS X (startD N ds) (defBody st) { nx := fun _ => Q .non, rt := Q }) :
    OwnD P w K mg base nm ps (k + 1) S := by
  refine ⟨D.own Sc (fun vs H Q E h => ?_) hb ?_, mono⟩
  · obtain ⟨B, ds, _, r, h⟩ := h
    rw [r.len]; exact hlen _ _ h
  · rintro X H vs Q E ⟨f, cdv, A, outer, s, rfl⟩ hr h
    obtain ⟨B, ds, e, r, h⟩ := h
    refine ⟨fun H1 e1 => ?_⟩
    refine (hbody _ ds _ ⟨f, cdv, A, outer, s, H, E, rfl⟩ hr h).run H1 B B _ H1 _ (Gr.refl (e.trans e1)) (en_start (e.trans e1) r) ⟨fun ρ B2 σ H2 q g E => q B2 .non H2 (Gr.back e1 g) .non, fun d B2 v H2 q g r => q B2 v H2 (Gr.back e1 g) r, fun _ _ _ _ q => q.elim, fun _ _ _ _ q => q.elim, fun _ _ _ _ q => q.elim, fun _ _ _ _ _ q => q.elim⟩
theorem Two.back {K : PySem.W.Frag} {H H1 B H2 : Hp} {p : Addr} {d1 d2 : Dt} (e : Evl.Ex H H1) (t : Two K H1 B H2 p d1 d2) : Two K H B H2 p d1 d2 := by
  obtain ⟨a1, a2, t1, t2, t3, t4, t5, t6, t7, t8⟩ := t
  exact ⟨a1, a2, t1, t2, t3, fresh_back e t4, fresh_back e t5, t6, t7, t8⟩
end
end Z
set_option Elab.async false
set_option linter.all false
set_option maxRecDepth 100000
set_option maxHeartbeats 4000000
/-! Lists and dicts of one's own that change; comprehensions on the line of their name; while; ranges from their end. -/
namespace Z
open PySem PySem.Spec PyProof.Rows L2 Evl Y
section
variable {X : Cx} {ρ : List Sl} {e a b c o elt tst iter tg kx vx : Expr} {es : List Expr} {Q Q' : Dt → Prop} {H0 B B0 B2 H H2 : Hp} {σ : L2.St} {i j : Nat} {d : Dt} {pos pos' p2 q1 q2 apos cpos spos px py pt : Pos} {nm x : Str} {rest ss tt body : List Stmt} {E : DEnds} {D : Ends} {js : List Nat} {f : List Sl → Dt → Option (List Sl)} {scope : Scope} {own : List (Str × Nat)}
/-! ### y = [..] on one line -/
theorem s_setLc {js : List Nat} {f : List Sl → Dt → Option (List Sl)} (i : Nat) (hc : X.calm = true) (hN : X.N.Nodup) (ok : BlkOk X.N X.env.scope scope own) (hg : DGb X scope tg js f) (hj : ∀ j ∈ js, j ∈ own.map (·.2))
    (hi : DI X ρ tg iter fun ds => LcQ X scope own ρ f (fun ρ' acc P => DEb X scope ρ' elt fun d => P (acc ++ [d])) ds fun d => DS X (ρ.set i (.ow d)) rest E)
    (hy : X.N[i]? = some nm := by rfl) (hyl : X.env.scope.names.lookup nm = some .local := by rfl) (hsw : swapsWith (.ListComp elt [⟨tg, iter, [], 0⟩] scope pos) (some (.Name nm py)) spos.line X.env = pure true := by rfl) :
    DS X ρ (.Assign [.Name nm py] (.ListComp elt [⟨tg, iter, [], 0⟩] scope pos) spos :: rest) E := by
  obtain ⟨wi, pi, hw⟩ := hi.ex
  obtain ⟨g, pg, gg⟩ := hg
  refine ⟨fun H0 B0 B σ H D g0 En L => semS_of (pss_cons (ps_setLc hc hN hy hyl hsw pi ok pg (fun _ _ _ _ _ => pts_nil) (fun s H' C cl fp => pe_blk s H' C cl fp) hi.fo) pss_sem) (hw H0 B σ H _ En fun B2 H2 J ds g2 E2 w q A hA => ?_)⟩
  refine lc_run gg hj E2 w hA q (fun ρ' σ' B' H' acc P R N E' bd k1 k2 => ?_) fun B3 H3 acc g3 n3 o3 q3 => ?_
  · exact iteT (B := N H') fun s H'' C cl fp => (bd s H'' C cl fp).go E' fun B3 v d H3 g3 _ r3 q3 => k1 B3 d H3 g3 v r3 q3
  · exact q3.run H0 B0 B3 _ H3 D ((g0.trans g2).trans g3) ((E2.gr g3).setO n3 (fresh_back (g0.trans g2).h hA) o3 (Z.En.noSlot (i := i) (En.gr g2) hA)) L
/-! ### ranges from their end -/
/-! ### expressions that change what is one's own -/
structure DM (X : Cx) (ρ : List Sl) (e : Expr) (Q : Dt → List Sl → Prop) : Prop where
  run : ∀ H0 B0 B σ H, Gr B0 H0 B H → En X.K H0 B ρ σ H → semE X e σ H fun v H2 => ∃ B2 d ρ', Gr B0 H0 B2 H2 ∧ En X.K H0 B2 ρ' σ H2 ∧ Rp X.K B2 v d ∧ Q d ρ'
theorem RpL.erase {K : PySem.W.Frag} {vs : List V} {ds : List Dt} (r : RpL K B vs ds) (k : Nat) : RpL K B (vs.eraseIdx k) (ds.eraseIdx k) := by
  rw [List.eraseIdx_eq_take_drop_succ, List.eraseIdx_eq_take_drop_succ]
  exact (r.take k).app (r.drop (k + 1))
/-- what is one's own at a slot changes -/
theorem Gr.mutO {B0 H0 B2 H2 : Hp} {p : Addr} {o : HO} (g : Gr B0 H0 B2 H2) (nb : B2 p = none) (h0 : H0 p = none) : Gr B0 H0 B2 (upd H2 p o) := ⟨g.b, Ex.mut g.h h0, Ex.mut g.s nb, g.o⟩
theorem m_popAt (i : Nat) {ds : List Dt} {Q : Dt → List Sl → Prop} (hi : ρ[i]? = some (.ow (.lst ds))) (h : DE X ρ e fun z => ∃ n k d, z = .int n ∧ (-(2 ^ 63) ≤ n ∧ n < 2 ^ 63) ∧ seqIndex? n ds.length = some k ∧ ds[k]? = some d ∧ Q d (ρ.set i (.ow (.lst (ds.eraseIdx k))))) (hN : X.N[i]? = some x := by rfl) (hv : Vis X.env.scope x := by first | exact Or.inl rfl | exact Or.inr (Or.inl rfl) | exact Or.inr (Or.inr rfl))
    (hd : (x == ("__debug__" : Str)) = false := by decide) (hcd : (x == ("__classdict__" : Str)) = false := by decide)
    (hbase : attributeBase (.Name x px) "pop" X.env (eval (.Name x px) X.env) = eval (.Name x px) X.env := by rfl)
    (hfew : ((backTo cpos (starEach [e] X.env)).all (fun x => !x.1) && (backToKw cpos (keywordEach [] X.env)).all (fun x => x.1.isSome) && decide (([e] : List Expr).length + ([] : List Keyword).length + (if ([] : List Keyword).isEmpty then 0 else 1) < 30)) = true := by rfl)
    (hline : (apos.endLine == cpos.line) = true := by rfl) (hst : starEach [e] X.env = (false, eval e X.env) :: starEach [] X.env := by rfl) (hplain : (backTo cpos (starEach [] X.env)).any (·.1) = false := by rfl) :
    DM X ρ (.Call (.Attribute (.Name x px) "pop" apos) [e] [] cpos) Q :=
  ⟨fun H0 B0 B σ H g E => by
    obtain ⟨p, hσ, hb, h0, xs, hp, rs⟩ := E.ow i _ hi
    refine sem_of (pe_bm PySem.F.plainAttrs_list PySem.F.slot_list_pop PySem.F.type_list_pop mt_popAt pe_sem (pa_cons pe_sem pa_nil hst) hbase hfew hline hst hplain) ?_
    refine EV.ev (ev_nm i hσ hN hv hd hcd) H (Ex.refl _) _ fun H1 e1 => ⟨Or.inl ⟨rfl, xs, sq_of (e1 _ _ hp)⟩, h.go (E.more e1) fun B2 v z H2 g2 E2 r q => ?_⟩
    obtain ⟨n, k, d, rfl, hn, hk, hd, q⟩ := q
    cases r
    have hp2 : H2 p = some (.lst xs) := g2.h _ _ (e1 _ _ hp)
    have nb : B2 p = none := g2.o p _ (e1 _ _ hp) rfl hb
    obtain ⟨y, hy, ry⟩ := (rs.ex g2.b).at' hd
    have g3 := (g.trans (Gr.more g.s e1)).trans g2
    exact ⟨p, xs, n, k, y, rfl, rfl, hp2, hn.1, hn.2, by rw [rs.len]; exact hk, hy, B2, d, _, g3.mutO nb h0, E2.put (d' := .lst (ds.eraseIdx k)) hi hσ ⟨_, upd_same, (rs.ex g2.b).erase k⟩, ry, q⟩⟩
/-- xs.append(e), e changing something else of one's own -/
theorem s_appendM (i : Nat) {ds : List Dt} (hi : ρ[i]? = some (.ow (.lst ds))) (h : DM X ρ e fun d ρ' => ∃ ds', ρ'[i]? = some (.ow (.lst ds')) ∧ ds'.length < 100000 ∧ DS X (ρ'.set i (.ow (.lst (ds' ++ [d])))) rest E) (hN : X.N[i]? = some x := by rfl) (hv : Vis X.env.scope x := by first | exact Or.inl rfl | exact Or.inr (Or.inl rfl) | exact Or.inr (Or.inr rfl))
    (hd : (x == ("__debug__" : Str)) = false := by decide) (hcd : (x == ("__classdict__" : Str)) = false := by decide)
    (hbase : attributeBase (.Name x px) "append" X.env (eval (.Name x px) X.env) = eval (.Name x px) X.env := by rfl)
    (hfew : ((backTo cpos (starEach [e] X.env)).all (fun x => !x.1) && (backToKw cpos (keywordEach [] X.env)).all (fun x => x.1.isSome) && decide (([e] : List Expr).length + ([] : List Keyword).length + (if ([] : List Keyword).isEmpty then 0 else 1) < 30)) = true := by rfl)
    (hline : (apos.endLine == cpos.line) = true := by rfl) (hst : starEach [e] X.env = (false, eval e X.env) :: starEach [] X.env := by rfl) (hplain : (backTo cpos (starEach [] X.env)).any (·.1) = false := by rfl)
    (hs : swapsWith (.Call (.Attribute (.Name x px) "append" apos) [e] [] cpos) none pos.line X.env = pure false := by rfl) : DS X ρ (.Expr (.Call (.Attribute (.Name x px) "append" apos) [e] [] cpos) pos :: rest) E :=
  ⟨fun H0 B0 B σ H D g En L => by
    obtain ⟨p, hσ, hb, h0, xs, hp, rs⟩ := En.ow i _ hi
    refine (rx_exprM (em_append (l := p) (xs := xs) (ev_nm i hσ hN hv hd hcd) ⟨fun H1 e1 => sem_mono (h.run H0 B0 B σ H1 (g.trans (Gr.more g.s e1)) (En.more e1)) fun v H2 ⟨B2, d, ρ', g2, E2, r, ds', hi', hz, q⟩ => ⟨H2, Ex.refl _, ?_⟩⟩ hp hbase hfew hline hst hplain) hs).run H (Ex.refl H)
    obtain ⟨p', hσ', hb', h0', xs', hp', rs'⟩ := E2.ow i _ hi'
    rw [hσ] at hσ'
    cases hσ'
    exact ⟨xs', hp', by rw [rs'.len]; exact hz, q.rx (g2.mutO hb' h0) (E2.put (d' := .lst (ds' ++ [d])) hi' hσ ⟨_, upd_same, rs'.app (.cons r .nil)⟩) L⟩⟩
/-- xs.extend(e), e a list that is new -/
theorem s_extend (i : Nat) {ds : List Dt} (hi : ρ[i]? = some (.ow (.lst ds))) (h : DN X ρ e fun d => ∃ es, d = .lst es ∧ ds.length + es.length ≤ 100000 ∧ DS X (ρ.set i (.ow (.lst (ds ++ es)))) rest E) (hN : X.N[i]? = some x := by rfl) (hv : Vis X.env.scope x := by first | exact Or.inl rfl | exact Or.inr (Or.inl rfl) | exact Or.inr (Or.inr rfl))
    (hd : (x == ("__debug__" : Str)) = false := by decide) (hcd : (x == ("__classdict__" : Str)) = false := by decide)
    (hbase : attributeBase (.Name x px) "extend" X.env (eval (.Name x px) X.env) = eval (.Name x px) X.env := by rfl)
    (hfew : ((backTo cpos (starEach [e] X.env)).all (fun x => !x.1) && (backToKw cpos (keywordEach [] X.env)).all (fun x => x.1.isSome) && decide (([e] : List Expr).length + ([] : List Keyword).length + (if ([] : List Keyword).isEmpty then 0 else 1) < 30)) = true := by rfl)
    (hline : (apos.endLine == cpos.line) = true := by rfl) (hst : starEach [e] X.env = (false, eval e X.env) :: starEach [] X.env := by rfl) (hplain : (backTo cpos (starEach [] X.env)).any (·.1) = false := by rfl)
    (hs : swapsWith (.Call (.Attribute (.Name x px) "extend" apos) [e] [] cpos) none pos.line X.env = pure false := by rfl) : DS X ρ (.Expr (.Call (.Attribute (.Name x px) "extend" apos) [e] [] cpos) pos :: rest) E :=
  ⟨fun H0 B0 B σ H D g En L => by
    obtain ⟨p, hσ, hb, h0, xs, hp, rs⟩ := En.ow i _ hi
    refine semS_of (pss_cons (ps_expr (pe_bm PySem.F.plainAttrs_list PySem.F.slot_list_extend PySem.F.type_list_extend mt_extend pe_sem (pa_cons pe_sem pa_nil hst) hbase hfew hline hst hplain) hs) pss_sem) ?_
    refine EV.ev (ev_nm i hσ hN hv hd hcd) H (Ex.refl _) _ fun H1 e1 => ⟨Or.inl ⟨rfl, xs, sq_of (e1 _ _ hp)⟩, h.go (En.more e1) fun B2 p2 d H2 g2 E2 hp2 hb2 od q => ?_⟩
    obtain ⟨es, rfl, hz, q⟩ := q
    obtain ⟨ys, hy, ry⟩ := od
    have hq : H2 p = some (.lst xs) := g2.h _ _ (e1 _ _ hp)
    have nb : B2 p = none := g2.o p _ (e1 _ _ hp) rfl hb
    have g3 := (g.trans (Gr.more g.s e1)).trans g2
    refine ⟨p, p2, xs, ys, rfl, rfl, hq, hy, sz_of (by rw [rs.len, ry.len]; exact hz), ?_⟩
    exact q.run H0 B0 B2 σ _ D (g3.mutO nb h0) (E2.put (d' := .lst (ds ++ es)) hi hσ ⟨_, upd_same, (rs.ex g2.b).app ry⟩) L⟩
/-! ### dicts of one's own -/
def putD (kvs : List (Key × Dt)) (k : Key) (d : Dt) : List (Key × Dt) := if (kvs.any fun kv => decide (kv.1 = k)) = true then kvs.map (fun kv => if kv.1 = k then (kv.1, d) else kv) else kvs ++ [(k, d)]
theorem RpK.any {K : PySem.W.Frag} {k : Key} : ∀ {ys : List (Key × V)} {kvs : List (Key × Dt)}, RpK K B ys kvs → (ys.any fun kv => decide (kv.1 = k)) = kvs.any fun kv => decide (kv.1 = k)
  | _, _, .nil => rfl
  | _, _, .cons r t => by rw [List.any_cons, List.any_cons, RpK.any t]
theorem RpK.app {K : PySem.W.Frag} : ∀ {ys zs : List (Key × V)} {kvs ls : List (Key × Dt)}, RpK K B ys kvs → RpK K B zs ls → RpK K B (ys ++ zs) (kvs ++ ls)
  | _, _, _, _, .nil, h => h
  | _, _, _, _, .cons r t, h => .cons r (RpK.app t h)
theorem RpK.mapPut {K : PySem.W.Frag} {k : Key} {v : V} {d : Dt} (r0 : Rp K B v d) : ∀ {ys : List (Key × V)} {kvs : List (Key × Dt)}, RpK K B ys kvs → RpK K B (ys.map (fun kv => if kv.1 = k then (kv.1, v) else kv)) (kvs.map (fun kv => if kv.1 = k then (kv.1, d) else kv))
  | _, _, .nil => .nil
  | _, _, .cons (k := k') r t => by
    rw [List.map_cons, List.map_cons]
    by_cases z : k' = k
    · rw [if_pos z, if_pos z]; exact .cons r0 (RpK.mapPut r0 t)
    · rw [if_neg z, if_neg z]; exact .cons r (RpK.mapPut r0 t)
theorem RpK.put {K : PySem.W.Frag} {k : Key} {v : V} {d : Dt} {ys : List (Key × V)} {kvs : List (Key × Dt)} (h : RpK K B ys kvs) (r : Rp K B v d) : RpK K B (putK ys k v) (putD kvs k d) := by
  unfold putK putD
  rw [h.any]
  split
  · exact h.mapPut r
  · exact h.app (.cons r .nil)
theorem RpK.len {K : PySem.W.Frag} : ∀ {ys : List (Key × V)} {kvs : List (Key × Dt)}, RpK K B ys kvs → ys.length = kvs.length
  | _, _, .nil => rfl
  | _, _, .cons r t => by rw [List.length_cons, List.length_cons, RpK.len t]
/-! ### while -/
end
end Z
set_option Elab.async false
set_option linter.all false
set_option maxRecDepth 100000
set_option maxHeartbeats 4000000
/-! dict comprehensions, data in lists, places in lists, parts of lists replaced. -/
namespace Z
open PySem PySem.Spec PyProof.Rows L2 Evl Y
section
variable {J : It} {n : Nat} {G : Hp → Prop} {Y : Nat → Hp → V → Hp → Prop}
theorem dc_it (w : Walk J n G Y) {g : TG} {tt : TT} {tk tv : TE} {vs : List Nat} {σ : L2.St} {H1 : Hp} {D : Addr} {Qd : Hp → Prop} (Pv : Nat → Hp → Prop) (h0 : Pv 0 (upd H1 D (.dK []))) (hG : ∀ i H, i ≤ n → Pv i H → G H)
    (hs : ∀ i x H H', i < n → Pv i H → Y i H x H' → g x (L2.wipe σ vs) H' fun σ2 H2 => L2.wipe σ2 vs = L2.wipe σ vs ∧ tt σ2 H2 fun b H3 =>
      if b = true then tk σ2 H3 fun y H4 => tv σ2 H4 fun z H5 => ∃ kvs k, y = kV k ∧ H5 D = some (.dK kvs) ∧ kvs.length < sizeLine ∧ Pv (i + 1) (upd H5 D (.dK (putK kvs k z))) else Pv (i + 1) H3) (hd : ∀ H, Pv n H → Qd H) :
    ∃ W : Nat → Nat → Hp → Prop, (∃ m, W 0 m (upd H1 D (.dK []))) ∧ ∀ i m H, W i m H →
      (J.stop i H ∧ Qd H) ∨ (J.go i H ∧ ∃ Nx : Hp → Prop, (∀ H', Nx H' → ∃ m', m' < m ∧ W (i + 1) m' H') ∧ ∀ x H', J.yld i H x H' → g x (L2.wipe σ vs) H' fun σ2 H2 => L2.wipe σ2 vs = L2.wipe σ vs ∧ tt σ2 H2 fun b H3 =>
        if b = true then tk σ2 H3 fun y H4 => tv σ2 H4 fun z H5 => ∃ kvs k, y = kV k ∧ H5 D = some (.dK kvs) ∧ kvs.length < sizeLine ∧ Nx (upd H5 D (.dK (putK kvs k z))) else Nx H3) := by
  refine ⟨fun i m H => m = n - i ∧ i ≤ n ∧ Pv i H, ⟨n, by simp, Nat.zero_le _, h0⟩, ?_⟩
  rintro i m H ⟨rfl, hi, p⟩
  have q := hG i H hi p
  by_cases hlt : i < n
  · refine .inr ⟨w.goes i H hlt q, Pv (i + 1), fun H' p' => ⟨n - (i + 1), by omega, rfl, hlt, p'⟩, fun x H' y => hs i x H H' hlt p (w.yields i H x H' hlt q y)⟩
  · have e : i = n := by omega
    subst e
    exact .inl ⟨w.stops H q, hd H p⟩
end
section
variable {X : Cx} {ρ : List Sl} {e a b c o elt tst iter tg kx vx : Expr} {es : List Expr} {Q Q' : Dt → Prop} {H0 B B0 B2 H H2 : Hp} {σ : L2.St} {i j : Nat} {d : Dt} {pos pos' p2 q1 q2 apos cpos spos px py pt : Pos} {nm x : Str} {rest ss tt body : List Stmt} {E : DEnds} {D : Ends} {js : List Nat} {f : List Sl → Dt → Option (List Sl)} {scope : Scope} {own : List (Str × Nat)}
theorem putD_len {kvs : List (Key × Dt)} {k : Key} {d : Dt} : (putD kvs k d).length ≤ kvs.length + 1 := by
  unfold putD
  split
  · rw [List.length_map]; omega
  · rw [List.length_append]; exact Nat.le_refl _
/-- the turns of a dict's comprehension -/
def DcQ (X : Cx) (scope : Scope) (own : List (Str × Nat)) (ρ : List Sl) (f : List Sl → Dt → Option (List Sl)) (body : List Sl → List (Key × Dt) → (List (Key × Dt) → Prop) → Prop) (ds : List Dt) (Q : Dt → Prop) : Prop :=
  ds.length ≤ 100000 ∧ ∃ A : Nat → List (Key × Dt) → Prop, A 0 [] ∧ (∀ n d acc, ds[n]? = some d → A n acc → ∃ ρ', f (wipeD ρ (own.map (·.2))) d = some ρ' ∧ body ρ' acc (A (n + 1))) ∧ ∀ acc, acc.length ≤ ds.length → A ds.length acc → Q (.dic acc)
theorem dc_run {js : List Nat} {f : List Sl → Dt → Option (List Sl)} {body : List Sl → List (Key × Dt) → (List (Key × Dt) → Prop) → Prop} {g : TG} {tt : TT} {tk tv : TE} {J : It} {ds : List Dt} {D : Addr} {Qd : Hp → Prop}
    (hg : ∀ H0 B ρ σ H x d ρ' (R : L2.St → Hp → Prop), En X.K H0 B ρ σ H → Rp X.K B x d → f ρ d = some ρ' → (∀ σ', En X.K H0 B ρ' σ' H → (∀ vs : List Nat, (∀ j ∈ js, j ∈ vs) → L2.wipe σ' vs = L2.wipe σ vs) → R σ' H) → g x σ H R)
    (hj : ∀ j ∈ js, j ∈ own.map (·.2)) (E : En X.K H0 B ρ σ H) (w : DWalk X.K J B ds) (hD : H D = none) (h : DcQ X scope own ρ f body ds Q)
    (hb : ∀ ρ' σ' B' H' acc (P : List (Key × Dt) → Prop) (R : V → V → Hp → Prop) (N : Hp → Prop), En X.K H0 B' ρ' σ' H' → body ρ' acc P → (∀ B3 k d H3, Gr B' H' B3 H3 → ∀ v, Rp X.K B3 v d → P (putD acc k d) → R (kV k) v H3) → (∀ B3 H3, Gr B' H' B3 H3 → P acc → N H3) → tt σ' H' fun b H3 => if b = true then tk σ' H3 fun y H4 => tv σ' H4 fun z H5 => R y z H5 else N H3)
    (hq : ∀ B3 H3 acc, Gr B H B3 H3 → B3 D = none → Od X.K B3 H3 D (.dic acc) → Q (.dic acc) → Qd H3) :
    ∃ W : Nat → Nat → Hp → Prop, (∃ m, W 0 m (upd H D (.dK []))) ∧ ∀ i m H, W i m H →
      (J.stop i H ∧ Qd H) ∨ (J.go i H ∧ ∃ Nx : Hp → Prop, (∀ H', Nx H' → ∃ m', m' < m ∧ W (i + 1) m' H') ∧ ∀ x H', J.yld i H x H' → g x (L2.wipe σ (own.map (·.2))) H' fun σ2 H2 => L2.wipe σ2 (own.map (·.2)) = L2.wipe σ (own.map (·.2)) ∧ tt σ2 H2 fun b H3 =>
        if b = true then tk σ2 H3 fun y H4 => tv σ2 H4 fun z H5 => ∃ kvs k, y = kV k ∧ H5 D = some (.dK kvs) ∧ kvs.length < sizeLine ∧ Nx (upd H5 D (.dK (putK kvs k z))) else Nx H3) := by
  obtain ⟨G, Y, wk, hG, hY⟩ := w
  obtain ⟨hz, A, a0, as, ad⟩ := h
  have hBD : B D = none := fresh_back E.ex hD
  refine dc_it wk (fun n H' => n ≤ ds.length ∧ ∃ Bn vs acc, Gr B H Bn H' ∧ Bn D = none ∧ H' D = some (.dK vs) ∧ RpK X.K Bn vs acc ∧ acc.length ≤ n ∧ A n acc) ⟨Nat.zero_le _, B, [], [], ⟨Ex.refl _, Ex.new hD, Ex.mut E.ex hBD, fun _ _ _ _ q => q⟩, hBD, upd_same, .nil, Nat.le_refl _, a0⟩ ?_ ?_ ?_
  · rintro n H' _ ⟨_, Bn, vs, acc, g1, _⟩
    exact hG H' (g1.b.trans g1.s)
  · rintro n x H' H'' hn ⟨_, Bn, vs, acc, g1, n1, h1, r1, l1, p1⟩ y
    obtain ⟨Bm, d, g2, hd, rd⟩ := hY n H' x H'' Bn hn g1.b g1.s y
    obtain ⟨ρ', hf, bd⟩ := as n d acc hd p1
    have E1 : En X.K H0 Bm (wipeD ρ (own.map (·.2))) (L2.wipe σ (own.map (·.2))) H'' := ((E.gr g1).gr g2).wipe _
    have nm : Bm D = none := g2.o D _ h1 rfl n1
    have hm : H'' D = some (.dK vs) := g2.h _ _ h1
    refine hg H0 Bm _ _ H'' x d ρ' _ E1 rd hf fun σ' E2 hw => ⟨?_, ?_⟩
    · rw [hw _ hj]
      exact wipe_idem
    · refine hb ρ' σ' Bm H'' acc (A (n + 1)) (fun y z H5 => ∃ kvs k, y = kV k ∧ H5 D = some (.dK kvs) ∧ kvs.length < sizeLine ∧ _) _ E2 bd (fun B3 k d' H3 g3 v rv pa => ?_) fun B3 H3 g3 pa => ?_
      · have gg := (g1.trans g2).trans g3
        have n3 : B3 D = none := g3.o D _ hm rfl nm
        have h3 : H3 D = some (.dK vs) := g3.h _ _ hm
        refine ⟨vs, k, rfl, h3, ?_, hn, B3, putK vs k v, putD acc k d', ⟨gg.b, Ex.mut gg.h hD, Ex.mut gg.s n3, gg.o⟩, n3, upd_same, ((r1.ex g2.b).ex g3.b).put rv, Nat.le_trans putD_len (Nat.add_le_add_right l1 1), pa⟩
        have := r1.len
        exact sz_lt (by omega)
      · exact ⟨hn, B3, vs, acc, (g1.trans g2).trans g3, g3.o D _ hm rfl nm, g3.h _ _ hm, (r1.ex g2.b).ex g3.b, Nat.le_succ_of_le l1, pa⟩
  · rintro H' ⟨_, Bn, vs, acc, g1, n1, h1, r1, l1, p1⟩
    exact hq Bn H' acc g1 n1 ⟨vs, h1, r1⟩ (ad acc l1 p1)
theorem n_dc {js : List Nat} {f : List Sl → Dt → Option (List Sl)} (hc : X.calm = true) (hN : X.N.Nodup) (ok : BlkOk X.N X.env.scope scope own) (hg : DGb X scope tg js f) (hj : ∀ j ∈ js, j ∈ own.map (·.2))
    (hi : DI X ρ tg iter fun ds => DcQ X scope own ρ f (fun ρ' acc P => DEb X scope ρ' kx fun z => ∃ k, keyD z = some k ∧ DEb X scope ρ' vx fun d => P (putD acc k d)) ds Q) : DN X ρ (.DictComp kx vx [⟨tg, iter, [], 0⟩] scope pos) Q := by
  obtain ⟨wi, pi, hw⟩ := hi.ex
  obtain ⟨g, pg, gg⟩ := hg
  refine ⟨fun H0 B σ H E => sem_of (pe_dc hc hN pi ok pg (fun _ _ _ _ _ => pts_nil) (fun s H' C cl fp => pe_blk s H' C cl fp) (fun s H' C cl fp => pe_blk s H' C cl fp) hi.fo) (hw H0 B σ H _ E fun B2 H2 J ds g2 E2 w q D hD => ?_)⟩
  refine dc_run gg hj E2 w hD q (fun ρ' σ' B' H' acc P R N E' bd k1 k2 => ?_) fun B3 H3 acc g3 n3 o3 q3 => ⟨B3, D, _, g2.trans g3, rfl, fresh_back g2.h hD, n3, o3, q3⟩
  exact iteT (B := N H') fun s H'' C cl fp => (bd s H'' C cl fp).go E' fun B3 v z H3 g3 E3 r3 ⟨k, hk, q3⟩ => by
    rw [r3.key hk]
    exact fun s H'' C cl fp => (q3 s H'' C cl fp).go E3 fun B4 u d H4 g4 _ r4 q4 => k1 B4 k d H4 (g3.trans g4) u r4 q4
/-- a if c else b, both new -/
theorem n_if (h : DT X ρ c fun x => (x = true → DN X ρ a Q) ∧ (x = false → DN X ρ b Q)) : DN X ρ (.IfExp c a b pos) Q :=
  ⟨fun H0 B σ H E => sem_of (pe_ifExp pt_sem pe_sem pe_sem) (h.go E fun B2 x H2 g E2 q => by
    cases x with
    | true => exact (q.1 rfl).go E2 fun B3 p d H3 g3 _ hp hb o q3 => ⟨B3, p, d, g.trans g3, rfl, fresh_back g.h hp, hb, o, q3⟩
    | false => exact (q.2 rfl).go E2 fun B3 p d H3 g3 _ hp hb o q3 => ⟨B3, p, d, g.trans g3, rfl, fresh_back g.h hp, hb, o, q3⟩)⟩
/-! ### data in lists -/
/-! ### l.index(x, n) -/
/-! ### x[a:c] = a new list -/
end
end Z
set_option Elab.async false
set_option linter.all false
set_option maxRecDepth 100000
set_option maxHeartbeats 4000000
/-! calls that hand back two new objects -/
namespace Z
open PySem PySem.Spec PyProof.Rows L2 Y
open Evl (Ex st_of sq_of ex_l ex_t fresh_back sz_of sz_lt)
end Z
set_option Elab.async false
set_option linter.all false
set_option maxRecDepth 100000
set_option maxHeartbeats 4000000
/-! name = {.. for ..} on one line: the comprehension's value goes straight to the name. -/
namespace Z
open PySem PySem.Spec PyProof.Rows L2 Evl Y
end Z
set_option Elab.async false
set_option linter.all false
set_option maxRecDepth 100000
set_option maxHeartbeats 4000000
/-! dict comprehensions whose keys differ. -/
namespace Z
open PySem PySem.Spec PyProof.Rows L2 Evl Y
theorem putD_new {kvs : List (Key × Dt)} {k : Key} {d : Dt} (h : ∀ kv ∈ kvs, kv.1 ≠ k) : putD kvs k d = kvs ++ [(k, d)] := by
  unfold putD
  rw [if_neg]
  intro z
  obtain ⟨kv, hk, e⟩ := List.any_eq_true.mp z
  exact h kv hk (of_decide_eq_true e)
section
variable {X : Cx} {ρ : List Sl} {tst kx vx : Expr} {scope : Scope} {own : List (Str × Nat)} {Q : Dt → Prop}
theorem nodup_take {α : Type} {l : List α} (nd : l.Nodup) {n : Nat} {x : α} (h : l[n]? = some x) : x ∉ l.take n := fun z => by
  obtain ⟨m, hm, e⟩ := List.getElem_of_mem z
  rw [List.length_take] at hm
  rw [List.getElem_take] at e
  have := (List.getElem_inj nd).mp (e.trans (List.getElem?_eq_some_iff.mp h).2.symm)
  omega
theorem DcQ.filt {f : List Sl → Dt → Option (List Sl)} {ds : List Dt} (p : Dt → Bool) (F : Dt → Key) (G : Dt → Dt) (hz : ds.length ≤ 100000) (nd : (ds.map F).Nodup)
    (h : ∀ d ∈ ds, ∃ ρ', f (wipeD ρ (own.map (·.2))) d = some ρ' ∧ DTb X scope ρ' tst (fun z => z = p d) ∧ (p d = true → DEb X scope ρ' kx fun r => keyD r = some (F d) ∧ DEb X scope ρ' vx fun r => r = G d)) (q : Q (.dic ((ds.filter p).map fun d => (F d, G d)))) :
    DcQ X scope own ρ f (fun ρ' acc P => DTb X scope ρ' tst fun y => (y = true → DEb X scope ρ' kx fun z => ∃ k, keyD z = some k ∧ DEb X scope ρ' vx fun d => P (putD acc k d)) ∧ (y = false → P acc)) ds Q :=
  ⟨hz, fun n acc => acc = ((ds.take n).filter p).map fun d => (F d, G d), rfl, fun n d acc hd ha => by
    obtain ⟨ρ', h1, h2, h3⟩ := h d (List.mem_of_getElem? hd)
    have ha : acc = ((ds.take n).filter p).map fun d => (F d, G d) := ha
    have et : ds.take (n + 1) = ds.take n ++ [d] := by rw [List.take_add_one, hd]; rfl
    refine ⟨ρ', h1, fun s H' C cl fp => (h2 s H' C cl fp).weak fun z hz => ⟨fun zt s H' C cl fp => (h3 (hz.symm.trans zt) s H' C cl fp).weak fun r hr => ⟨F d, hr.1, fun s H' C cl fp => (hr.2 s H' C cl fp).weak fun u hu => ?_⟩, fun zf => ?_⟩⟩
    · show putD acc (F d) u = ((ds.take (n + 1)).filter p).map fun d => (F d, G d)
      rw [hu, et, List.filter_append, List.map_append, ha, putD_new]
      · rw [List.filter_cons_of_pos (hz.symm.trans zt)]; rfl
      · intro kv hk e
        obtain ⟨d', hd', rfl⟩ := List.mem_map.mp hk
        have hF : (ds.map F)[n]? = some (F d) := by rw [List.getElem?_map, hd]; rfl
        refine nodup_take nd hF ?_
        rw [← List.map_take, ← e]
        exact List.mem_map_of_mem (List.mem_filter.mp hd').1
    · show acc = ((ds.take (n + 1)).filter p).map fun d => (F d, G d)
      rw [et, List.filter_append, List.filter_cons_of_neg (by rw [← hz, zf]; exact Bool.false_ne_true), List.map_append, ha]; simp, fun acc _ ha => by
    have ha : acc = ((ds.take ds.length).filter p).map fun d => (F d, G d) := ha
    rw [ha, List.take_length]; exact q⟩
end
end Z
set_option Elab.async false
set_option linter.all false
set_option maxRecDepth 100000
set_option maxHeartbeats 4000000
/-! dict(a list of pairs) whose keys are tuples that stand. -/
namespace Y
open PySem PySem.Spec PyProof.Rows L2
end Y
set_option Elab.async false
set_option linter.all false
set_option maxRecDepth 100000
set_option maxHeartbeats 4000000
/-! min, max of two texts; min of a list of data. -/
namespace Y
open PySem PySem.Spec PyProof.Rows L2
open PySem.W (AlikeAll dataLt iter_listW readsAll_len cmpIn_lt moved_old)
end Y
set_option Elab.async false
set_option linter.all false
set_option maxRecDepth 100000
set_option maxHeartbeats 4000000
/-! Data at heap level; dict() of pairs; tuples in dicts; min, max; nested targets; defs that return one new object. -/
namespace Z
open PySem PySem.Spec PyProof.Rows L2 Evl Y
section
variable {X : Cx} {ρ : List Sl} {e a b c o : Expr} {es : List Expr} {Q Q' : Dt → Prop} {H0 B B0 B2 H H2 : Hp} {σ : L2.St} {i j : Nat} {d : Dt} {pos pos' p1 p2 q1 q2 : Pos} {nm fnm : Str} {rest : List Stmt} {E : DEnds} {D : Ends}
/-! ### bridges to heap level -/
theorem DE.en (h : DE X ρ e Q) (En : En X.K H0 B ρ σ H) : EN X e σ H fun v H2 => ∃ d, Rp X.K H2 v d ∧ Q d :=
  ⟨fun H1 e1 => h.go (En.more e1) fun B2 v d H2 g E2 r q => ⟨g.h, d, r.ex E2.ex, q⟩⟩
theorem DN.en (h : DN X ρ e Q) (En : En X.K H0 B ρ σ H) : EN X e σ H fun v H2 => ∃ p d, v = .ref p ∧ H p = none ∧ Od X.K H2 H2 p d ∧ Q d :=
  ⟨fun H1 e1 => h.go (En.more e1) fun B2 p d H2 g E2 hp hb o q => ⟨g.h, p, d, rfl, fresh_back e1 hp, o.ex E2.ex rfl, q⟩⟩
theorem DT.tn {Q : Bool → Prop} {bb : Bool} (h : DT X ρ e fun z => z = bb) (En : En X.K H0 B ρ σ H) : TN X e σ H bb :=
  ⟨fun H1 e1 => h.go (En.more e1) fun B2 b H2 g E2 q => ⟨g.h, q⟩⟩
/-! ### keys -/
abbrev keyDt : Key → Dt
  | .inl n => .int n
  | .inr s => .str s
theorem keyD_keyDt (k : Key) : keyD (keyDt k) = some k := by cases k <;> rfl
theorem RpL.keys {K : PySem.W.Frag} {B : Hp} : ∀ {vs : List V} {ks : List Key}, RpL K B vs (ks.map keyDt) → vs = ks.map kV
  | [], [], _ => rfl
  | _, k :: ks, h => by
    rw [List.map_cons] at h
    cases h with
    | cons r t => rw [List.map_cons, ← RpL.keys t, r.key (keyD_keyDt k)]
  | _ :: _, [], h => by cases h
/-! ### dict() of a list of pairs -/
theorem mergeK_new : ∀ (kvs xs : List (Key × V)), ((xs ++ kvs).map (·.1)).Nodup → mergeK xs kvs = xs ++ kvs
  | [], xs, _ => (List.append_nil _).symm
  | p :: kvs, xs, h => by
    have hn : valV xs p.1 = none := by
      unfold valV
      rw [List.find?_eq_none.mpr]
      · rfl
      · intro q hq z
        rw [List.map_append, List.nodup_append] at h
        exact h.2.2 q.1 (List.mem_map_of_mem hq) p.1 (by simp) (of_decide_eq_true z)
    show mergeK (putK xs p.1 p.2) kvs = _
    rw [putK_new _ hn, mergeK_new kvs _ (by rw [List.append_assoc]; exact h), List.append_assoc]; rfl
theorem RpL.pairs {K : PySem.W.Frag} {B : Hp} : ∀ {vs : List V} {kvs : List (Key × Dt)}, RpL K B vs (kvs.map fun kv => .tup [keyDt kv.1, kv.2]) → ∃ (ps : List Addr) (ys : List (Key × V)), vs = ps.map V.ref ∧ Paired (fun p kv => SqT K B p [kV kv.1, kv.2]) ps ys ∧ RpK K B ys kvs
  | _, [], h => by cases h; exact ⟨[], [], rfl, .nil, .nil⟩
  | _, kv :: kvs, h => by
    rw [List.map_cons] at h
    cases h with
    | cons r t =>
      obtain ⟨ps, ys, ev, hp, hr⟩ := RpL.pairs t
      cases r with
      | tup ha hx => cases hx with
        | cons r1 t1 => cases t1 with
          | cons r2 t2 =>
            cases t2
            rename_i p v1 v2
            refine ⟨p :: ps, (kv.1, v2) :: ys, by rw [ev]; rfl, .cons ?_ hp, .cons r2 hr⟩
            rw [r1.key (keyD_keyDt _)] at ha
            exact ha
theorem RpK.keys {K : PySem.W.Frag} {B : Hp} : ∀ {ys : List (Key × V)} {kvs : List (Key × Dt)}, RpK K B ys kvs → ys.map (·.1) = kvs.map (·.1)
  | _, _, .nil => rfl
  | _, _, .cons r t => by rw [List.map_cons, List.map_cons, RpK.keys t]
theorem n_dictL (hc : X.calm = true) (hg : Gl X "dict") (hm : X.mg "dict" = none) (h : DE X ρ a fun d => ∃ kvs, d = .lst (kvs.map fun kv => .tup [keyDt kv.1, kv.2]) ∧ (kvs.map (·.1)).Nodup ∧ Q (.dic kvs)) (hst : starEach [a] X.env = (false, eval a X.env) :: starEach [] X.env := by rfl) : DN X ρ (.Call (.Name "dict" q1) [a] [] q2) Q :=
  ⟨fun H0 B σ H E => sem_of (pe_callTy (call_dictP hc) hg hm (by decide +kernel) (pa_cons pe_sem pa_nil hst) (he := hst)) (h.go E fun B2 v d H2 g E2 r q => by
    obtain ⟨kvs, hd, hnd, q⟩ := q
    subst hd
    cases r with
    | lst ha hx =>
      obtain ⟨ps, ys, ev, hp, hr⟩ := hx.pairs
      subst ev
      have hp' : Paired (fun p kv => SqT X.K H2 p [kV kv.1, kv.2]) ps ys := by
        clear ha hr hx
        induction hp with
        | nil => exact .nil
        | cons h t ih => exact .cons (ex_t E2.ex h) ih
      refine ⟨_, ps, ys, rfl, ex_l E2.ex ha, hp', fun l hl => ?_⟩
      have hb := fresh_back E2.ex hl
      rw [mergeK_new ys [] (by rw [List.nil_append, hr.keys]; exact hnd), List.nil_append]
      exact ⟨B2, l, .dic kvs, ⟨g.b, g.h.trans (Ex.new hl), Ex.mut E2.ex hb, g.o⟩, rfl, fresh_back g.h hl, hb, ⟨_, upd_same, hr⟩, q⟩)⟩
/-- list(d) -/
theorem RpK.keyL {K : PySem.W.Frag} {B : Hp} : ∀ {ys : List (Key × V)} {kvs : List (Key × Dt)}, RpK K B ys kvs → RpL K B (ys.map fun kv => kV kv.1) (kvs.map fun kv => keyDt kv.1)
  | _, _, .nil => .nil
  | _, _, .cons (k := k) r t => by
    rw [List.map_cons, List.map_cons]
    refine .cons ?_ (RpK.keyL t)
    cases k with
    | inl n => exact .int n
    | inr s => exact .str s
theorem n_listD (hc : X.calm = true) (hg : Gl X "list") (hm : X.mg "list" = none) (h : DE X ρ a fun d => ∃ kvs, d = .dic kvs ∧ Q (.lst (kvs.map fun kv => keyDt kv.1))) (hst : starEach [a] X.env = (false, eval a X.env) :: starEach [] X.env := by rfl) : DN X ρ (.Call (.Name "list" q1) [a] [] q2) Q :=
  ⟨fun H0 B σ H E => sem_of (pe_callTy (call_listD hc) hg hm (by decide +kernel) (pa_cons pe_sem pa_nil hst) (he := hst)) (h.go E fun B2 v d H2 g E2 r q => by
    obtain ⟨kvs, hd, q⟩ := q
    subst hd
    cases r with
    | dic ha hx =>
      refine ⟨_, _, rfl, rd_mono ha E2.ex, fun l hl => ?_⟩
      have hb := fresh_back E2.ex hl
      exact ⟨B2, l, .lst (kvs.map fun kv => keyDt kv.1), ⟨g.b, g.h.trans (Ex.new hl), Ex.mut E2.ex hb, g.o⟩, rfl, fresh_back g.h hl, hb, ⟨_, upd_same, hx.keyL⟩, q⟩)⟩
/-- sorted(ints) -/
theorem rpl_ints {K : PySem.W.Frag} {B : Hp} : ∀ ns : List Int, RpL K B (ns.map V.int) (ns.map Dt.int)
  | [] => .nil
  | n :: ns => .cons (.int n) (rpl_ints ns)
/-! ### min, max -/
/-! ### (a, b), (c, d) = .. -/
abbrev fTup22 (i j k l : Nat) : List Sl → Dt → Option (List Sl) := fun ρ d => match d with
  | .tup [.tup [x, y], .tup [z, u]] => some ((((ρ.set i (.fr x)).set j (.fr y)).set k (.fr z)).set l (.fr u))
  | _ => none
theorem g_tup22 (i j k l : Nat) {x y z u : Str} {kt k1 k2 : Nat} {px py pz pu pp1 pp2 : Pos} (hc : X.calm = true) (hN : X.N.Nodup) (hi : X.N[i]? = some x := by rfl) (hj : X.N[j]? = some y := by rfl) (hk : X.N[k]? = some z := by rfl) (hl : X.N[l]? = some u := by rfl) (hx : Loc X.env.scope x := by first | exact Or.inl rfl | exact Or.inr rfl) (hy : Loc X.env.scope y := by first | exact Or.inl rfl | exact Or.inr rfl) (hz : Loc X.env.scope z := by first | exact Or.inl rfl | exact Or.inr rfl) (hv : Loc X.env.scope u := by first | exact Or.inl rfl | exact Or.inr rfl)
    (hf : X.fn x = true ∨ X.env.scope.names.lookup x = some .local := by first | exact .inl rfl | exact .inr rfl) (hf2 : X.fn y = true ∨ X.env.scope.names.lookup y = some .local := by first | exact .inl rfl | exact .inr rfl) (hf3 : X.fn z = true ∨ X.env.scope.names.lookup z = some .local := by first | exact .inl rfl | exact .inr rfl) (hf4 : X.fn u = true ∨ X.env.scope.names.lookup u = some .local := by first | exact .inl rfl | exact .inr rfl) :
    DG X (.Tuple [.Tuple [.Name x px, .Name y py] k1 pp1, .Tuple [.Name z pz, .Name u pu] k2 pp2] kt pos) [i, j, k, l] (fTup22 i j k l) :=
  ⟨_, pg_tup hc (pgs_cons (pg_tup hc (pgs_cons (pg_name hN hi hx hf) (pgs_cons (pg_name hN hj hy hf2) pgs_nil))) (pgs_cons (pg_tup hc (pgs_cons (pg_name hN hk hz hf3) (pgs_cons (pg_name hN hl hv hf4) pgs_nil))) pgs_nil)), fun H0 B ρ σ H v d ρ' R E r hf k => by
    unfold fTup22 at hf
    split at hf
    · cases hf
      cases r with
      | tup ha hv => cases hv with
        | cons r1 t => cases t with
          | cons r2 t =>
            cases t
            cases r1 with
            | tup hb hv1 => cases hv1 with
              | cons r3 t => cases t with
                | cons r4 t =>
                  cases t
                  cases r2 with
                  | tup hb2 hv2 => cases hv2 with
                    | cons r5 t => cases t with
                      | cons r6 t =>
                        cases t
                        refine ⟨_, _, rfl, ex_t E.ex ha, rfl, _, _, rfl, ⟨_, _, rfl, ex_t E.ex hb, rfl, _, _, rfl, _, _, rfl, rfl, _, _, rfl, ⟨_, _, rfl, ex_t E.ex hb2, rfl, _, _, rfl, _, _, rfl, rfl, rfl, k _ ((((E.set r3).set r4).set r5).set r6) fun vs h => ?_⟩⟩⟩
                        rw [wipe_set (h _ (by simp)), wipe_set (h _ (by simp)), wipe_set (h _ (by simp)), wipe_set (h _ (by simp))]
    · cases hf⟩
end
/-! ### defs that return one new object -/
section
variable {P : Program} {w : World} {K : PySem.W.Frag} {mg : Str → Option Value} {base : Heap} {nm : Str} {st : Stmt} {N ps : List Str} {k lv : Nat} {S : List Dt → (Dt → Prop) → Prop}
def spD1 (K : PySem.W.Frag) (S : List Dt → (Dt → Prop) → Prop) : Sp := fun vs H Q _ => ∃ B ds, Evl.Ex B H ∧ RpL K B vs ds ∧ S ds fun d => ∀ B2 p H2, Gr B H B2 H2 → B2 p = none → H p = none → Od K B2 H2 p d → Q (.ref p) H2
structure OwnD1 (P : Program) (w : World) (K : PySem.W.Frag) (mg : Str → Option Value) (base : Heap) (nm : Str) (ps : List Str) (lv : Nat) (S : List Dt → (Dt → Prop) → Prop) : Prop where
  own : Own P w K mg base nm ps lv (spD1 K S)
  mono : ∀ ds (Q Q' : Dt → Prop), (∀ d, Q d → Q' d) → S ds Q → S ds Q'
theorem ownD1 (D : Def K mg nm st) (Sc : FnScope N ps (defScope st)) (mono : ∀ ds (Q Q' : Dt → Prop), (∀ d, Q d → Q' d) → S ds Q → S ds Q') (hlen : ∀ ds Q, S ds Q → ds.length = ps.length)
    (hb : ∀ (kV doc pm : Value) (an : Option Addr) (cdv ct : Value) (us : List Value), us.length = ps.length → bindArgs (PySem.W.fnOf nm nm (defArgs st) (defBody st) (defScope st) .none kV doc pm an cdv ct) ⟨us, []⟩ = pure (ps.zip us))
    (hbody : ∀ (X : Cx) (ds : List Dt) (Q : Dt → Prop), (∃ (f : Addr) (cdv : Value) (A : Around) (outer : List Env) (s : Shared) (H : Hp) (E : XK), X = (cxOf CX0 P w K mg base N nm (defScope st) f cdv A outer s H E).nox) → Room k X.A → S ds Q → DS X (startD N ds) (defBody st) { nx := fun _ => False, rt := fun _ => False, r1 := Q }) :
    OwnD1 P w K mg base nm ps (k + 1) S := by
  refine ⟨D.own Sc (fun vs H Q E h => ?_) hb ?_, mono⟩
  · obtain ⟨B, ds, _, r, h⟩ := h
    rw [r.len]; exact hlen _ _ h
  · rintro X H vs Q E ⟨f, cdv, A, outer, s, rfl⟩ hr h
    obtain ⟨B, ds, e, r, h⟩ := h
    refine ⟨fun H1 e1 => ?_⟩
    refine (hbody _ ds _ ⟨f, cdv, A, outer, s, H, E, rfl⟩ hr h).run H1 B B _ H1 _ (Gr.refl (e.trans e1)) (en_start (e.trans e1) r) ⟨fun _ _ _ _ q => q.elim, fun _ _ _ _ q => q.elim, fun _ _ _ _ q => q.elim, fun _ _ _ _ q => q.elim, fun d B2 p H2 q g hb hp o => q B2 p H2 (Gr.back e1 g) hb (fresh_back e1 hp) o, fun _ _ _ _ _ q => q.elim⟩
theorem n_own {X : Cx} {ρ : List Sl} {e : Expr} {es : List Expr} {q1 q2 : Pos} {Q : Dt → Prop} (O : OwnD1 X.prog X.w X.K X.mg X.base nm ps lv S) (hr : Room lv X.A) (hg : Gl X nm) (h : DL X ρ (e :: es) fun ds => S ds Q)
    (hdb : (nm == ("__debug__" : Str)) = false := by decide) (he : starEach (e :: es) X.env = (false, eval e X.env) :: starEach es X.env := by rfl) (hpl : (backTo q2 (starEach es X.env)).any (·.1) = false := by rfl) : DN X ρ (.Call (.Name nm q1) (e :: es) [] q2) Q := by
  obtain ⟨g, fd, F, hk, hb, hm⟩ := O.own.ex
  exact ⟨fun H0 B σ H E => sem_of (pe_call F hr hg hm hk hb .nil pass0 pa_sem hdb he hpl) (h.go E fun B2 vs ds H2 g2 E2 rs q => by
    rw [List.append_nil]
    exact ⟨B2, ds, E2.ex, rs, O.mono _ _ _ (fun d q B3 p H3 g3 hb hp o => ⟨B3, p, d, g2.trans g3, rfl, fresh_back g2.h hp, hb, o, q⟩) q⟩)⟩
end
end Z
set_option Elab.async false
set_option linter.all false
set_option maxRecDepth 100000
set_option maxHeartbeats 4000000
/-! What is one's own, looked at: new lists of scalars made of it. -/
namespace Z
open PySem PySem.Spec PyProof.Rows L2 Evl Y
def frz1 : Sl → Sl
  | .ow d => .fr d
  | s => s
def frzS (ρ : List Sl) : List Sl := ρ.map frz1
section
variable {X : Cx} {K : PySem.W.Frag} {ρ : List Sl} {e : Expr} {Q : Dt → Prop} {H0 B H : Hp} {σ : L2.St}
theorem En.frz (E : En K H0 B ρ σ H) : En K H0 H (frzS ρ) σ H := by
  have g : ∀ (i : Nat) (d : Dt), (frzS ρ)[i]? ≠ some (Sl.ow d) := fun i d h => by
    unfold frzS at h
    rw [List.getElem?_map] at h
    obtain ⟨s, _, h⟩ := Option.map_eq_some_iff.mp h
    cases s <;> cases h
  refine ⟨Ex.refl _, by unfold frzS; rw [List.length_map]; exact E.len, fun i d h => ?_, fun i d h => absurd h (g i d), fun i j d d' p _ h _ _ _ => absurd h (g i d)⟩
  unfold frzS at h
  rw [List.getElem?_map] at h
  obtain ⟨s, hs, h⟩ := Option.map_eq_some_iff.mp h
  cases s with
  | un => cases h
  | fr d' => cases h; obtain ⟨v, a, r⟩ := E.fr i _ hs; exact ⟨v, a, r.ex E.ex⟩
  | ow d' => cases h; obtain ⟨p, a, _, _, o⟩ := E.ow i _ hs; exact ⟨_, a, o.rp E.ex⟩
end
end Z
set_option Elab.async false
set_option linter.all false
set_option maxRecDepth 100000
set_option maxHeartbeats 4000000
/-! x, y = a, b, both new, where a name is a cell: by way of a tuple. -/
namespace Z
open PySem PySem.Spec PyProof.Rows L2 Evl Y
end Z
set_option Elab.async false
set_option linter.all false
set_option maxRecDepth 100000
set_option maxHeartbeats 4000000
/-! list + list, a tuple backwards, three names at once; by data -/
namespace Z
open PySem PySem.Spec PyProof.Rows L2 Evl Y
/-- a list of one's own, or a new one -/
structure DW1 (X : Cx) (ρ : List Sl) (e : Expr) (Q : Dt → Prop) : Prop where
  run : ∀ H0 B σ H, En X.K H0 B ρ σ H → semE X e σ H fun v H2 => ∃ B2 p d, Gr B H B2 H2 ∧ v = .ref p ∧ Od X.K B2 H2 p d ∧ Q d
section
variable {X : Cx} {ρ : List Sl} {e a b c o : Expr} {es : List Expr} {Q Q' : Dt → Prop} {H0 B B0 B2 H H2 : Hp} {σ : L2.St} {d : Dt} {pos pos' p1 p2 p3 q1 q2 px py pz pt : Pos} {nm fnm x : Str} {rest : List Stmt} {E : DEnds} {D : Ends}
theorem DW1.go (h : DW1 X ρ e Q) (E : En X.K H0 B ρ σ H) {R : VK} (k : ∀ B2 p d H2, Gr B H B2 H2 → En X.K H0 B2 ρ σ H2 → Od X.K B2 H2 p d → Q d → R (.ref p) H2) : semE X e σ H R :=
  sem_mono (h.run _ _ _ _ E) fun v H2 ⟨B2, p, d, g, ev, o, q⟩ => by subst ev; exact k B2 p d H2 g (E.gr g) o q
theorem DN.w1 (h : DN X ρ e Q) : DW1 X ρ e Q := ⟨fun H0 B σ H E => h.go E fun B2 p d H2 g _ _ _ o q => ⟨B2, p, d, g, rfl, o, q⟩⟩
/-- list + list -/
theorem n_cat (h : DW1 X ρ a fun d1 => DW1 X ρ b fun d2 => ∃ xs ys, d1 = .lst xs ∧ d2 = .lst ys ∧ xs.length + ys.length ≤ 100000 ∧ Q (.lst (xs ++ ys))) : DN X ρ (.BinOp a .Add b pos) Q :=
  ⟨fun H0 B σ H E => sem_of (pe_op op_cat pe_sem pe_sem) (h.go E fun B2 p d H2 g E2 od q => q.go E2 fun B3 p' d' H3 g3 E3 od' ⟨xs, ys, ed, ed', hl, qq⟩ => by
    subst ed ed'
    obtain ⟨vs, hp, rv⟩ := od
    obtain ⟨ws, hp', rw'⟩ := od'
    refine ⟨p, p', vs, ws, rfl, rfl, g3.h _ _ hp, hp', sz_of (by rw [rv.len, rw'.len]; exact hl), fun r hr => ?_⟩
    have hb : B3 r = none := fresh_back E3.ex hr
    exact ⟨B3, r, .lst (xs ++ ys), ⟨(g.trans g3).b, (g.trans g3).h.trans (Ex.new hr), Ex.mut E3.ex hb, (g.trans g3).o⟩, rfl, fresh_back (g.trans g3).h hr, hb, ⟨vs ++ ws, upd_same, (rv.ex g3.b).app rw'⟩, qq⟩)⟩
end
end Z
set_option Elab.async false
set_option linter.all false
set_option maxRecDepth 100000
set_option maxHeartbeats 8000000
/-! sorted(set(a list of hns)) -/
namespace Y
open PySem PySem.Spec PyProof.Rows L2
abbrev setO (w : World) : Obj := { cls := .type "set", dict := none, data := .set #[] 0 (.fresh 0 0 (!w.params.followText "set-order")) }
end Y
set_option Elab.async false
set_option linter.all false
set_option maxRecDepth 100000
set_option maxHeartbeats 4000000
/-! sorted(set(a list of ints)), by data -/
namespace Y
open PySem PySem.Spec PyProof.Rows L2
theorem vals_ints : ∀ {us : List Value} {ns : List Int}, IntsAre us ns → Vals (ns.map V.int) us := fun {us ns} h => vals_of_ints h
end Y
namespace Z
open PySem PySem.Spec PyProof.Rows L2 Evl Y
end Z
set_option Elab.async false
set_option linter.all false
set_option maxRecDepth 100000
set_option maxHeartbeats 4000000
/-! d != {}, by data -/
namespace Z
open PySem PySem.Spec PyProof.Rows L2 Evl Y
end Z
set_option Elab.async false
set_option linter.all false
set_option maxRecDepth 100000
set_option maxHeartbeats 4000000
/-! results made of tuples alone; calls of an own def that is promised at heap level, by data -/
namespace Z
open PySem PySem.Spec PyProof.Rows L2 Evl Y
end Z
set_option Elab.async false
set_option linter.all false
set_option maxRecDepth 100000
set_option maxHeartbeats 4000000
/-! a dict of one's own walked by a comprehension; d.get(k, x); repr; `is not`; a list unpacked; by data -/
namespace Z
open PySem PySem.Spec PyProof.Rows L2 Evl Y
section
variable {K : PySem.W.Frag} {H0 B B2 H H2 : Hp} {ρ : List Sl} {σ : L2.St} {i : Nat}
theorem walk_dk {p : Addr} {od : Obj} {ys : List (Key × V)} {kvs : List (Key × Dt)} (rk : RpK K B ys kvs) (hB : B2 p = some (.frz od (.dK ys))) : DWalk K (Itk p od ys) B2 (kvs.map fun kv => keyDt kv.1) := by
  have hk := rk.keys
  have hl : ys.length = kvs.length := by have := congrArg List.length hk; rwa [List.length_map, List.length_map] at this
  refine ⟨_, _, by rw [List.length_map, ← hl]; exact walk_keys, fun H' e => e _ _ hB, fun n H' x H'' Bn hn e1 e2 y => ?_⟩
  obtain ⟨eh, k, v, hkv, ex⟩ := y
  subst eh ex
  refine ⟨Bn, keyDt k, Gr.refl e2, ?_, ?_⟩
  · have h1 : (ys.map (·.1))[n]? = some k := by rw [List.getElem?_map, hkv]; rfl
    rw [hk, List.getElem?_map] at h1
    obtain ⟨kv, h2, e⟩ := Option.map_eq_some_iff.mp h1
    rw [List.getElem?_map, h2]
    exact congrArg (fun z => some (keyDt z)) e
  · cases k with
    | inl m => exact .int m
    | inr s => exact .str s
end
end Z
set_option Elab.async false
set_option linter.all false
set_option maxRecDepth 100000
set_option maxHeartbeats 4000000
/-! d.get(k, x), repr, `is not`, a list unpacked, sorted pairs; by data -/
namespace Z
open PySem PySem.Spec PyProof.Rows L2 Evl Y
theorem Rp.un {K : PySem.W.Frag} {B : Hp} {v : V} {ds : List Dt} (h : Rp K B v (.tx ds)) : Rp K B v (.tup ds) := by
  cases h with
  | tx a b => exact .tup (st_of a) b
end Z
set_option Elab.async false
set_option linter.all false
set_option maxRecDepth 100000
set_option maxHeartbeats 4000000
/-! tuples displayed as known ones; sorted lists of pairs of ints; by data -/
namespace Z
open PySem PySem.Spec PyProof.Rows L2 Evl Y
end Z
set_option Elab.async false
set_option linter.all false
set_option maxRecDepth 100000
set_option maxHeartbeats 4000000
/-! known tuples: their items, forgotten; tuple() of a list; membership of pairs in tuples; by data -/
namespace Z
open PySem PySem.Spec PyProof.Rows L2 Evl Y
section
variable {X : Cx} {ρ : List Sl} {e a b c o : Expr} {es : List Expr} {Q Q' : Dt → Prop} {σ : L2.St} {d : Dt} {pos p1 p2 p3 q1 q2 : Pos}
/-- (a, b) in a tuple of tuples -/
abbrev inTQ (f : Bool → Bool) (y x : Dt) (Q : Bool → Prop) : Prop := ∃ ds, x = .tup ds ∧ (isP y = true ∧ isPL ds = true ∧ SeqAt.shaped (toP y) = true ∧ SeqAt.shaped (.tuple (toPL ds)) = true) ∧ Q (f ((toPL ds).any fun z => PyData.eqv z (toP y)))
def rInT (K : PySem.W.Frag) : R2 := fun x y H Q => ∃ d ds, Dp K H x d ∧ Dp K H y (.tuple ds) ∧ SeqAt.shaped d = true ∧ SeqAt.shaped (.tuple ds) = true ∧ Q (.bl (ds.any fun z => PyData.eqv z d)) H
theorem op_inT (hu : X.A.units + 65 < cLine) : OpR X (compareOp .In) (rInT X.K) := fun pins s σ H x y v u Q I rx ry ⟨d, ds, hd, he, sd, se, q⟩ => by
  have ⟨as, h1⟩ := Dp.reads I d x v hd rx
  have ⟨bs, h2⟩ := Dp.reads I (.tuple ds) y u he ry
  exact SeqAt.in_tuple_reads h2 h1 (SeqAt.canLay_of_shaped se) (SeqAt.canLay_of_shaped sd) (room_in_shaped sd hu) (by exact ⟨.bl _, H, I, rfl, q⟩)
theorem wc_inT {K : PySem.W.Frag} : WC K (rInT K) (inTQ id) := fun B H x y d1 d2 Q R s rx ry ⟨ds, ed, w, q⟩ k => by
  subst ed
  have rx := rx.ex s
  have ry := ry.ex s
  cases ry with
  | tup ha hx => exact ⟨_, _, rx.dp w.1, .tup ha (hx.dp w.2.1), w.2.2.1, w.2.2.2, k _ q⟩
theorem t_inT {Q : Bool → Prop} (hu : X.A.units + 65 < cLine) (h : DA X ρ a fun d1 => DA X ρ b fun d2 => inTQ id d1 d2 Q) (hm : behindInMarks .In b = false := by rfl) : DT X ρ (.Compare a [.In] [b] pos) Q := t_cmp (op_inT hu) wc_inT h hm
theorem d_inT (hu : X.A.units + 65 < cLine) (h : DA X ρ a fun d1 => DA X ρ b fun d2 => inTQ id d1 d2 fun z => Q (.bl z)) (hm : behindInMarks .In b = false := by rfl) : DE X ρ (.Compare a [.In] [b] pos) Q := d_cmp (op_inT hu) wc_inT h hm
end
end Z
set_option Elab.async false
set_option linter.all false
set_option maxRecDepth 100000
set_option maxHeartbeats 4000000
/-! texts compared, walked, joined, sorted; or as a value; powers; tuple * int; items of lists set; chains; zip of lists -/
namespace Z
open PySem PySem.Spec PyProof.Rows L2 Y
open Evl (Ex st_of sq_of ex_l ex_t fresh_back sz_of sz_lt)
/-- a text ahead of another one -/
def ltB (i j : Str) : Bool := decide (i.cps.toList < j.cps.toList)
abbrev ordSQ (f : Str → Str → Bool) (x y : Dt) (Q : Bool → Prop) : Prop := match x, y with
  | .str n, .str m => Q (f n m)
  | _, _ => False
theorem wc_ordS {K : PySem.W.Frag} {f : Str → Str → Bool} : WC K (fun x y H Q => ∃ i j, x = V.str i ∧ y = V.str j ∧ Q (.bl (f i j)) H) (ordSQ f) := fun B H x y d1 d2 Q R s rx ry w k => by
  cases rx with
  | str n => cases ry with
    | str m => exact ⟨n, m, rfl, rfl, k _ w⟩
    | _ => exact w.elim
  | _ => cases ry <;> exact w.elim
section
variable {X : Cx} {ρ : List Sl} {e a b c o tg value : Expr} {es : List Expr} {Q : Dt → Prop} {H0 B B0 B2 H H2 : Hp} {σ : L2.St} {i j : Nat} {d : Dt} {pos pos' p2 q1 q2 apos cpos spos px py pt : Pos} {nm x : Str} {rest : List Stmt} {E : DEnds}
theorem d_ltS (h : DA X ρ a fun d1 => DA X ρ b fun d2 => ordSQ ltB d1 d2 fun z => Q (.bl z)) : DE X ρ (.Compare a [.Lt] [b] pos) Q := d_cmp op_lt_str wc_ordS h (nomark _)
theorem d_leS (h : DA X ρ a fun d1 => DA X ρ b fun d2 => ordSQ (fun i j => !ltB j i) d1 d2 fun z => Q (.bl z)) : DE X ρ (.Compare a [.LtE] [b] pos) Q := d_cmp op_le_str wc_ordS h (nomark _)
theorem t_leS {Q : Bool → Prop} (h : DA X ρ a fun d1 => DA X ρ b fun d2 => ordSQ (fun i j => !ltB j i) d1 d2 Q) : DT X ρ (.Compare a [.LtE] [b] pos) Q := t_cmp op_le_str wc_ordS h (nomark _)
/-- a walk over a text -/
def sgnD (s : Str) : List Dt := s.cps.toList.map fun c => .str ⟨#[c]⟩
theorem sgnD_len {s : Str} : (sgnD s).length = s.length := by unfold sgnD; rw [List.length_map]; rfl
theorem i_str {Q : List Dt → Prop} (h : DE X ρ e fun d => ∃ s, d = .str s ∧ Q (sgnD s)) (fo : ∀ x, foldedSetIterable e X.env x = pure x := by intro _; rfl) : DI X ρ tg e Q :=
  ⟨⟨_, pi_str pe_sem, fun H0 B σ H R E k => h.go E fun B2 v d H2 g E2 r ⟨s, ed, q⟩ => by
    subst ed
    cases r
    refine ⟨s, rfl, k B2 H2 _ _ g E2 ⟨_, _, by rw [sgnD_len]; exact walk_str, fun _ _ => True.intro, fun i H' x H'' Bn hi e1 e2 y => ?_⟩ q⟩
    obtain ⟨rfl, c, hc, rfl⟩ := y
    refine ⟨Bn, .str ⟨#[c]⟩, Gr.refl e2, ?_, .str _⟩
    unfold sgnD
    rw [List.getElem?_map, Array.getElem?_toList, hc]; rfl⟩, fo⟩
/-- one sign in a text -/
theorem wc_inSg {K : PySem.W.Frag} : WC K (fun x y H Q => ∃ (c : Nat) (z : Str), x = V.str ⟨#[c]⟩ ∧ y = V.str z ∧ Q (.bl (decide (c ∈ z.cps.toList))) H) fun x y Q => ∃ (c : Nat) (z : Str), x = .str ⟨#[c]⟩ ∧ y = .str z ∧ Q (decide (c ∈ z.cps.toList)) := fun B H x y d1 d2 Q R s rx ry ⟨c, z, e1, e2, q⟩ k => by
  subst e1 e2
  cases rx; cases ry
  exact ⟨c, z, rfl, rfl, k _ q⟩
theorem d_inSg (h : DA X ρ a fun d1 => DA X ρ b fun d2 => ∃ (c : Nat) (z : Str), d1 = .str ⟨#[c]⟩ ∧ d2 = .str z ∧ Q (.bl (decide (c ∈ z.cps.toList)))) (hm : behindInMarks .In b = false := by rfl) : DE X ρ (.Compare a [.In] [b] pos) Q := d_cmp op_in_sign wc_inSg h hm
/-- a <= b <= c, a < b < c .. of ints, as a test -/
theorem t_chain {op op' : CmpOp} {r r' : R2} {f f' : Int → Int → Bool} {Q : Bool → Prop} (ho : OpR X (compareOp op) r) (ho' : OpR X (compareOp op') r') (hr : ∀ n m H Q, Q (.bl (f n m)) H → r (.int n) (.int m) H Q) (hr' : ∀ n m H Q, Q (.bl (f' n m)) H → r' (.int n) (.int m) H Q)
    (h : DE X ρ a fun d1 => DE X ρ b fun d2 => ∃ n m, d1 = .int n ∧ d2 = .int m ∧ (f n m = true → DE X ρ c fun d3 => ∃ u, d3 = .int u ∧ Q (f' m u)) ∧ (f n m = false → Q false)) (hm : lastMarks [op, op'] [b, c] = false) : DT X ρ (.Compare a [op, op'] [b, c] pos) Q :=
  ⟨fun H0 B σ H E => semT_of (pt_chain ho ho' pe_sem pe_sem pe_sem hm) (h.go E fun B1 v1 d1 H1 g1 E1 r1 q => q.go E1 fun B2 v2 d2 H2 g2 E2 r2 ⟨n, m, e1, e2, q1, q2⟩ => by
    subst e1 e2
    cases r1; cases r2
    refine hr n m H2 _ ⟨_, rfl, ?_⟩
    cases z : f n m with
    | true =>
      rw [if_pos rfl]
      exact (q1 z).go E2 fun B3 v3 d3 H3 g3 E3 r3 ⟨u, e3, q3⟩ => by
        subst e3
        cases r3
        exact hr' m u H3 _ ⟨_, rfl, B3, (g1.trans g2).trans g3, q3⟩
    | false =>
      rw [if_neg Bool.false_ne_true]
      exact ⟨_, rfl, B2, g1.trans g2, q2 z⟩)⟩
end
end Z
set_option Elab.async false
set_option linter.all false
set_option maxRecDepth 100000
set_option maxHeartbeats 8000000
/-! tuple * int for any number -/
namespace Y
open PySem PySem.Spec PyProof.Rows L2
section
variable {l : Addr} {its : Array Value} {n : Nat} {dd : Option Addr} {sl : Array (Option Value)} {x : Int} {u : Tok}
theorem mul_one : Meets (Builtin.«tuple.__mul__» ⟨[.ref l, .int 1 u], []⟩) (fun _ R s => s.heap.get? l = some { cls := .type "tuple", dict := dd, data := .seq its n, slots := sl } ∧ R (.ok (.ret (Value.ref l))) s) := .of_wp fun prog w A R s h => by
  obtain ⟨hp, g, d, tk, os⟩ := s
  obtain ⟨hl, h⟩ := h
  have f1 := AutoSeq1.idx_int
  have z0 : (decide ((1 : Int) < -(2 ^ 63)) || decide ((1 : Int) ≥ 2 ^ 63)) = false := by decide
  have z1 : (its.isEmpty || (1 : Int) == 1) = true := by rw [Bool.or_comm]; rfl
  wp_walk using wpAny_loadPart' hl
  repeat (first
    | (refine wpAny_ite_false (decide_eq_false (by rw [z0]; decide)) ?_; wp_walk using wpAny_loadPart' hl)
    | (refine wpAny_ite_true (decide_eq_true z1) ?_; wp_walk using wpAny_loadPart' hl))
  all_goals first | exact ⟨_, rfl, h⟩ | skip
end
end Y
namespace Z
open PySem PySem.Spec PyProof.Rows L2 Y
open Evl (Ex st_of sq_of ex_l ex_t fresh_back sz_of sz_lt)
theorem RpL.rep {K : PySem.W.Frag} {B : Hp} {vs : List V} {ds : List Dt} (r : RpL K B vs ds) : ∀ m : Nat, RpL K B (List.replicate m vs).flatten (List.replicate m ds).flatten
  | 0 => .nil
  | m + 1 => by
    rw [List.replicate_succ, List.replicate_succ, List.flatten_cons, List.flatten_cons]
    exact r.app (RpL.rep r m)
section
variable {X : Cx} {ρ : List Sl} {e a b c o tg value : Expr} {es : List Expr} {Q : Dt → Prop} {H0 B B0 B2 H H2 : Hp} {σ : L2.St} {i j : Nat} {d : Dt} {pos pos' p2 q1 q2 apos cpos spos px py pt : Pos} {nm x : Str} {rest : List Stmt} {E : DEnds}
theorem rpl_strs {K : PySem.W.Frag} {B : Hp} : ∀ ns : List Str, RpL K B (ns.map V.str) (ns.map Dt.str)
  | [] => .nil
  | n :: r => .cons (.str n) (rpl_strs r)
/-- sorted(list of texts) -/
theorem n_sortS (hg : Gl X "sorted") (hm : X.mg "sorted" = none) (h : DE X ρ a fun d => ∃ ns : List Str, d = .lst (ns.map Dt.str) ∧ ns.length < 64 ∧ ∀ out : List Str, out.Perm ns → sortedS out = true → Q (.lst (out.map Dt.str)))
    (hst : starEach [a] X.env = (false, eval a X.env) :: starEach [] X.env := by rfl) : DN X ρ (.Call (.Name "sorted" q1) [a] [] q2) Q :=
  ⟨fun H0 B σ H E => sem_of (pe_callB cr_sortedS hg hm (by decide +kernel) (pa_cons pe_sem pa_nil hst) (he := hst)) (h.go E fun B2 v d H2 g E2 r ⟨ns, ed, few, q⟩ => by
    subst ed
    cases r with
    | lst ha hx =>
      refine ⟨_, ns, rfl, by rw [← hx.strs]; exact ex_l E2.ex ha, few, fun out p pm srt hp => ?_⟩
      have hb := fresh_back E2.ex hp
      exact ⟨B2, p, .lst (out.map Dt.str), ⟨g.b, g.h.trans (Ex.new hp), Ex.mut E2.ex hb, g.o⟩, rfl, fresh_back g.h hp, hb, ⟨_, upd_same, rpl_strs out⟩, q out pm srt⟩)⟩
theorem walk_zL {K : PySem.W.Frag} {a b : Addr} {xs ys : List V} {n : Nat} (hn : n = min xs.length ys.length) : Walk (Itz K a b) n (fun H => SqL K H a xs ∧ SqL K H b ys) (YPair (fun i => xs[i]?) (fun i => ys[i]?)) := by
  subst hn
  refine ⟨fun i _ hi q => ?_, fun _ q => ⟨xs, ys, q.1, q.2, by omega⟩, fun i H v H' _ q y => ?_⟩
  · have h1 : i < xs.length := by omega
    have h2 : i < ys.length := by omega
    exact ⟨xs, ys, xs[i], ys[i], q.1, q.2, List.getElem?_eq_getElem h1, List.getElem?_eq_getElem h2⟩
  · obtain ⟨T, x, z, h1, h2, h3, h4, h5⟩ := y
    exact ⟨T, x, z, h1, h2, h3, h4 xs q.1, h5 ys q.2⟩
theorem i_zipL {Q : List Dt → Prop} {p tpos : Pos} {elts : List Expr} {kk : Nat} (hg : Gl X "zip") (hm : X.mg "zip" = none) (h : DE X ρ a fun d => lstQ d fun ds => DE X ρ b fun d' => lstQ d' fun es => Q (zipD ds es)) (hs : starEach [a, b] X.env = (false, eval a X.env) :: starEach [b] X.env := by rfl) (hs2 : starEach [b] X.env = (false, eval b X.env) :: starEach [] X.env := by rfl)
    (hpl : (backTo pos (starEach [b] X.env)).any (·.1) = false := by rfl) (fo : ∀ x, foldedSetIterable (.Call (.Name "zip" p) [a, b] [] pos) X.env x = pure x := by intro _; rfl) : DI X ρ (.Tuple elts kk tpos) (.Call (.Name "zip" p) [a, b] [] pos) Q :=
  ⟨⟨_, pi_zip hg hm (pa_cons pe_sem (pa_cons pe_sem pa_nil hs2) hs) hs hpl, fun H0 B σ H R E k => h.go E fun B2 v d H2 g E2 r q => by
    cases r with
    | lst ha hx =>
      refine q.go E2 fun B3 w d' H3 g3 E3 r3 q3 => ?_
      cases r3 with
      | lst hb hy =>
        refine ⟨_, _, _, _, rfl, ex_l (g3.b.trans E3.ex) ha, ex_l E3.ex hb, k B3 H3 _ _ (g.trans g3) E3 ⟨_, _, walk_zL ?_, fun H' e' => ⟨ex_l (g3.b.trans e') ha, ex_l e' hb⟩, ?_⟩ q3⟩
        · unfold zipD; rw [List.length_map, List.length_zip, hx.len, hy.len]
        · refine ypair (fun i v h _ => (hx.ex g3.b).at h) (fun i v h _ => hy.at h) fun i a b ha hb _ => ?_
          unfold zipD
          have hz : (List.zip _ _)[i]? = some (a, b) := List.getElem?_zip_eq_some.mpr ⟨ha, hb⟩
          rw [List.getElem?_map, hz]; rfl
      | _ => exact q3.elim
    | _ => exact q.elim⟩, fo⟩
end
/-! calls by keyword, by data -/
structure DK (X : Cx) (ρ : List Sl) (kws : List Keyword) (Q : List Dt → Prop) : Prop where
  run : ∀ H0 B σ H, En X.K H0 B ρ σ H → semK X kws σ H fun vs H2 => ∃ B2 ds, Gr B H B2 H2 ∧ RpL X.K B2 vs ds ∧ Q ds
structure OwnDK (P : Program) (w : World) (K : PySem.W.Frag) (mg : Str → Option Value) (base : Heap) (nm : Str) (ps qs : List Str) (ix : List Nat) (lv : Nat) (S : List Dt → (Dt → Prop) → Prop) : Prop where
  own : OwnK P w K mg base nm ps qs ix lv (spD K S)
  mono : ∀ ds (Q Q' : Dt → Prop), (∀ d, Q d → Q' d) → S ds Q → S ds Q'
theorem RpL.atI {K : PySem.W.Frag} {B : Hp} {vs : List V} {ds : List Dt} (r : RpL K B vs ds) : ∀ ix : List Nat, RpL K B (at_ ix vs) (at_ ix ds)
  | [] => .nil
  | i :: t => by
    have ih := RpL.atI r t
    unfold at_ at ih ⊢
    rw [List.filterMap_cons, List.filterMap_cons]
    cases e : vs[i]? with
    | none =>
      have e2 : ds[i]? = none := by rw [List.getElem?_eq_none_iff] at e ⊢; rw [← r.len]; exact e
      rw [e2]; exact ih
    | some v =>
      obtain ⟨d, e2, rd⟩ := r.at e
      rw [e2]; exact .cons rd ih
section
variable {X : Cx} {ρ : List Sl} {e : Expr} {kws : List Keyword} {kn : Option Str} {kp q1 q2 : Pos} {Q : Dt → Prop} {nm : Str} {ps qs : List Str} {ix : List Nat} {lv : Nat} {S : List Dt → (Dt → Prop) → Prop}
theorem k_nil {Q : List Dt → Prop} (q : Q []) : DK X ρ [] Q := ⟨fun H0 B σ H E => semK_of pk_nil ⟨B, [], Gr.refl E.ex, .nil, q⟩⟩
theorem k_cons {Q : List Dt → Prop} (h : DE X ρ e fun d => DK X ρ kws fun ds => Q (d :: ds)) : DK X ρ (⟨kn, e, kp⟩ :: kws) Q :=
  ⟨fun H0 B σ H E => semK_of (pk_cons pe_sem pk_sem) (h.go E fun B2 v d H2 g E2 r q => semK_mono (q.run H0 B2 σ H2 E2) fun vs H3 ⟨B3, ds, g3, rs, q3⟩ => ⟨B3, _, g.trans g3, .cons (r.ex g3.b) rs, q3⟩)⟩
theorem d_ownK (O : OwnDK X.prog X.w X.K X.mg X.base nm ps qs ix lv S) (hr : Room lv X.A) (hg : Gl X nm) (h : DK X ρ kws fun ds => ds.length = qs.length ∧ S (at_ ix ds) Q)
    (hall : (backToKw q2 (keywordEach kws X.env)).all (·.1.isSome) = true := by rfl) (hks : (backToKw q2 (keywordEach kws X.env)).filterMap (·.1) = qs := by rfl) (hdb : (nm == ("__debug__" : Str)) = false := by decide)
    (hpl : ((backTo q2 (starEach [] X.env)).any (·.1) || (backToKw q2 (keywordEach kws X.env)).any (·.1.isNone)) = false := by rfl) : DE X ρ (.Call (.Name nm q1) [] kws q2) Q := by
  obtain ⟨g, fd, F, hk, hb, hm⟩ := O.own.ex
  refine ⟨fun H0 B σ H En pins s I => wpAny_Call_Name_kw (ld_glob I hg hm (PySem.W.callWith_KW0 (h₀ := X.base) I.ok.mod.kin hk hall ?_ hpl) hdb)⟩
  refine thn (h.run H0 B σ H En q2 pins s I) fun ws s2 ⟨vs, H2, I2, rz, B2, ds, g2, rs, hl, q⟩ => ⟨I2.kIn, ?_⟩
  rw [hks]
  have hl2 : ws.length = qs.length := by rw [← rz.length, rs.len]; exact hl
  have hsp : spD X.K S (at_ ix vs) H2 (fun v H3 => ∃ B3 d, Gr B H B3 H3 ∧ Rp X.K B3 v d ∧ Q d) (fun _ _ _ => False) := ⟨B2, at_ ix ds, g2.s, rs.atI ix, O.mono _ _ _ (fun d q B3 v H3 g3 r => ⟨B3, d, g2.trans g3, r, q⟩) q⟩
  refine wpAny_call (codeAny_mono (F.run X.A X.stack s2 H2 ⟨[], qs.zip ws⟩ (at_ ix ws) (at_ ix vs) _ _ hr I2.env0 (hb s2 ws hl2) (Vals.at_ rz ix) hsp) fun r s' hq => ?_)
  match r, hq with
  | .error e, hq => exact False.elim (by obtain ⟨_, _, _, _, _, _, _, _, h⟩ := hq)
  | .ok (.ret u), hq => exact I2.after hq
  | .ok .next, hq => exact False.elim hq
  | .ok .brk, hq => exact False.elim hq
  | .ok .cont, hq => exact False.elim hq
end
end Z
set_option Elab.async false
set_option linter.all false
set_option maxRecDepth 100000
set_option maxHeartbeats 8000000
/-! sorted(set(a list of texts)) -/
namespace Y
open PySem PySem.Spec PyProof.Rows L2
/-- the text of a row of a set's table -/
def txOf (e : Int × Value) : Str := match e.2 with
  | .str s _ => s
  | _ => Str.empty
def TxRow (w : World) (e : Int × Value) : Prop := ∃ s u, e.2 = .str s u ∧ e.1 = hashStr w s
/-- the rows es are those of the texts L -/
structure TxRows (w : World) (es : Array (Int × Value)) (L : List Str) : Prop where
  g : ∀ e ∈ es.toList, TxRow w e
  p : (es.toList.map txOf).Perm L
  n : L.Nodup
def Led (w : World) (t : SetTable) : Prop := w.params.followText "set-order" = true ∨ t.led = true
/-- a set of texts that can be walked -/
structure TxSet (w : World) (h : Heap) (a : Addr) (L : List Str) : Prop where
  ex : ∃ o es ep t, h.get? a = some o ∧ o.ExactSet ∧ o.data = .set es ep t ∧ TxRows w es L ∧ es.size < scanBound ∧ t.fits es.size = true ∧ Ris t.place.toList ∧ Led w t
section
variable {P : Program} {w : World} {h h' : Heap} {a : Addr} {L : List Str} {es es' : Array (Int × Value)}
theorem TxSet.keep (R : TxSet w h a L) (k : ∀ o, h.get? a = some o → h'.get? a = some o) : TxSet w h' a L := let ⟨o, es, ep, t, ho, r⟩ := R.ex; ⟨o, es, ep, t, k o ho, r⟩
theorem TxRows.size (r : TxRows w es L) : es.size = L.length := by rw [← r.p.length_eq, List.length_map, Array.length_toList]
theorem txRow_is {e : Int × Value} (g : TxRow w e) (k : Str) : (strKind P w).is k e.2 = true ↔ txOf e = k := by
  obtain ⟨s, u, e1, _⟩ := g
  unfold txOf; rw [e1]
  exact ⟨fun z => (strKind P w).inj (.str s u) s k (PySem.Froz.is_str s u) z, fun z => by subst z; exact PySem.Froz.is_str _ u⟩
theorem TxRows.mem (r : TxRows w es L) (k : Str) : k ∈ L ↔ ∃ e ∈ es.toList, (strKind P w).is k e.2 = true := by
  rw [← r.p.mem_iff, List.mem_map]
  exact ⟨fun ⟨e, he, z⟩ => ⟨e, he, (txRow_is (r.g e he) k).2 z⟩, fun ⟨e, he, z⟩ => ⟨e, he, (txRow_is (r.g e he) k).1 z⟩⟩
end
section
variable {P : Program} {w : World} {A : Around} {E : Value → Shared → Prop} {s : Shared} {a : Addr} {L : List Str}
/-- what has been put in of xs -/
structure Into (xs L : List Str) : Prop where
  m : ∀ k, k ∈ L ↔ k ∈ xs
  l : L.length ≤ xs.length
  n : L.Nodup
theorem Into.next {xs L : List Str} {i : Nat} {k : Str} (g : Into (xs.take i) L) (h : xs[i]? = some k) : Into (xs.take (i + 1)) (if k ∈ L then L else k :: L) := by
  have e : xs.take (i + 1) = xs.take i ++ [k] := by rw [List.take_add_one, h]; rfl
  rw [e]
  refine ⟨fun q => ?_, ?_, ?_⟩
  · rw [List.mem_append, List.mem_singleton, ← g.m q]
    by_cases m : k ∈ L
    · rw [if_pos m]; exact ⟨.inl, fun z => z.elim id fun z => z ▸ m⟩
    · rw [if_neg m, List.mem_cons]; exact or_comm
  · rw [List.length_append, List.length_singleton]
    have := g.l
    split
    · omega
    · rw [List.length_cons]; omega
  · split
    · exact g.n
    · rename_i m; exact List.nodup_cons.mpr ⟨m, g.n⟩
end
end Y
set_option Elab.async false
set_option linter.all false
set_option maxRecDepth 100000
set_option maxHeartbeats 8000000
namespace Y
open PySem PySem.Spec PyProof.Rows L2
end Y
namespace Z
open PySem PySem.Spec PyProof.Rows L2 Evl Y
end Z
set_option Elab.async false
set_option linter.all false
set_option maxRecDepth 100000
set_option maxHeartbeats 4000000
/-! slices of tuples and lists by data; comparisons of known outcome -/
namespace Z
open PySem PySem.Spec PyProof.Rows L2 Y
open Evl (Ex st_of sq_of ex_l ex_t fresh_back sz_of sz_lt)
theorem cutD_dr {ds : List Dt} {n : Nat} : cutD ds (some (n : Int)) none = ds.drop n := by
  unfold cutD
  rw [show HT.sIx ds.length 0 (some (n : Int)) = min n ds.length from HT.sIx_nat _ 0 n, HT.sIx_none]
  by_cases h : n ≤ ds.length
  · rw [Nat.min_eq_left h]
    exact List.take_of_length_le (by rw [List.length_drop]; exact Nat.le_refl _)
  · rw [Nat.min_eq_right (by omega), List.drop_of_length_le (Nat.le_refl _), List.drop_of_length_le (by omega)]
    exact List.take_nil
theorem cutD_tk {ds : List Dt} {n : Nat} : cutD ds none (some (n : Int)) = ds.take n := by
  unfold cutD
  rw [show HT.sIx ds.length ds.length (some (n : Int)) = min n ds.length from HT.sIx_nat _ _ n, HT.sIx_none, List.drop_zero, Nat.sub_zero]
  by_cases h : n ≤ ds.length
  · rw [Nat.min_eq_left h]
  · rw [Nat.min_eq_right (by omega), List.take_of_length_le (Nat.le_refl _), List.take_of_length_le (by omega)]
section
variable {X : Cx} {ρ : List Sl} {a b c : Expr} {Q : Dt → Prop} {p1 p2 : Pos}
theorem d_drT (h : DE X ρ a fun x => ∃ ds, x = .tup ds ∧ DE X ρ b fun y => ∃ n : Nat, y = .int (n : Int) ∧ Q (.tup (ds.drop n))) : DE X ρ (.Subscript a (.Slice (some b) none none p2) p1) Q :=
  d_sl (h.weak fun x ⟨ds, ex, q⟩ => (show DE X ρ b _ from q.weak fun y ⟨n, ey, q⟩ => by
    subst ex ey
    show Q _
    rw [cutD_dr]; exact q))
theorem d_tkT (h : DE X ρ a fun x => ∃ ds, x = .tup ds ∧ DE X ρ b fun y => ∃ n : Nat, y = .int (n : Int) ∧ Q (.tup (ds.take n))) : DE X ρ (.Subscript a (.Slice none (some b) none p2) p1) Q :=
  d_sl (h.weak fun x ⟨ds, ex, q⟩ => (show DE X ρ b _ from q.weak fun y ⟨n, ey, q⟩ => by
    subst ex ey
    show Q _
    rw [cutD_tk]; exact q))
theorem n_drL (h : DE X ρ a fun x => ∃ ds, x = .lst ds ∧ DE X ρ b fun y => ∃ n : Nat, y = .int (n : Int) ∧ Q (.lst (ds.drop n))) : DN X ρ (.Subscript a (.Slice (some b) none none p2) p1) Q :=
  n_sl (h.weak fun x ⟨ds, ex, q⟩ => (show DE X ρ b _ from q.weak fun y ⟨n, ey, q⟩ => by
    subst ex ey
    show Q _
    rw [cutD_dr]; exact q))
theorem n_tkL (h : DE X ρ a fun x => ∃ ds, x = .lst ds ∧ DE X ρ b fun y => ∃ n : Nat, y = .int (n : Int) ∧ Q (.lst (ds.take n))) : DN X ρ (.Subscript a (.Slice none (some b) none p2) p1) Q :=
  n_sl (h.weak fun x ⟨ds, ex, q⟩ => (show DE X ρ b _ from q.weak fun y ⟨n, ey, q⟩ => by
    subst ex ey
    show Q _
    rw [cutD_tk]; exact q))
end
end Z
set_option Elab.async false
set_option linter.all false
set_option maxRecDepth 100000
set_option maxHeartbeats 4000000
/-! own defs by position and by name; a law, by data from its first row on; calls without arguments -/
namespace Z
open PySem PySem.Spec PyProof.Rows L2 Y
open Evl (Ex st_of sq_of ex_l ex_t fresh_back sz_of sz_lt)
section
variable {P : Program} {w : World} {K : PySem.W.Frag} {mg : Str → Option Value} {base : Heap} {nm : Str} {ps qs N : List Str} {ix : List Nat} {k : Nat} {st : Stmt} {S : List Dt → (Dt → Prop) → Prop}
theorem ownDB (D : Def K mg nm st) (Sc : FnScope N ps (defScope st)) (mono : ∀ ds (Q Q' : Dt → Prop), (∀ d, Q d → Q' d) → S ds Q → S ds Q') (hlen : ∀ ds Q, S ds Q → ds.length = ps.length)
    (hb : ∀ (kV doc pm : Value) (an : Option Addr) (cdv ct : Value) (us : List Value), us.length = ps.length → bindArgs (PySem.W.fnOf nm nm (defArgs st) (defBody st) (defScope st) .none kV doc pm an cdv ct) ⟨us, []⟩ = pure (ps.zip us))
    (hbK : ∀ (kV doc pm : Value) (an : Option Addr) (cdv ct : Value) (us : List Value), us.length = qs.length → bindArgs (PySem.W.fnOf nm nm (defArgs st) (defBody st) (defScope st) .none kV doc pm an cdv ct) ⟨[], qs.zip us⟩ = pure (ps.zip (at_ ix us)))
    (hbody : ∀ (X : Cx) (ds : List Dt) (Q : Dt → Prop), (∃ (f : Addr) (cdv : Value) (A : Around) (outer : List Env) (s : Shared) (H : Hp) (E : XK), X = (cxOf CX0 P w K mg base N nm (defScope st) f cdv A outer s H E).nox) → Room k X.A → S ds Q → DS X (startD N ds) (defBody st) { nx := fun _ => Q .non, rt := Q }) :
    OwnD P w K mg base nm ps (k + 1) S ∧ OwnDK P w K mg base nm ps qs ix (k + 1) S := by
  obtain ⟨a, b⟩ := Def.both (P := P) (w := w) (base := base) (lv := k + 1) (sp := spD K S) (ps := ps) (qs := qs) (ix := ix) D (fun f fd F => (fun_own (sp := spD K S) (ps := ps) (k := k) F Sc (fun vs H Q E h => by
    obtain ⟨B, ds, _, r, h⟩ := h
    rw [r.len]; exact hlen _ _ h) hb (by
    rintro X H vs Q E ⟨f, cdv, A, outer, s, rfl⟩ hr h
    obtain ⟨B, ds, e, r, h⟩ := h
    refine ⟨fun H1 e1 => ?_⟩
    exact (hbody _ ds _ ⟨f, cdv, A, outer, s, H, E, rfl⟩ hr h).run H1 B B _ H1 _ (Gr.refl (e.trans e1)) (en_start (e.trans e1) r) ⟨fun ρ B2 σ H2 q g E => q B2 .non H2 (Gr.back e1 g) .non, fun d B2 v H2 q g r => q B2 v H2 (Gr.back e1 g) r, fun _ _ _ _ q => q.elim, fun _ _ _ _ q => q.elim, fun _ _ _ _ q => q.elim, fun _ _ _ _ _ q => q.elim⟩)).1) hb hbK
  exact ⟨⟨a, mono⟩, ⟨b, mono⟩⟩
/-- what a law is asked -/
def spLaw (K : PySem.W.Frag) : Sp := fun vs H Q _ => ∃ (a : Addr) (ns : List Int), vs = [.ref a] ∧ SqL K H a (ns.map V.int) ∧ ns.length ≤ 63 ∧ ∀ H', Ex H H' → Q (.bl true) H'
/-- a law, by data -/
theorem law_D {lf : Addr} {fd : FuncData} (F : Fun K "law" "law" st lf fd) (Sc : FnScope N ["_law_script"] (defScope st))
    (hbody : ∀ (X : Cx) (ns : List Int), (∃ (f : Addr) (cdv : Value) (A : Around) (outer : List Env) (s : Shared) (H : Hp) (E : XK), X = (cxOf CX0 P w K mg base N "law" (defScope st) f cdv A outer s H E).nox) → X.A.guards = some [] → Room k X.A → ns.length ≤ 63 →
      DS X (startD N [.lst (ns.map Dt.int)]) (defBody st) { nx := fun _ => False, rt := fun d => d = .bl true }) : FnG P w K mg base (k + 1) lf fd ["_law_script"] (spLaw K) := by
  refine fun_G (sp := spLaw K) (ps := ["_law_script"]) (k := k) F Sc (fun vs H Q E h => ?_) ?_
  · obtain ⟨a, ns, rfl, _⟩ := h
    rfl
  · rintro X H vs Q E ⟨f, cdv, A, outer, st', rfl⟩ hgu hr h
    obtain ⟨sa, ns, rfl, hx, hz, q⟩ := h
    refine ⟨fun H1 e1 => ?_⟩
    refine (hbody _ ns ⟨f, cdv, A, outer, st', H, E, rfl⟩ hgu hr hz).run H1 H1 H1 _ H1 _ (Gr.refl (Ex.refl _)) (en_start (Ex.refl _) (.cons (.lst (ex_l e1 hx) (rpl_ints ns)) .nil)) ⟨fun ρ B2 σ H2 q g E => q.elim, fun d B2 v H2 qd g r => ?_, fun _ _ _ _ q => q.elim, fun _ _ _ _ q => q.elim, fun _ _ _ _ q => q.elim, fun _ _ _ _ _ q => q.elim⟩
    subst qd
    cases r
    exact q H2 (e1.trans g.h)
end
end Z
set_option Elab.async false
set_option linter.all false
set_option maxRecDepth 100000
set_option maxHeartbeats 4000000
/-! x, y = a, b: the one frozen, the other new -/
namespace Z
open PySem PySem.Spec PyProof.Rows L2 Y
open Evl (Ex st_of sq_of ex_l ex_t fresh_back sz_of sz_lt)
section
variable {X : Cx} {ρ : List Sl} {a b : Expr} {rest : List Stmt} {E : DEnds} {x y : Str} {pos px py pt pt2 : Pos}
theorem s_parFO {kt k2 : Nat} (i j : Nat) (h : DE X ρ a fun d1 => DN X ρ b fun d2 => DS X ((ρ.set i (.fr d1)).set j (.ow d2)) rest E) (hc : X.calm = true) (hN : X.N.Nodup) (hij : i ≠ j) (hi : X.N[i]? = some x := by rfl) (hj : X.N[j]? = some y := by rfl)
    (hx : X.env.scope.names.lookup x = some .local := by rfl) (hy : X.env.scope.names.lookup y = some .local := by rfl)
    (hw : swappedStores [.Tuple [.Name x px, .Name y py] kt pt] (.Tuple [a, b] k2 pt2) X.env = pure (some [x, y]) := by rfl) (hs : swapsWithSole [.Tuple [.Name x px, .Name y py] kt pt] (.Tuple [a, b] k2 pt2) pos.line X.env = pure false := by rfl)
    (he : starEach [a, b] X.env = (false, eval a X.env) :: starEach [b] X.env := by rfl) (he2 : starEach [b] X.env = (false, eval b X.env) :: starEach [] X.env := by rfl) :
    DS X ρ (.Assign [.Tuple [.Name x px, .Name y py] kt pt] (.Tuple [a, b] k2 pt2) pos :: rest) E :=
  ⟨fun H0 B0 B σ H D g En => fun L => semS_of (pss_cons (ps_par hc hN hi hj hij hx hy (pa_cons pe_sem (pa_cons pe_sem pa_nil he2) he) hw hs) pss_sem) (h.go En fun B2 v1 d1 H2 g2 E2 r1 q1 => q1.go E2 fun B3 p2 d2 H3 g3 E3 hp2 hb2 o2 q2 => ⟨_, _, rfl, by
    have E4 := E3.set (i := i) (r1.ex g3.b)
    refine q2.run H0 B0 B3 _ H3 D ((g.trans g2).trans g3) (E4.setO hb2 (fresh_back (g.trans g2).h hp2) o2 fun k d z1 z2 => ?_) L
    by_cases z : i = k
    · subst z
      by_cases hl : i < ρ.length
      · rw [List.getElem?_set_self hl] at z1; cases z1
      · rw [List.getElem?_eq_none (by rw [List.length_set]; omega)] at z1; cases z1
    · rw [List.getElem?_set_ne z] at z1 z2
      exact Z.En.noSlot (i := j) E2 hp2 k d z1 z2⟩)⟩
end
end Z
set_option Elab.async false
set_option linter.all false
set_option maxRecDepth 100000
set_option maxHeartbeats 4000000
/-! sorted(pairs of a text and a number): a new list of the same pairs, by their texts; by data -/
namespace Z
open PySem PySem.Spec PyProof.Rows L2 Evl Y
/-- a pair of a text and a number, in the heap -/
def IsTI (h : Heap) (v : Value) (k : Str × Int) : Prop := ∃ (a : Addr) (o : Obj) (t u : Tok) (n : Nat), v = .ref a ∧ h.get? a = some o ∧ o.cls = .type "tuple" ∧ o.data = .seq #[.str k.1 t, .int k.2 u] n
def shTI : Nat → Bool := fun i => i == 0
theorem IsTI.key {h : Heap} {v : Value} {k : Str × Int} (e : IsTI h v k) : PyProof.Rows.G.tupKeyC h shTI v = some [Sum.inr k.1.cps.toList, Sum.inl k.2] := by
  obtain ⟨a, o, t, u, n, rfl, ho, hc, hd⟩ := e
  exact PyProof.Rows.G.tupKeyC_of ho hc hd rfl
theorem IsTI.tups {h : Heap} {k : Value → Str × Int} : ∀ {vs : List Value}, (∀ v ∈ vs, IsTI h v (k v)) → ∃ fs, TupsOf h shTI vs fs
  | [], _ => ⟨[], .nil⟩
  | v :: vs, e => by
    obtain ⟨fs, hf⟩ := IsTI.tups (vs := vs) fun x hx => e x (List.mem_cons_of_mem _ hx)
    obtain ⟨a, o, t, u, n, ev, ho, hc, hd⟩ := e v List.mem_cons_self
    exact ⟨_ :: fs, .cons ⟨a, o, _, n, ev, ho, hc, hd, rfl, fun z => by simp [shTI] at z, fun _ => ⟨_, _, rfl⟩⟩ hf⟩
end Z
set_option Elab.async false
set_option linter.all false
set_option maxRecDepth 100000
set_option maxHeartbeats 4000000
/-! tuples that have no dict: made, read as pairs by dict(); list * int; int(truth); three names at once, the first one's own; by data -/
namespace Y
open PySem PySem.Spec PyProof.Rows L2
end Y
namespace Z
open PySem PySem.Spec PyProof.Rows L2 Evl Y
section
variable {X : Cx} {ρ : List Sl} {e a b c o : Expr} {es : List Expr} {Q Q' : Dt → Prop} {σ : L2.St} {d : Dt} {pos p1 p2 p3 q1 q2 px py pz pt : Pos} {rest : List Stmt} {E : DEnds}
/-- list * int -/
theorem n_repL (h : DW1 X ρ a fun d1 => DE X ρ b fun d2 => ∃ xs k, d1 = .lst xs ∧ d2 = .int k ∧ (-1000 ≤ k ∧ k ≤ 1000) ∧ xs.length ≤ 1000 ∧ Q (.lst (List.replicate k.toNat xs).flatten)) : DN X ρ (.BinOp a .Mult b pos) Q :=
  ⟨fun H0 B σ H E => sem_of (pe_op op_rep pe_sem pe_sem) (h.go E fun B2 p d H2 g E2 od q => q.go E2 fun B3 v' d' H3 g3 E3 r3 ⟨xs, k, ed, ed', ⟨k0, k1⟩, hl, qq⟩ => by
    subst ed ed'
    cases r3
    obtain ⟨vs, hp, rv⟩ := od
    have hlen : vs.length * k.toNat ≤ 1000 * 1000 := Nat.mul_le_mul (by rw [rv.len]; exact hl) (by omega)
    refine ⟨p, k, vs, rfl, rfl, g3.h _ _ hp, by omega, by omega, Nat.le_trans hlen (by decide), fun r hr => ?_⟩
    have hb : B3 r = none := fresh_back E3.ex hr
    exact ⟨B3, r, .lst _, ⟨(g.trans g3).b, (g.trans g3).h.trans (Ex.new hr), Ex.mut E3.ex hb, (g.trans g3).o⟩, rfl, fresh_back (g.trans g3).h hr, hb, ⟨_, upd_same, (rv.ex g3.b).rep _⟩, qq⟩)⟩
end
end Z
set_option Elab.async false
set_option linter.all false
set_option maxRecDepth 100000
set_option maxHeartbeats 4000000
namespace E5
open PySem PySem.Spec PyProof.Rows L2 Y Z
abbrev sp_is_integer : Stmt := topS 3
abbrev np_is_integer : List Str := ["thing"]
theorem cp_is_integer : FnScope np_is_integer ["thing"] (defScope sp_is_integer) := ⟨rfl, rfl, rfl, by decide +kernel, rfl, by decide +kernel, by decide +kernel⟩
abbrev sp_is_plain_word : Stmt := topS 4
abbrev np_is_plain_word : List Str := ["thing", "letter"]
theorem cp_is_plain_word : FnScope np_is_plain_word ["thing"] (defScope sp_is_plain_word) := ⟨rfl, rfl, rfl, by decide +kernel, rfl, by decide +kernel, by decide +kernel⟩
abbrev sp_is_ascending : Stmt := topS 5
abbrev np_is_ascending : List Str := ["things", "one", "other"]
theorem cp_is_ascending : FnScope np_is_ascending ["things"] (defScope sp_is_ascending) := ⟨rfl, rfl, rfl, by decide +kernel, rfl, by decide +kernel, by decide +kernel⟩
abbrev sp_is_permutation : Stmt := topS 6
abbrev np_is_permutation : List Str := ["thing", "size", "part"]
theorem cp_is_permutation : FnScope np_is_permutation ["thing", "size"] (defScope sp_is_permutation) := ⟨rfl, rfl, rfl, by decide +kernel, rfl, by decide +kernel, by decide +kernel⟩
abbrev sp_is_table : Stmt := topS 13
abbrev np_is_table : List Str := ["thing", "kinds", "conflicts"]
theorem cp_is_table : FnScope np_is_table ["thing"] (defScope sp_is_table) := ⟨rfl, rfl, rfl, by decide +kernel, rfl, by decide +kernel, by decide +kernel⟩
abbrev sp_are_kinds : Stmt := topS 14
abbrev np_are_kinds : List Str := ["thing", "kind"]
theorem cp_are_kinds : FnScope np_are_kinds ["thing"] (defScope sp_are_kinds) := ⟨rfl, rfl, rfl, by decide +kernel, rfl, by decide +kernel, by decide +kernel⟩
abbrev sp_are_conflicts : Stmt := topS 15
abbrev np_are_conflicts : List Str := ["kinds", "thing", "pair"]
theorem cp_are_conflicts : FnScope np_are_conflicts ["kinds", "thing"] (defScope sp_are_conflicts) := ⟨rfl, rfl, rfl, by decide +kernel, rfl, by decide +kernel, by decide +kernel⟩
abbrev sp_is_pair : Stmt := topS 16
abbrev np_is_pair : List Str := ["kinds", "thing", "one", "other"]
theorem cp_is_pair : FnScope np_is_pair ["kinds", "thing"] (defScope sp_is_pair) := ⟨rfl, rfl, rfl, by decide +kernel, rfl, by decide +kernel, by decide +kernel⟩
abbrev sp_check_table : Stmt := topS 17
abbrev np_check_table : List Str := ["table"]
theorem cp_check_table : FnScope np_check_table ["table"] (defScope sp_check_table) := ⟨rfl, rfl, rfl, by decide +kernel, rfl, by decide +kernel, by decide +kernel⟩
abbrev sp_pair_in : Stmt := topS 18
abbrev np_pair_in : List Str := ["table", "one", "other", "kind"]
theorem cp_pair_in : FnScope np_pair_in ["table", "one", "other"] (defScope sp_pair_in) := ⟨rfl, rfl, rfl, by decide +kernel, rfl, by decide +kernel, by decide +kernel⟩
abbrev sp_does_conflict : Stmt := topS 19
abbrev np_does_conflict : List Str := ["table", "one", "other"]
theorem cp_does_conflict : FnScope np_does_conflict ["table", "one", "other"] (defScope sp_does_conflict) := ⟨rfl, rfl, rfl, by decide +kernel, rfl, by decide +kernel, by decide +kernel⟩
abbrev sp_do_answer : Stmt := topS 23
abbrev np_do_answer : List Str := ["size", "thing", "part"]
theorem cp_do_answer : FnScope np_do_answer ["size", "thing"] (defScope sp_do_answer) := ⟨rfl, rfl, rfl, by decide +kernel, rfl, by decide +kernel, by decide +kernel⟩
abbrev sp_does_act : Stmt := topS 24
abbrev np_does_act : List Str := ["size", "thing", "kind", "moves", "answers"]
theorem cp_does_act : FnScope np_does_act ["size", "thing"] (defScope sp_does_act) := ⟨rfl, rfl, rfl, by decide +kernel, rfl, by decide +kernel, by decide +kernel⟩
abbrev sp_is_sort : Stmt := topS 25
abbrev np_is_sort : List Str := ["thing", "size", "operations", "part"]
theorem cp_is_sort : FnScope np_is_sort ["thing"] (defScope sp_is_sort) := ⟨rfl, rfl, rfl, by decide +kernel, rfl, by decide +kernel, by decide +kernel⟩
abbrev sp_acts_of : Stmt := topS 26
abbrev np_acts_of : List Str := ["sort", "kind", "moves", "answers"]
theorem cp_acts_of : FnScope np_acts_of ["sort"] (defScope sp_acts_of) := ⟨rfl, rfl, rfl, by decide +kernel, rfl, by decide +kernel, by decide +kernel⟩
abbrev sp_do_agree : Stmt := topS 27
abbrev np_do_agree : List Str := ["act", "other", "state", "moves", "answers", "other_moves", "other_answers"]
theorem cp_do_agree : FnScope np_do_agree ["act", "other", "state"] (defScope sp_do_agree) := ⟨rfl, rfl, rfl, by decide +kernel, rfl, by decide +kernel, by decide +kernel⟩
abbrev sp_quarrels : Stmt := topS 28
abbrev np_quarrels : List Str := ["act", "other", "state"]
theorem cp_quarrels : FnScope np_quarrels ["act", "other"] (defScope sp_quarrels) := ⟨rfl, rfl, rfl, by decide +kernel, rfl, by decide +kernel, by decide +kernel⟩
abbrev sp_table_of : Stmt := topS 29
abbrev np_table_of : List Str := ["sort", "acts", "pairs", "one", "other"]
theorem cp_table_of : FnScope np_table_of ["sort"] (defScope sp_table_of) := ⟨rfl, rfl, rfl, by decide +kernel, rfl, by decide +kernel, by decide +kernel⟩
abbrev sp_quarrels_of : Stmt := topS 30
abbrev np_quarrels_of : List Str := ["sort", "one", "other", "acts", "kind"]
theorem cp_quarrels_of : FnScope np_quarrels_of ["sort", "one", "other"] (defScope sp_quarrels_of) := ⟨rfl, rfl, rfl, by decide +kernel, rfl, by decide +kernel, by decide +kernel⟩
abbrev sp_judge_pair : Stmt := topS 31
abbrev np_judge_pair : List Str := ["sort", "one", "other", "states"]
theorem cp_judge_pair : FnScope np_judge_pair ["sort", "one", "other"] (defScope sp_judge_pair) := ⟨rfl, rfl, rfl, by decide +kernel, rfl, by decide +kernel, by decide +kernel⟩
abbrev sp_pair_holds : Stmt := topS 32
abbrev np_pair_holds : List Str := ["sort", "one", "other", "thing", "states"]
theorem cp_pair_holds : FnScope np_pair_holds ["sort", "one", "other", "thing"] (defScope sp_pair_holds) := ⟨rfl, rfl, rfl, by decide +kernel, rfl, by decide +kernel, by decide +kernel⟩
abbrev sl_pick : Stmt := topS 36
abbrev nl_pick : List Str := ["_law_deck_here", "_law_some"]
theorem cl_pick : FnScope nl_pick ["_law_deck_here", "_law_some"] (defScope sl_pick) := ⟨rfl, rfl, rfl, by decide +kernel, rfl, by decide +kernel, by decide +kernel⟩
abbrev sl_same : Stmt := topS 37
abbrev nl_same : List Str := ["_law_told", "_law_due"]
theorem cl_same : FnScope nl_same ["_law_told", "_law_due"] (defScope sl_same) := ⟨rfl, rfl, rfl, by decide +kernel, rfl, by decide +kernel, by decide +kernel⟩
abbrev sl_is_integer : Stmt := topS 38
abbrev nl_is_integer : List Str := ["_law_thing"]
theorem cl_is_integer : FnScope nl_is_integer ["_law_thing"] (defScope sl_is_integer) := ⟨rfl, rfl, rfl, by decide +kernel, rfl, by decide +kernel, by decide +kernel⟩
abbrev sl_is_number : Stmt := topS 39
abbrev nl_is_number : List Str := ["_law_thing"]
theorem cl_is_number : FnScope nl_is_number ["_law_thing"] (defScope sl_is_number) := ⟨rfl, rfl, rfl, by decide +kernel, rfl, by decide +kernel, by decide +kernel⟩
abbrev sl_shuffled : Stmt := topS 40
abbrev nl_shuffled : List Str := ["_law_deck_here", "_law_some", "_law_left", "_law_found", "_law_turn"]
theorem cl_shuffled : FnScope nl_shuffled ["_law_deck_here", "_law_some"] (defScope sl_shuffled) := ⟨rfl, rfl, rfl, by decide +kernel, rfl, by decide +kernel, by decide +kernel⟩
abbrev sl_moves : Stmt := topS 41
abbrev nl_moves : List Str := ["_law_deck_here", "_law_size", "_law_way", "_law_many", "_law_place", "_law_other"]
theorem cl_moves : FnScope nl_moves ["_law_deck_here", "_law_size"] (defScope sl_moves) := ⟨rfl, rfl, rfl, by decide +kernel, rfl, by decide +kernel, by decide +kernel⟩
abbrev sl_sort : Stmt := topS 42
abbrev nl_sort : List Str := ["_law_deck_here", "_law_most", "_law_size", "_law_kinds", "_law_operations", "_law_kind", "_law_way", "_law_last", "_law_answers", "_law_place"]
theorem cl_sort : FnScope nl_sort ["_law_deck_here", "_law_most"] (defScope sl_sort) := ⟨rfl, rfl, rfl, by decide +kernel, rfl, by decide +kernel, by decide +kernel⟩
abbrev sl_apart : Stmt := topS 43
abbrev nl_apart : List Str := ["_law_sort_here", "_law_one", "_law_other", "_law_ops", "_law_item", "_law_moves_here", "_law_answers", "_law_steps", "_law_words", "_law_found", "_law_state", "_law_near", "_law_far"]
theorem cl_apart : FnScope nl_apart ["_law_sort_here", "_law_one", "_law_other"] (defScope sl_apart) := ⟨rfl, rfl, rfl, by decide +kernel, rfl, by decide +kernel, by decide +kernel⟩
abbrev sl_table_of : Stmt := topS 44
abbrev nl_table_of : List Str := ["_law_sort_here", "_law_kinds", "_law_item", "_law_found", "_law_at", "_law_one", "_law_other"]
theorem cl_table_of : FnScope nl_table_of ["_law_sort_here"] (defScope sl_table_of) := ⟨rfl, rfl, rfl, by decide +kernel, rfl, by decide +kernel, by decide +kernel⟩
abbrev sl_bent : Stmt := topS 45
abbrev nl_bent : List Str := ["_law_deck_here", "_law_thing", "_law_odd", "_law_at", "_law_way"]
theorem cl_bent : FnScope nl_bent ["_law_deck_here", "_law_thing", "_law_odd"] (defScope sl_bent) := ⟨rfl, rfl, rfl, by decide +kernel, rfl, by decide +kernel, by decide +kernel⟩
abbrev sl_is_right : Stmt := topS 46
abbrev nl_is_right : List Str := ["_law_apart_here", "_law_thing"]
theorem cl_is_right : FnScope nl_is_right ["_law_apart_here", "_law_thing"] (defScope sl_is_right) := ⟨rfl, rfl, rfl, by decide +kernel, rfl, by decide +kernel, by decide +kernel⟩
abbrev sp_law : Stmt := topS 47
abbrev np_law : List Str := ["_law_script", "_law_deck_here", "_law_sort_here", "_law_table", "_law_kinds", "_law_turn", "_law_one", "_law_other", "_law_apart_here", "_law_told", "_law_state", "_law_some", "_law_thing"]
theorem cp_law : FnScope np_law ["_law_script"] (defScope sp_law) := ⟨rfl, rfl, rfl, by decide +kernel, rfl, by decide +kernel, by decide +kernel⟩
end E5
set_option linter.all false
set_option maxRecDepth 100000
namespace E5
open PySem PyProof.Rows
/-- a word of letters from a to z -/
def Wd (s : Str) : Prop := 1 ≤ s.length ∧ s.length ≤ 10 ∧ ∀ c ∈ s.cps.toList, 97 ≤ c ∧ c ≤ 122
def ofCs (cs : List Nat) : Str := ⟨cs.toArray⟩
theorem str_eta (s : Str) : ofCs s.cps.toList = s := by
  cases s; simp [ofCs]
end E5
set_option linter.all false
set_option maxRecDepth 100000
namespace E5
open PySem PyProof.Rows PySem.Spec
/-- texts as they are sorted -/
def ltS (a b : Str) : Prop := a.cps.toList < b.cps.toList
instance (a b : Str) : Decidable (ltS a b) := inferInstanceAs (Decidable (a.cps.toList < b.cps.toList))
theorem ltCps_iff : ∀ a b : List Nat, ltCps a b = decide (a < b)
  | [], [] => by simp [ltCps]
  | [], _ :: _ => by simp [ltCps]
  | _ :: _, [] => by simp [ltCps]
  | a :: r, b :: t => by
    have ih := ltCps_iff r t
    rw [ltCps, ih]
    by_cases h : a < b
    · simp [h, List.cons_lt_cons_iff]
    · by_cases e : a = b
      · subst e; simp [List.cons_lt_cons_iff]
      · simp [h, e, List.cons_lt_cons_iff]
theorem ltS_trans {a b c : Str} (h : ltS a b) (g : ltS b c) : ltS a c := List.lt_trans h g
theorem str_ext {a b : Str} (h : a.cps.toList = b.cps.toList) : a = b := by
  rw [← str_eta a, ← str_eta b, h]
theorem ltS_tri (a b : Str) : ltS a b ∨ a = b ∨ ltS b a := by
  rcases Classical.em (a.cps.toList < b.cps.toList) with h | h
  · exact .inl h
  · rcases Classical.em (b.cps.toList < a.cps.toList) with g | g
    · exact .inr (.inr g)
    · exact .inr (.inl (str_ext (List.le_antisymm (List.not_lt.mp g) (List.not_lt.mp h))))
theorem rising_all : ∀ (l : List Str) (p : Str), risingS p l = true → (∀ x ∈ l, ¬ ltS x p) ∧ l.Pairwise fun a b => ¬ ltS b a
  | [], p, _ => ⟨fun _ h => (nomatch h), List.Pairwise.nil⟩
  | x :: r, p, h => by
    rw [risingS, Bool.and_eq_true, ltCps_iff] at h
    obtain ⟨h1, h2⟩ := h
    have hx : ¬ ltS x p := by
      rw [Bool.not_eq_true', decide_eq_false_iff_not] at h1
      exact h1
    obtain ⟨i1, i2⟩ := rising_all r x h2
    refine ⟨fun y hy => ?_, List.pairwise_cons.mpr ⟨i1, i2⟩⟩
    rcases List.mem_cons.mp hy with e | hy
    · rw [e]; exact hx
    · intro hl
      rcases ltS_tri x p with g | g | g
      · exact hx g
      · subst g; exact i1 y hy hl
      · exact i1 y hy (ltS_trans hl g)
/-- sorted, all different: ascending -/
theorem asc_of_sorted {ys ss : List Str} (hp : ys.Perm ss) (hs : sortedS ys = true) (hn : ss.Nodup) : ys.Pairwise ltS := by
  have hle : ys.Pairwise fun a b => ¬ ltS b a := by
    cases ys with
    | nil => exact List.Pairwise.nil
    | cons x r => exact List.pairwise_cons.mpr (rising_all r x hs)
  have hne : ys.Pairwise (· ≠ ·) := List.nodup_iff_pairwise_ne.mp (hp.nodup_iff.mpr hn)
  refine (hle.and hne).imp fun {a b} h => ?_
  rcases ltS_tri a b with g | g | g
  · exact g
  · exact absurd g h.2
  · exact absurd g h.1
end E5
set_option Elab.async false
set_option linter.all false
set_option maxRecDepth 100000
set_option maxHeartbeats 4000000
/-! the law's draws, by data -/
namespace E5
open PySem PySem.Spec PyProof.Rows L2 Y Z
open Evl (Ex st_of sq_of ex_l ex_t fresh_back sz_of sz_lt)
structure Blt (mg : Str → Option Value) : Prop where
  isi : mg "isinstance" = none
  int : mg "int" = none
  bool : mg "bool" = none
  str : mg "str" = none
  tuple : mg "tuple" = none
  len : mg "len" = none
  all : mg "all" = none
  zip : mg "zip" = none
theorem cutD_drop {xs : List Dt} {n : Nat} (h : n ≤ xs.length) : Z.cutD xs (some (n : Int)) none = xs.drop n := by
  unfold Z.cutD
  have h1 : HT.sIx xs.length xs.length none = xs.length := rfl
  have h0 : HT.sIx xs.length 0 (some (n : Int)) = min n xs.length := by
    unfold HT.sIx
    simp
    intro z; omega
  rw [h0, h1, Nat.min_eq_left h]
  exact List.take_of_length_le (by rw [List.length_drop]; exact Nat.le_refl _)
abbrev deckD (P : Program) (w : World) (dk lf : Addr) : Dt := .dk dk lf (phiD P w dk lf) (phiL P w lf)
section
variable {P : Program} {w : World} {K : PySem.W.Frag} {mg : Str → Option Value} {base : Heap}
theorem Deck.rp {H : Hp} {dk : Addr} (h : Deck P w H dk) : ∃ lf, Rp K H (.ref dk) (deckD P w dk lf) := let ⟨lf, a, b, c⟩ := h; ⟨lf, .dk a b c⟩
theorem rp_deck {B H : Hp} {v : V} {dk lf : Addr} (h : Rp K B v (deckD P w dk lf)) (e : Ex B H) : v = .ref dk ∧ Deck P w H dk := by
  cases h with
  | dk a b c => exact ⟨rfl, lf, e _ _ a, e _ _ b, c⟩
/-- a deck, from a script -/
def dDealt (P : Program) (w : World) : List Dt → (Dt → Prop) → Prop := fun ds Q => ∃ ns : List Int, ds = [.lst (ns.map Dt.int)] ∧ ns.length ≤ 63 ∧ ∀ dk lf : Addr, Q (deckD P w dk lf)
theorem ownD_dealt (O : Own P w K mg base "_law_deck" ["_law_script"] 1 (spDeck P w K)) : OwnD P w K mg base "_law_deck" ["_law_script"] 1 (dDealt P w) :=
  ⟨O.imp fun vs H Q E ⟨B, ds, s, r, ns, e, hl, q⟩ => by
    subst e
    cases r with
    | cons r1 r2 =>
      cases r2
      cases r1 with
      | lst ha hx => exact ⟨_, ns, rfl, by rw [← hx.ints]; exact ex_l s ha, hl, fun dk lf H' n1 n2 h1 h2 h3 e => by
          have b1 : B dk = none := fresh_back s n1
          have b2 : B lf = none := fresh_back s n2
          have e1 : Ex B (upd (upd B dk (.ext (phiD P w dk lf))) lf (.ext (phiL P w lf))) := (Ex.new b1).trans (Ex.new (by rw [upd_ne (Ne.symm h3)]; exact b2))
          refine q dk lf (upd (upd B dk (.ext (phiD P w dk lf))) lf (.ext (phiL P w lf))) _ H' ⟨e1, e, fun a o z => ?_, fun a u z m n => ?_⟩ (.dk (by rw [upd_ne h3, upd_same]) upd_same h3)
          · by_cases x2 : a = lf
            · subst x2; rw [upd_same] at z; rw [← z]; exact h2
            · rw [upd_ne x2] at z
              by_cases x1 : a = dk
              · subst x1; rw [upd_same] at z; rw [← z]; exact h1
              · rw [upd_ne x1] at z; exact (s.trans e) _ _ z
          · rw [upd_ne (fun y => by subst y; rw [n2] at z; cases z), upd_ne (fun y => by subst y; rw [n1] at z; cases z)]; exact n⟩, fun ds Q Q' k ⟨ns, e, a, q⟩ => ⟨ns, e, a, fun dk lf => k _ (q dk lf)⟩⟩
def dDraw (P : Program) (w : World) : List Dt → (Dt → Prop) → Prop := fun ds Q => ∃ (dk lf : Addr) (n : Int), ds = [deckD P w dk lf, .int n] ∧ 1 ≤ n ∧ n < 1073741824 ∧ ∀ r : Int, 0 ≤ r → r < n → Q (.int r)
theorem ownD_draw (O : Own P w K mg base "_law_draw" psDraw 1 (spDraw P w)) : OwnD P w K mg base "_law_draw" psDraw 1 (dDraw P w) :=
  ⟨O.imp fun vs H Q E ⟨B, ds, s, r, dk, lf, n, e, h1, h2, q⟩ => by
    subst e
    cases r with
    | cons r1 r2 =>
      cases r2 with
      | cons r3 r4 =>
        cases r3
        cases r4
        obtain ⟨ev, hd⟩ := rp_deck r1 s
        subst ev
        exact ⟨dk, n, rfl, hd, h1, h2, fun r H' r0 r1 e => q r r0 r1 B _ H' (Gr.more s e) (.int r)⟩, fun ds Q Q' k ⟨dk, lf, n, e, a, b, q⟩ => ⟨dk, lf, n, e, a, b, fun r r0 r1 => k _ (q r r0 r1)⟩⟩
/-- a pick: an item of a list, a sign of a text -/
def pickQ (x : Dt) (Q : Dt → Prop) : Prop := (∃ xs, x = .lst xs ∧ 1 ≤ xs.length ∧ xs.length < 1000000 ∧ ∀ d ∈ xs, Q d) ∨ ∃ s, x = .str s ∧ 1 ≤ s.length ∧ s.length < 1000 ∧ ∀ c ∈ s.cps.toList, Q (.str ⟨#[c]⟩)
def dPick (P : Program) (w : World) : List Dt → (Dt → Prop) → Prop := fun ds Q => ∃ (dk lf : Addr) (x : Dt), ds = [deckD P w dk lf, x] ∧ pickQ x Q
theorem pickQ.weak {x : Dt} {Q Q' : Dt → Prop} (h : pickQ x Q) (k : ∀ d, Q d → Q' d) : pickQ x Q' := h.imp (fun ⟨xs, e, a, b, q⟩ => ⟨xs, e, a, b, fun d h => k _ (q d h)⟩) fun ⟨s, e, a, b, q⟩ => ⟨s, e, a, b, fun d h => k _ (q d h)⟩
theorem ownD_pick (D : Def K mg "_law_pick" sl_pick) (O : OwnD P w K mg base "_law_draw" psDraw 1 (dDraw P w)) (ml : mg "len" = none) : OwnD P w K mg base "_law_pick" psPick 2 (dPick P w) := by
  refine ownD D cl_pick (fun ds Q Q' k ⟨dk, lf, x, e, q⟩ => ⟨dk, lf, x, e, q.weak k⟩) (fun ds Q ⟨dk, lf, xs, e, _⟩ => by subst e; rfl) (fun _ _ _ _ _ _ us hl => match us, hl with | [_, _], _ => rfl) ?_
  rintro X ds Q ⟨f, cdv, A, outer, s0, H, E, rfl⟩ hr ⟨dk, lf, x, rfl, q⟩
  rcases q with ⟨xs, rfl, h1, h2, q⟩ | ⟨s, rfl, h1, h2, q⟩
  · refine s_ret <| d_ix <| d_nm 1 rfl <| d_own O hr (by rfl) <| l_cons <| d_nm 0 rfl <| l_cons <| d_len (by rfl) ml <| .of <| d_nm 1 rfl <| l_nil ⟨dk, lf, _, rfl, by omega, by omega, fun r r0 r1 => ?_⟩
    obtain ⟨n, rfl⟩ : ∃ n : Nat, r = (n : Int) := ⟨r.toNat, by omega⟩
    have hn : n < xs.length := by omega
    exact ⟨xs[n], atI_nat (List.getElem?_eq_getElem hn), q _ (List.getElem_mem hn)⟩
  · refine s_ret <| d_ix <| d_nm 1 rfl <| d_own O hr (by rfl) <| l_cons <| d_nm 0 rfl <| l_cons <| d_len (by rfl) ml <| .of <| d_nm 1 rfl ⟨Nat.le_trans (Nat.le_of_lt h2) (by decide), l_nil ⟨dk, lf, _, rfl, by omega, by omega, fun r r0 r1 => ?_⟩⟩
    obtain ⟨n, rfl⟩ : ∃ n : Nat, r = (n : Int) := ⟨r.toNat, by omega⟩
    have hn : n < s.cps.toList.length := by show n < s.length; omega
    exact ⟨by omega, s.cps.toList[n], atI_nat (List.getElem?_eq_getElem hn), q _ (List.getElem_mem hn)⟩
end
end E5
set_option Elab.async false
set_option linter.all false
set_option maxRecDepth 100000
set_option maxHeartbeats 4000000
/-! x, y = new, frozen; by data -/
namespace Z
open PySem PySem.Spec PyProof.Rows L2 Evl Y
end Z
set_option Elab.async false
set_option linter.all false
set_option maxRecDepth 100000
set_option maxHeartbeats 4000000
/-! [e for x in a for y in b], b a tuple; by data -/
namespace Z
open PySem PySem.Spec PyProof.Rows L2 Evl Y
end Z
set_option Elab.async false
set_option linter.all false
set_option maxRecDepth 100000
set_option maxHeartbeats 4000000
/-! sorted(d.items()) of texts and numbers; d.pop(k); n += 1; by data -/
namespace Z
open PySem PySem.Spec PyProof.Rows L2 Evl Y
end Z
set_option Elab.async false
set_option linter.all false
set_option maxRecDepth 100000
set_option maxHeartbeats 4000000
/-! sorted(d.items()), d.pop(k), n += m, as rules by data -/
namespace Z
open PySem PySem.Spec PyProof.Rows L2 Evl Y
def dropD (kvs : List (Key × Dt)) (k : Key) : List (Key × Dt) := kvs.filter fun kv => decide (kv.1 ≠ k)
theorem RpK.drop {K : PySem.W.Frag} {B : Hp} (k : Key) : ∀ {ys : List (Key × V)} {kvs : List (Key × Dt)}, RpK K B ys kvs → RpK K B (dropK ys k) (dropD kvs k)
  | _, _, .nil => .nil
  | _, _, .cons (k := k') r t => by
    unfold dropK dropD
    by_cases e : k' = k
    · rw [List.filter_cons_of_neg (by simp [e]), List.filter_cons_of_neg (by simp [e])]
      exact RpK.drop k t
    · rw [List.filter_cons_of_pos (by simp [e]), List.filter_cons_of_pos (by simp [e])]
      exact .cons r (RpK.drop k t)
end Z
set_option Elab.async false
set_option linter.all false
set_option maxRecDepth 100000
set_option maxHeartbeats 4000000
/-! what is one's own, read: a if c else b; sorted pairs; by data -/
namespace Z
open PySem PySem.Spec PyProof.Rows L2 Evl Y
end Z
set_option Elab.async false
set_option linter.all false
set_option maxRecDepth 100000
set_option maxHeartbeats 4000000
/-! w, x, y, z = frozen, frozen, new, frozen; by data -/
namespace Z
open PySem PySem.Spec PyProof.Rows L2 Evl Y
end Z
set_option Elab.async false
set_option linter.all false
set_option maxRecDepth 100000
set_option maxHeartbeats 4000000
/-! parts of tuples that have no dict; sorted(d); d.update(e); by data -/
namespace Y
open PySem PySem.Spec PyProof.Rows L2
end Y
namespace Z
open PySem PySem.Spec PyProof.Rows L2 Evl Y
end Z
set_option Elab.async false
set_option linter.all false
set_option maxRecDepth 100000
set_option maxHeartbeats 4000000
/-! d.update(e), e of other keys; by data -/
namespace Z
open PySem PySem.Spec PyProof.Rows L2 Evl Y
end Z
set_option Elab.async false
set_option linter.all false
set_option maxRecDepth 100000
set_option maxHeartbeats 4000000
/-! dict(d): a copy; by data -/
namespace Z
open PySem PySem.Spec PyProof.Rows L2 Evl Y
end Z
set_option Elab.async false
set_option linter.all false
set_option maxRecDepth 100000
set_option maxHeartbeats 4000000
/-! own defs that show (repr): they keep their promise where no repr is under way; by data -/
namespace Y
open PySem PySem.Spec PyProof.Rows L2 Evl
structure OwnG (P : Program) (w : World) (K : PySem.W.Frag) (mg : Str → Option Value) (base : Heap) (nm : Str) (ps : List Str) (lv : Nat) (sp : Sp) : Prop where
  ex : ∃ g fd, FnG P w K mg base lv g fd ps sp ∧ (∀ vs H Q E, sp vs H Q E → vs.length = ps.length) ∧ PySem.W.keepIn K (.ref g) = true ∧ Binds K fd ps [] ∧ mg nm = some (.ref g)
section
variable {P : Program} {w : World} {K : PySem.W.Frag} {mg : Str → Option Value} {base : Heap} {nm : Str} {st : Stmt} {N ps : List Str} {k : Nat} {sp sp' : Sp}
theorem Def.ownG (D : Def K mg nm st) (S : FnScope N ps (defScope st)) (len : ∀ vs H Q E, sp vs H Q E → vs.length = ps.length)
    (hb : ∀ (kV doc pm : Value) (an : Option Addr) (cdv ct : Value) (us : List Value), us.length = ps.length → bindArgs (PySem.W.fnOf nm nm (defArgs st) (defBody st) (defScope st) .none kV doc pm an cdv ct) ⟨us, []⟩ = pure (ps.zip us))
    (hbody : ∀ (X : Cx) (H : Hp) (vs : List V) (Q : VK) (E : XK), (∃ (f : Addr) (cdv : Value) (A : Around) (outer : List Env) (s : Shared), X = (cxOf CX0 P w K mg base N nm (defScope st) f cdv A outer s H E).nox) → X.A.guards = some [] → Room k X.A → sp vs H Q E → RX X (defBody st) { nx := fun _ H' => Q .non H', rt := Q } (start N vs) H) : OwnG P w K mg base nm ps (k + 1) sp := by
  obtain ⟨f, fd, F, m⟩ := D.ex
  exact ⟨f, fd, fun_G F S len hbody, len, F.kp, F.binds hb, m⟩
end
section
variable {X : Cx} {k : Nat} {f : Addr} {fd : FuncData} {ps : List Str} {sp : Sp} {E : XK} {x : Str} {p pos : Pos} {e : Expr} {es : List Expr} {t : TA}
theorem pe_callG (F : FnG X.prog X.w X.K X.mg X.base k f fd ps sp) (len : ∀ vs H Q E, sp vs H Q E → vs.length = ps.length) (hgu : X.A.guards = some []) (hr : Room k X.A) (hg : Gl X x) (hm : X.mg x = some (.ref f)) (hk : PySem.W.keepIn X.K (.ref f) = true) (hb : Binds X.K fd ps []) (hx : Passes CX0 X E)
    (ha : PA X (e :: es) t) (hdb : (x == ("__debug__" : Str)) = false := by decide) (he : starEach (e :: es) X.env = (false, eval e X.env) :: starEach es X.env := by rfl) (hpl : (backTo pos (starEach es X.env)).any (·.1) = false := by rfl) :
    PE X (.Call (.Name x p) (e :: es) [] pos) (tCall sp [] E t) := by
  refine ⟨fun pins s σ H Q I h => ?_⟩
  refine wpAny_Call_Name_kw (ld_glob I hg hm ?_ hdb)
  refine PySem.W.callWith_K (h₀ := X.base) I.ok.mod.kin hk (thn (ha.run pos pins s σ H _ I h) fun us s1 ⟨vs, H1, I1, r, q⟩ => ⟨I1.kIn, ?_⟩) he hpl
  have q : sp (vs ++ []) H1 Q E := q
  rw [List.append_nil] at q
  have hl : us.length = ps.length := by rw [← r.length]; exact len _ _ _ _ q
  have hb1 := hb s1 us I1.kIn (by rw [List.append_nil]; exact hl)
  rw [List.append_nil] at hb1
  refine wpAny_call (codeAny_mono (F.go X.A X.stack s1 H1 ⟨us, []⟩ us vs Q E hgu hr I1.env0 hb1 r q) fun r s' hq => ?_)
  cases r with
  | error e => exact hx pins σ H1 s1 e s' I1 hq
  | ok fl =>
    cases fl with
    | ret u => exact I1.after hq
    | next => exact False.elim hq
    | brk => exact False.elim hq
    | cont => exact False.elim hq
end
end Y
namespace Z
open PySem PySem.Spec PyProof.Rows L2 Evl Y
structure OwnDG (P : Program) (w : World) (K : PySem.W.Frag) (mg : Str → Option Value) (base : Heap) (nm : Str) (ps : List Str) (lv : Nat) (S : List Dt → (Dt → Prop) → Prop) : Prop where
  own : OwnG P w K mg base nm ps lv (spD K S)
  mono : ∀ ds (Q Q' : Dt → Prop), (∀ d, Q d → Q' d) → S ds Q → S ds Q'
section
variable {P : Program} {w : World} {K : PySem.W.Frag} {mg : Str → Option Value} {base : Heap} {nm : Str} {st : Stmt} {N ps : List Str} {k : Nat} {S : List Dt → (Dt → Prop) → Prop}
theorem ownDG (D : Def K mg nm st) (Sc : FnScope N ps (defScope st)) (mono : ∀ ds (Q Q' : Dt → Prop), (∀ d, Q d → Q' d) → S ds Q → S ds Q') (hlen : ∀ ds Q, S ds Q → ds.length = ps.length)
    (hb : ∀ (kV doc pm : Value) (an : Option Addr) (cdv ct : Value) (us : List Value), us.length = ps.length → bindArgs (PySem.W.fnOf nm nm (defArgs st) (defBody st) (defScope st) .none kV doc pm an cdv ct) ⟨us, []⟩ = pure (ps.zip us))
    (hbody : ∀ (X : Cx) (ds : List Dt) (Q : Dt → Prop), (∃ (f : Addr) (cdv : Value) (A : Around) (outer : List Env) (s : Shared) (H : Hp) (E : XK), X = (cxOf CX0 P w K mg base N nm (defScope st) f cdv A outer s H E).nox) → X.A.guards = some [] → Room k X.A → S ds Q → DS X (startD N ds) (defBody st) { nx := fun _ => Q .non, rt := Q }) :
    OwnDG P w K mg base nm ps (k + 1) S := by
  refine ⟨D.ownG Sc (fun vs H Q E h => ?_) hb ?_, mono⟩
  · obtain ⟨B, ds, _, r, h⟩ := h
    rw [r.len]; exact hlen _ _ h
  · rintro X H vs Q E ⟨f, cdv, A, outer, s, rfl⟩ hgu hr h
    obtain ⟨B, ds, e, r, h⟩ := h
    refine ⟨fun H1 e1 => ?_⟩
    refine (hbody _ ds _ ⟨f, cdv, A, outer, s, H, E, rfl⟩ hgu hr h).run H1 B B _ H1 _ (Gr.refl (e.trans e1)) (en_start (e.trans e1) r) ⟨fun ρ B2 σ H2 q g E => q B2 .non H2 (Gr.back e1 g) .non, fun d B2 v H2 q g r => q B2 v H2 (Gr.back e1 g) r, fun _ _ _ _ q => q.elim, fun _ _ _ _ q => q.elim, fun _ _ _ _ q => q.elim, fun _ _ _ _ _ q => q.elim⟩
end
section
variable {X : Cx} {ρ : List Sl} {e : Expr} {es : List Expr} {Q : Dt → Prop} {q1 q2 : Pos} {nm : Str} {ps : List Str} {lv : Nat} {S : List Dt → (Dt → Prop) → Prop}
theorem d_ownG (O : OwnDG X.prog X.w X.K X.mg X.base nm ps lv S) (hgu : X.A.guards = some []) (hr : Room lv X.A) (hg : Gl X nm) (h : DL X ρ (e :: es) fun ds => S ds Q)
    (hdb : (nm == ("__debug__" : Str)) = false := by decide) (he : starEach (e :: es) X.env = (false, eval e X.env) :: starEach es X.env := by rfl) (hpl : (backTo q2 (starEach es X.env)).any (·.1) = false := by rfl) : DE X ρ (.Call (.Name nm q1) (e :: es) [] q2) Q := by
  obtain ⟨g, fd, F, hl, hk, hb, hm⟩ := O.own.ex
  exact ⟨fun H0 B σ H E => sem_of (pe_callG F hl hgu hr hg hm hk hb pass0 pa_sem hdb he hpl) (h.go E fun B2 vs ds H2 g2 E2 rs q => by
    rw [List.append_nil]
    exact ⟨B2, ds, E2.ex, rs, O.mono _ _ _ (fun d q B3 v H3 g3 r => ⟨B3, d, g2.trans g3, r, q⟩) q⟩)⟩
end
end Z
set_option Elab.async false
set_option linter.all false
set_option maxRecDepth 100000
set_option maxHeartbeats 4000000
/-! any values, dicts of texts among them: how they are read, repr, != with a text; by data -/
namespace Y
open PySem PySem.Spec PyProof.Rows L2
open PySem.W
open PySem.AutoSeq1 (wpAny_loadPart')
end Y
set_option Elab.async false
set_option linter.all false
set_option maxRecDepth 100000
set_option maxHeartbeats 4000000
namespace Z
open PySem PySem.Spec PyProof.Rows L2 Evl Y
def keyA : Key → PyData
  | .inl n => .int n
  | .inr s => .str s
mutual
def toA : Dt → PyData
  | .non => .none
  | .bl b => .bool b
  | .int n => .int n
  | .str s => .str s
  | .tup ds => .tuple (toAL ds)
  | .tz ds => .tuple (toAL ds)
  | .lst ds => .list (toAL ds)
  | .dic kvs => .dict (toAK kvs)
  | _ => .none
def toAL : List Dt → List PyData
  | [] => []
  | d :: ds => toA d :: toAL ds
def toAK : List (Key × Dt) → List (PyData × PyData)
  | [] => []
  | p :: r => toAP p :: toAK r
def toAP : Key × Dt → PyData × PyData
  | (k, d) => (keyA k, toA d)
end
/-- an int or a text of small size -/
def leafI (n : Int) : Bool := decide (n.natAbs < 10 ^ 41)
def leafS (s : Str) : Bool := decide (s.length ≤ 1000) && s.cps.toList.all fun c => decide (c < 1000)
def leafK : Key → Bool
  | .inl n => leafI n
  | .inr s => leafS s
mutual
/-- data that can be shown -/
def gd : Dt → Bool
  | .non => true
  | .bl _ => true
  | .int n => leafI n
  | .str s => leafS s
  | .tup ds => gdL ds
  | .lst ds => gdL ds
  | .dic kvs => gdK kvs
  | _ => false
def gdL : List Dt → Bool
  | [] => true
  | d :: ds => gd d && gdL ds
def gdK : List (Key × Dt) → Bool
  | [] => true
  | p :: r => gdP p && gdK r
def gdP : Key × Dt → Bool
  | (k, d) => leafK k && gd d
end
mutual
/-- without lists -/
def noL : Dt → Bool
  | .lst _ => false
  | .tup ds => noLL ds
  | .dic kvs => noLK kvs
  | _ => true
def noLL : List Dt → Bool
  | [] => true
  | d :: ds => noL d && noLL ds
def noLK : List (Key × Dt) → Bool
  | [] => true
  | p :: r => noLP p && noLK r
def noLP : Key × Dt → Bool
  | (_, d) => noL d
end
mutual
/-- without dicts -/
def noK : Dt → Bool
  | .dic _ => false
  | .tup ds => noKL ds
  | .lst ds => noKL ds
  | _ => true
def noKL : List Dt → Bool
  | [] => true
  | d :: ds => noK d && noKL ds
end
def leafW (s : Str) : Nat := 10 * s.length + 2
def keyW : Key → Nat
  | .inl _ => 42
  | .inr s => leafW s
mutual
/-- how long it is, shown, at most -/
def wt : Dt → Nat
  | .non => 42
  | .bl _ => 42
  | .int _ => 42
  | .str s => leafW s
  | .tup ds => wtL ds + 3
  | .lst ds => wtL ds + 3
  | .dic kvs => wtK kvs + 3
  | _ => 0
def wtL : List Dt → Nat
  | [] => 0
  | d :: ds => wt d + 2 + wtL ds
def wtK : List (Key × Dt) → Nat
  | [] => 0
  | p :: r => wtP p + 4 + wtK r
def wtP : Key × Dt → Nat
  | (k, d) => keyW k + wt d
end
mutual
/-- how deep -/
def dpt : Dt → Nat
  | .tup ds => dptL ds + 1
  | .lst ds => dptL ds + 1
  | .dic kvs => dptK kvs + 1
  | _ => 0
def dptL : List Dt → Nat
  | [] => 0
  | d :: ds => max (dpt d) (dptL ds)
def dptK : List (Key × Dt) → Nat
  | [] => 0
  | p :: r => max (dptP p) (dptK r)
def dptP : Key × Dt → Nat
  | (_, d) => dpt d
end
theorem leafS_parts {s : Str} (h : leafS s = true) : s.length ≤ 1000 ∧ ∀ c ∈ s.cps.toList, c < 1000 := by
  unfold leafS at h
  rw [Bool.and_eq_true, List.all_eq_true] at h
  exact ⟨of_decide_eq_true h.1, fun c hc => of_decide_eq_true (h.2 c hc)⟩
theorem leafS_len {s : Str} (h : leafS s = true) : (reprText s).length ≤ leafW s := by
  have := PySem.StrLaws.reprText_len s (fun c hc => Nat.lt_of_lt_of_le ((leafS_parts h).2 c hc) (by decide))
  unfold leafW; omega
theorem leafI_ok {n : Int} (h : leafI n = true) : IntOk n := by
  unfold leafI at h
  exact of_decide_eq_true (p := n.natAbs < 10 ^ 41) h
/-- what can be shown -/
structure ShA (d : PyData) (b n : Nat) : Prop where
  s : d.showable = true
  l : d.shown.length ≤ b
  d : d.depth ≤ n
theorem keyA_sh {k : Key} (h : leafK k = true) : ShA (keyA k) (keyW k) 0 := by
  cases k with
  | inl n => exact ⟨(leafI_ok h).show, (leafI_ok h).len, Nat.le_refl _⟩
  | inr s => exact ⟨rfl, leafS_len h, Nat.le_refl _⟩
mutual
theorem sh_toA : ∀ d : Dt, gd d = true → ShA (toA d) (wt d) (dpt d)
  | .non, _ => by simp only [toA, wt, dpt]; exact ⟨rfl, by decide +kernel, Nat.le_refl _⟩
  | .bl b, _ => by simp only [toA, wt, dpt]; cases b <;> exact ⟨rfl, by decide +kernel, Nat.le_refl _⟩
  | .int n, h => by
    simp only [gd] at h
    simp only [toA, wt, dpt]
    exact ⟨(leafI_ok h).show, (leafI_ok h).len, Nat.le_refl _⟩
  | .str s, h => by
    simp only [gd] at h
    simp only [toA, wt, dpt]
    exact ⟨rfl, leafS_len h, Nat.le_refl _⟩
  | .tup ds, h => by
    simp only [gd] at h
    obtain ⟨h1, h2, h3, h4⟩ := sh_toAL ds h
    simp only [toA, wt, dpt]
    refine ⟨h1, ?_, Nat.succ_le_succ h3⟩
    show (tupleText (PyData.shownAll (toAL ds))).length ≤ _
    have := tupleText_len_le (PyData.shownAll (toAL ds))
    omega
  | .lst ds, h => by
    simp only [gd] at h
    obtain ⟨h1, h2, h3, h4⟩ := sh_toAL ds h
    simp only [toA, wt, dpt]
    refine ⟨h1, ?_, Nat.succ_le_succ h3⟩
    show (listText (PyData.shownAll (toAL ds))).length ≤ _
    have := listText_len_le (PyData.shownAll (toAL ds))
    omega
  | .dic kvs, h => by
    simp only [gd] at h
    obtain ⟨h1, h2, h3, h4⟩ := sh_toAK kvs h
    simp only [toA, wt, dpt]
    refine ⟨h1, ?_, Nat.succ_le_succ h3⟩
    show (dictText (PyData.shownKv (toAK kvs))).length ≤ _
    have := dictText_len_le (PyData.shownKv (toAK kvs))
    omega
  | .dit _, h => by simp [gd] at h
  | .obj _ _, h => by simp [gd] at h
  | .dk _ _ _ _, h => by simp [gd] at h
  | .tx _, h => by simp [gd] at h
  | .tz _, h => by simp [gd] at h
theorem sh_toAL : ∀ ds : List Dt, gdL ds = true → PyData.showableAll (toAL ds) = true ∧ ((PyData.shownAll (toAL ds)).map (·.length)).sum + 2 * (PyData.shownAll (toAL ds)).length ≤ wtL ds ∧ PyData.depthAll (toAL ds) ≤ dptL ds ∧ (toAL ds).length = ds.length
  | [], _ => by simp [toAL, PyData.showableAll, PyData.shownAll, wtL, dptL, PyData.depthAll]
  | d :: ds, h => by
    simp only [gdL, Bool.and_eq_true] at h
    have a := sh_toA d h.1
    obtain ⟨b1, b2, b3, b4⟩ := sh_toAL ds h.2
    have a1 := a.s
    have a2 := a.l
    have a3 := a.d
    simp only [toAL, PyData.showableAll, PyData.shownAll, wtL, dptL, PyData.depthAll, List.map_cons, List.sum_cons, List.length_cons, a1, b1, Bool.and_self, true_and, b4, and_true]
    exact ⟨by omega, by omega⟩
theorem sh_toAK : ∀ ds : List (Key × Dt), gdK ds = true → PyData.showableKv (toAK ds) = true ∧ ((PyData.shownKv (toAK ds)).map (·.length)).sum + 2 * (PyData.shownKv (toAK ds)).length ≤ wtK ds ∧ PyData.depthKv (toAK ds) ≤ dptK ds ∧ (toAK ds).length = ds.length
  | [], _ => by simp [toAK, PyData.showableKv, PyData.shownKv, wtK, dptK, PyData.depthKv]
  | p :: ds, h => by
    simp only [gdK, Bool.and_eq_true] at h
    have k1 := sh_toAP p h.1
    obtain ⟨b1, b2, b3, b4⟩ := sh_toAK ds h.2
    obtain ⟨⟨k, d⟩, ep⟩ : ∃ q, toAP p = q := ⟨_, rfl⟩
    rw [ep] at k1
    dsimp only at k1
    have e2 : (k.shown ++ (": " : Str) ++ d.shown).length = k.shown.length + 2 + d.shown.length := by rw [strLen_append, strLen_append]; rfl
    obtain ⟨s1, s2, s3, s4, s5⟩ := k1
    simp only [toAK, ep, PyData.showableKv, PyData.shownKv, wtK, dptK, PyData.depthKv, List.map_cons, List.sum_cons, List.length_cons, s1, s2, b1, Bool.and_self, true_and, b4, and_true]
    exact ⟨by omega, by omega⟩
theorem sh_toAP : ∀ p : Key × Dt, gdP p = true → ((toAP p).1.showable = true ∧ (toAP p).2.showable = true ∧ (toAP p).1.shown.length + (toAP p).2.shown.length ≤ wtP p ∧ (toAP p).1.depth ≤ dptP p ∧ (toAP p).2.depth ≤ dptP p)
  | (k, d), h => by
    simp only [gdP, Bool.and_eq_true] at h
    have a := sh_toA d h.2
    have b := keyA_sh h.1
    simp only [toAP, wtP, dptP]
    exact ⟨b.s, a.s, Nat.add_le_add b.l a.l, Nat.le_trans b.d (Nat.zero_le _), a.d⟩
end
end Z
set_option Elab.async false
set_option linter.all false
set_option maxRecDepth 100000
set_option maxHeartbeats 4000000
/-! any values: read, repr, != with a text; by data -/
namespace Z
open PySem PySem.Spec PyProof.Rows L2 Evl Y
section
variable {X : Cx} {pins : List (Addr × Obj)} {σ : L2.St} {H : Hp} {s : Shared}
theorem key_reads {h : Heap} {k : Key} {u : Value} (e : keyIs k u = true) : Reads h u (keyA k) [] := by
  rcases keyIs_shape e with ⟨i, t, rfl, rfl⟩ | ⟨x, t, rfl, rfl⟩
  · exact .int i t
  · exact .str x t
mutual
theorem Rp.readsA (I : L2.Inv X pins σ H s) : ∀ {v : V} {d : Dt} {u : Value}, Rp X.K H v d → gd d = true → RelV v u → ∃ as, Reads s.heap u (toA d) as ∧ (noL d = true → sysModules ∉ as)
  | _, _, _, .non, _, r => by cases r; exact ⟨_, by simp only [toA]; exact .none, fun _ => by simp⟩
  | _, _, _, .bl b, _, r => by cases r; exact ⟨_, by simp only [toA]; exact .bool b, fun _ => by simp⟩
  | _, _, _, .int n, _, r => by obtain ⟨t, rfl⟩ := r; exact ⟨_, by simp only [toA]; exact .int n t, fun _ => by simp⟩
  | _, _, _, .str n, _, r => by obtain ⟨t, rfl⟩ := r; exact ⟨_, by simp only [toA]; exact .str n t, fun _ => by simp⟩
  | _, _, _, .tup (ds := ds) a h, g, r => by
    cases r
    obtain ⟨its, rv, ⟨o, ho, hc, n, hd⟩, _⟩ := I.tuple a
    obtain ⟨as, q1, q2⟩ := RpL.readsA I h (by simpa [gd] using g) rv
    exact ⟨as, by simp only [toA]; exact .tuple ho hc hd q1, fun z => q2 (by simpa [noL] using z)⟩
  | _, _, _, .lst (ds := ds) a h, g, r => by
    cases r
    obtain ⟨its, rv, ⟨o, n, ho, hc, _, hd⟩, _⟩ := I.list a
    obtain ⟨as, q1, q2⟩ := RpL.readsA I h (by simpa [gd] using g) rv
    exact ⟨_, by simp only [toA]; exact .list ho hc hd q1, fun z => by simp [noL] at z⟩
  | _, _, _, .dic (kvs := kvs) a h, g, r => by
    cases r
    obtain ⟨_, hs, vs, rel, dd⟩ := dk_rd I.hok a
    obtain ⟨o, es, ep, ho, hx, hd, hk, hp, _⟩ := dd
    obtain ⟨as, q0, q1, q2⟩ := RpK.readsA I h (by simpa [gd] using g) rel hp
    refine ⟨_, by simp only [toA]; exact .dict ho hx.1 hd q0 q1, fun z => ?_⟩
    have := q2 (by simpa [noL] using z)
    simp [this]
    exact fun e => by rw [e] at hs; simp at hs
  | _, _, _, .dit _ _, g, _ => by simp [gd] at g
  | _, _, _, .obj _ _, g, _ => by simp [gd] at g
  | _, _, _, .dk _ _ _, g, _ => by simp [gd] at g
  | _, _, _, .tx _ _, g, _ => by simp [gd] at g
  | _, _, _, .tz _ _, g, _ => by simp [gd] at g
theorem RpL.readsA (I : L2.Inv X pins σ H s) : ∀ {vs : List V} {ds : List Dt} {us : List Value}, RpL X.K H vs ds → gdL ds = true → Vals vs us → ∃ as, ReadsAll s.heap us (toAL ds) as ∧ (noLL ds = true → sysModules ∉ as)
  | _, _, _, .nil, _, r => by cases r; exact ⟨_, by simp only [toAL]; exact .nil, fun _ => by simp⟩
  | _, _, _, .cons (d := d) (ds := ds) a b, g, r => by
    simp only [gdL, Bool.and_eq_true] at g
    cases r with
    | cons r1 r2 =>
      obtain ⟨as, q1, q2⟩ := Rp.readsA I a g.1 r1
      obtain ⟨bs, q3, q4⟩ := RpL.readsA I b g.2 r2
      refine ⟨_, by simp only [toAL]; exact .cons q1 q3, fun z => ?_⟩
      simp only [noLL, Bool.and_eq_true] at z
      rw [List.mem_append]
      exact fun e => e.elim (q2 z.1) (q4 z.2)
theorem RpK.readsA (I : L2.Inv X pins σ H s) : ∀ {ys : List (Key × V)} {kvs : List (Key × Dt)} {vs : List (Key × Value)} {es : List DictEntry}, RpK X.K H ys kvs → gdK kvs = true → KV ys vs → Pairs (mixKind X.prog X.w) es vs → ∃ as, ReadsAll s.heap (es.map (·.key)) ((toAK kvs).map (·.1)) [] ∧ ReadsAll s.heap (es.map (·.val)) ((toAK kvs).map (·.2)) as ∧ (noLK kvs = true → sysModules ∉ as)
  | _, _, _, _, .nil, _, r, p => by cases r; cases p; exact ⟨_, by simp only [toAK]; exact .nil, by simp only [toAK]; exact .nil, fun _ => by simp⟩
  | _, _, _, _, .cons (k := k) (d := d) (ds := kvs) a b, g, r, p => by
    simp only [gdK, gdP, Bool.and_eq_true] at g
    cases r with
    | cons r1 r2 =>
      obtain ⟨er, r1⟩ := r1
      cases p with
      | cons p1 p2 p3 =>
        obtain ⟨bs, q0, q3, q4⟩ := RpK.readsA I b g.2 r2 p3
        obtain ⟨as, q1, q2⟩ := Rp.readsA I a g.1.2 r1
        refine ⟨_, by simp only [toAK, toAP]; exact .cons (as := []) (key_reads (k := k) (by rw [show k = _ from er]; exact p1)) q0, by simp only [toAK, toAP]; exact .cons (by have q := q1; rw [← p2] at q; exact q) q3, fun z => ?_⟩
        simp only [noLK, noLP, Bool.and_eq_true] at z
        rw [List.mem_append]
        exact fun e => e.elim (q2 z.1) (q4 z.2)
end
mutual
theorem noK_dict : ∀ d : Dt, gd d = true → noK d = true → (toA d).hasDict = false
  | .non, _, _ => rfl
  | .bl _, _, _ => rfl
  | .int _, _, _ => rfl
  | .str _, _, _ => rfl
  | .tup ds, g, h => by
    simp only [gd] at g
    simp only [noK] at h
    simp only [toA, PyData.hasDict]
    exact noK_dictL ds g h
  | .lst ds, g, h => by
    simp only [gd] at g
    simp only [noK] at h
    simp only [toA, PyData.hasDict]
    exact noK_dictL ds g h
  | .dic _, _, h => by simp [noK] at h
  | .dit _, g, _ => by simp [gd] at g
  | .obj _ _, g, _ => by simp [gd] at g
  | .dk _ _ _ _, g, _ => by simp [gd] at g
  | .tx _, g, _ => by simp [gd] at g
  | .tz _, g, _ => by simp [gd] at g
theorem noK_dictL : ∀ ds : List Dt, gdL ds = true → noKL ds = true → PyData.hasDictAll (toAL ds) = false
  | [], _, _ => rfl
  | d :: ds, g, h => by
    simp only [gdL, Bool.and_eq_true] at g
    simp only [noKL, Bool.and_eq_true] at h
    simp only [toAL, PyData.hasDictAll, noK_dict d g.1 h.1, noK_dictL ds g.2 h.2, Bool.or_self]
end
end
/-- a value that can be shown -/
structure Ga (d : Dt) : Prop where
  g : gd d = true
  m : noL d = true ∨ noK d = true
  dp : dpt d ≤ 60
  w : wt d ≤ 16000000
section
variable {X : Cx}
theorem cr_reprA (hgu : X.A.guards = some []) (hu : X.A.units + 64 < cLine) : CallR X (.builtin "repr") fun xs H Q => ∃ v d B, xs = [v] ∧ Ex B H ∧ Rp X.K B v d ∧ Ga d ∧ Q (.str (toA d).shown) H := by
  intro pins s σ H xs us Q I r h
  obtain ⟨v, d, B, rfl, ex, rp, ga, q⟩ := h
  have rp := rp.ex ex
  obtain ⟨u, rfl, ru⟩ := vals1 r
  obtain ⟨as, rd, hs⟩ := rp.readsA I ga.g ru
  have sh := sh_toA d ga.g
  have hz : (toA d).shown.length ≤ sizeLine := Nat.le_trans sh.l (Nat.le_trans ga.w (show 16000000 ≤ sizeLine by decide))
  have hsm : (toA d).hasDict = true → sysModules ∉ as := fun z => by
    rcases ga.m with m | m
    · exact hs m
    · rw [noK_dict d ga.g m] at z; cases z
  have hr : ∀ a, u = .ref a → wpAny (model X.prog X.w) X.A (call (.builtin "repr") [u]) (EP X pins σ Q) X.xe s := fun a e => by
    subst e
    exact repr_of_reads' rd sh.s hsm hgu (by have := sh.d; have := ga.dp; omega) (fun _ _ e => e) (fun h' u tk hk => ⟨.str _, H, I.kept hk, ⟨_, rfl⟩, q⟩) hz
  cases rp with
  | non => cases ru; exact P.repr_of_none ⟨.str _, H, I.tok _, ⟨_, rfl⟩, by simpa only [toA, PyData.shown] using q⟩
  | bl b => cases ru; exact P.repr_of_bool ⟨.str _, H, I.tok _, ⟨_, rfl⟩, by simpa only [toA, PyData.shown] using q⟩
  | int n =>
    obtain ⟨t, rfl⟩ := ru
    exact P.repr_of_int (by have := sh.s; simpa [toA, PyData.showable] using this) ⟨.str _, H, I.tok _, ⟨_, rfl⟩, by simpa only [toA, PyData.shown] using q⟩
  | str n =>
    obtain ⟨t, rfl⟩ := ru
    exact P.repr_of_str ⟨.str _, H, I.tok _, ⟨_, rfl⟩, by simpa only [toA, PyData.shown] using q⟩ (by simpa only [toA, PyData.shown] using hz)
  | _ => exact hr _ ru
end
/-- any value and a text -/
def isS (t : Str) : Dt → Bool
  | .str s => decide (s = t)
  | _ => false
section
variable {X : Cx} {ρ : List Sl} {e a b c o : Expr} {es : List Expr} {Q Q' : Dt → Prop} {d : Dt} {pos p1 p2 p3 q1 q2 : Pos}
/-- repr of any value -/
theorem d_rpA (hgu : X.A.guards = some []) (hu : X.A.units + 64 < cLine) (hg : Gl X "repr") (hm : X.mg "repr" = none) (h : DE X ρ a fun d => Ga d ∧ Q (.str (toA d).shown))
    (hst : starEach [a] X.env = (false, eval a X.env) :: starEach [] X.env := by rfl) : DE X ρ (.Call (.Name "repr" q1) [a] [] q2) Q :=
  ⟨fun H0 B σ H E => sem_of (pe_callB (cr_reprA hgu hu) hg hm (by decide +kernel) (pa_cons pe_sem pa_nil hst) (he := hst)) (h.go E fun B2 v d H2 g E2 r ⟨ga, q⟩ => ⟨v, d, B2, rfl, E2.ex, r, ga, B2, _, g, .str _, q⟩)⟩
end
/-! ### tuples whose objects are forgotten -/
mutual
def wk : Dt → Dt
  | .tup ds => .tup (wkL ds)
  | .tz ds => .tup (wkL ds)
  | .lst ds => .lst (wkL ds)
  | d => d
def wkL : List Dt → List Dt
  | [] => []
  | d :: ds => wk d :: wkL ds
end
section
variable {K : PySem.W.Frag} {B : Hp}
mutual
theorem Rp.wk : ∀ {v : V} {d : Dt}, Rp K B v d → Rp K B v (wk d)
  | _, _, .non => by simp only [Z.wk]; exact .non
  | _, _, .bl b => by simp only [Z.wk]; exact .bl b
  | _, _, .int n => by simp only [Z.wk]; exact .int n
  | _, _, .str s => by simp only [Z.wk]; exact .str s
  | _, _, .tup a h => by simp only [Z.wk]; exact .tup a (RpL.wk h)
  | _, _, .tz a h => by simp only [Z.wk]; exact .tup a.st (RpL.wk h)
  | _, _, .lst a h => by simp only [Z.wk]; exact .lst a (RpL.wk h)
  | _, _, .dic a h => by simp only [Z.wk]; exact .dic a h
  | _, _, .dit a h => by simp only [Z.wk]; exact .dit a h
  | _, _, .obj a h => by simp only [Z.wk]; exact .obj a h
  | _, _, .dk a b n => by simp only [Z.wk]; exact .dk a b n
  | _, _, .tx a h => by simp only [Z.wk]; exact .tx a h
theorem RpL.wk : ∀ {v : List V} {d : List Dt}, RpL K B v d → RpL K B v (wkL d)
  | _, _, .nil => by simp only [Z.wkL]; exact .nil
  | _, _, .cons a b => by simp only [Z.wkL]; exact .cons (Rp.wk a) (RpL.wk b)
end
end
end Z
set_option Elab.async false
set_option linter.all false
set_option maxRecDepth 100000
set_option maxHeartbeats 4000000
/-! errors of the program's own, over Exception, with the field thing: made, raised, read -/
namespace PySem
namespace ErrX
open PySem.W PySem.Calls PyProof.Rows PySem.HandSPX
/-! ### the text of __init__ -/
end ErrX
end PySem
namespace L2
open PySem PySem.Spec PyProof.Rows
end L2
set_option Elab.async false
set_option linter.all false
set_option maxRecDepth 100000
set_option maxHeartbeats 4000000
/-! defs that may raise an error of the program's own; try .. except .. as e; by data -/
namespace Z
open PySem PySem.Spec PyProof.Rows L2 Evl Y
/-- what is raised, in data, is what is wished of an error -/
structure RL (X : Cx) (H0 B0 : Hp) (R : List Sl → Str → Dt → Prop) (W : WX) : Prop where
  go : ∀ ρ nm d B v σ H C dx, R ρ nm d → Gr B0 H0 B H → En X.K H0 B ρ σ H → Rp X.K B v d → X.mg nm = some (.ref C) → H dx = some (.xd [(("thing" : Str), v)]) → W (.ref C) (some dx) σ H
/-- an expression comes to data, or raises -/
structure DEX (X : Cx) (ρ : List Sl) (e : Expr) (Q : Dt → Prop) (R : Str → Dt → Prop) : Prop where
  run : ∀ H0 B σ H (W : WX), Takes X W → (∀ nm d B2 v H2 C dx, R nm d → Gr B H B2 H2 → En X.K H0 B2 ρ σ H2 → Rp X.K B2 v d → X.mg nm = some (.ref C) → H2 dx = some (.xd [(("thing" : Str), v)]) → W (.ref C) (some dx) σ H2) →
    En X.K H0 B ρ σ H → semE X e σ H fun v H2 => ∃ B2 d, Gr B H B2 H2 ∧ Rp X.K B2 v d ∧ Q d
section
variable {X : Cx} {ρ : List Sl} {e a b c : Expr} {es : List Expr} {Q : Dt → Prop} {R1 : Str → Dt → Prop} {R : List Sl → Str → Dt → Prop} {ss tt rest : List Stmt} {E : DEnds} {pos p1 p2 p pos' pos2 q1 q2 : Pos} {nm qn : Str} {ps : List Str} {lv k : Nat} {S : List Dt → (Dt → Prop) → (Str → Dt → Prop) → Prop} {C fI : Addr}
/-! ### expressions that may raise -/
/-! ### statements -/
end
/-! ### try -/
end Z
set_option Elab.async false
set_option linter.all false
set_option maxRecDepth 100000
set_option maxHeartbeats 4000000
/-! a sign not in a text; lists of ones and of texts compared; by data -/
namespace Z
open PySem PySem.Spec PyProof.Rows L2 Evl Y
/-! ### lists of ones -/
/-! ### lists of texts -/
theorem strOk_of {s : Str} (h : leafS s = true) : PyData.strOk s = true := by
  unfold PyData.strOk
  rw [← Array.all_toList, List.all_eq_true]
  exact fun c hc => decide_eq_true (Nat.lt_of_lt_of_le ((leafS_parts h).2 c hc) (by decide))
theorem toPL_strs : ∀ ss : List Str, toPL (ss.map Dt.str) = ss.map PyData.str
  | [] => rfl
  | s :: r => by rw [List.map_cons, toPL_cons, toPL_strs r]; rfl
theorem canLay_strs : ∀ {ss : List Str}, (∀ s ∈ ss, leafS s = true) → PyData.canLayAll0 (ss.map PyData.str) = true ∧ PyData.depthAll (ss.map PyData.str) = 0
  | [], _ => ⟨rfl, rfl⟩
  | s :: r, h => by
    have ih := canLay_strs (ss := r) fun x hx => h x (List.mem_cons_of_mem _ hx)
    refine ⟨?_, ?_⟩
    · show (PyData.strOk s && _) = true
      rw [strOk_of (h s List.mem_cons_self), ih.1]; rfl
    · show max (PyData.depth (.str s)) _ = 0
      rw [ih.2]; rfl
/-! ### tuples of any values compared with () -/
mutual
theorem isP_of : ∀ {d : Dt}, gd d = true → noK d = true → isP d = true ∧ toP d = toA d
  | .non, _, _ => ⟨rfl, rfl⟩
  | .bl _, _, _ => ⟨rfl, rfl⟩
  | .int _, _, _ => ⟨rfl, rfl⟩
  | .str _, _, _ => ⟨rfl, rfl⟩
  | .tup ds, g, h => by
    simp only [gd] at g
    simp only [noK] at h
    have := isPL_of g h
    simp [isP, toP, toA, this.1, this.2]
  | .lst ds, g, h => by
    simp only [gd] at g
    simp only [noK] at h
    have := isPL_of g h
    simp [isP, toP, toA, this.1, this.2]
  | .dic _, _, h => by simp [noK] at h
  | .dit _, g, _ => by simp [gd] at g
  | .obj _ _, g, _ => by simp [gd] at g
  | .dk _ _ _ _, g, _ => by simp [gd] at g
  | .tx _, g, _ => by simp [gd] at g
  | .tz _, g, _ => by simp [gd] at g
theorem isPL_of : ∀ {ds : List Dt}, gdL ds = true → noKL ds = true → isPL ds = true ∧ toPL ds = toAL ds
  | [], _, _ => ⟨rfl, rfl⟩
  | d :: r, g, h => by
    simp only [gdL, Bool.and_eq_true] at g
    simp only [noKL, Bool.and_eq_true] at h
    have h1 := isP_of g.1 h.1
    have h2 := isPL_of g.2 h.2
    simp [isPL, toPL, toAL, h1.1, h1.2, h2.1, h2.2]
end
mutual
theorem canLay_of : ∀ {d : Dt}, gd d = true → noK d = true → (toA d).canLay0 = true
  | .non, _, _ => rfl
  | .bl _, _, _ => rfl
  | .int _, _, _ => rfl
  | .str s, g, _ => by
    simp only [gd] at g
    exact strOk_of g
  | .tup ds, g, h => by
    simp only [gd] at g
    simp only [noK] at h
    have := canLayL_of g h
    simp [toA, PyData.canLay0, this]
  | .lst ds, g, h => by
    simp only [gd] at g
    simp only [noK] at h
    have := canLayL_of g h
    simp [toA, PyData.canLay0, this]
  | .dic _, _, h => by simp [noK] at h
  | .dit _, g, _ => by simp [gd] at g
  | .obj _ _, g, _ => by simp [gd] at g
  | .dk _ _ _ _, g, _ => by simp [gd] at g
  | .tx _, g, _ => by simp [gd] at g
  | .tz _, g, _ => by simp [gd] at g
theorem canLayL_of : ∀ {ds : List Dt}, gdL ds = true → noKL ds = true → PyData.canLayAll0 (toAL ds) = true
  | [], _, _ => rfl
  | d :: r, g, h => by
    simp only [gdL, Bool.and_eq_true] at g
    simp only [noKL, Bool.and_eq_true] at h
    have h1 := canLay_of g.1 h.1
    have h2 := canLayL_of g.2 h.2
    simp [toAL, PyData.canLayAll0, h1, h2]
end
theorem shaped_of {d : Dt} (g : gd d = true) (h : noK d = true) (hd : dpt d ≤ 60) : SeqAt.shaped (toP d) = true := by
  have h1 := isP_of g h
  have h2 := canLay_of g h
  have h3 := (sh_toA d g).d
  unfold SeqAt.shaped
  rw [h1.2, h2, Bool.true_and]
  exact decide_eq_true (by omega)
/-! ### any tuple compared with () -/
def rEqT0 (K : PySem.W.Frag) : R2 := fun x y H Q => ∃ (a b : Addr) (xs : List V), x = .ref a ∧ y = .ref b ∧ SqT K H a xs ∧ SqT K H b [] ∧ Q (.bl xs.isEmpty) H
theorem op_eqT0 {X : Cx} (hu : X.A.units + 64 < cLine) : OpR X (compareOp .Eq) (rEqT0 X.K) := by
  intro pins s σ H x y v u Q I rx ry h
  obtain ⟨a, b, xs, rfl, rfl, ka, kb, q⟩ := h
  cases rx
  cases ry
  obtain ⟨its, rv, ⟨o, ho, hc, n, hd⟩, _⟩ := I.tuple ka
  obtain ⟨its2, rv2, ⟨o2, ho2, hc2, n2, hd2⟩, _⟩ := I.tuple kb
  cases rv2
  refine SeqAt.rcIn_tuples (e := fun _ => true) ⟨o, ho, hc, n, hd⟩ ⟨o2, ho2, hc2, n2, hd2⟩ (by omega) (fun j h1 h2 => by simp at h2) ?_
  refine ⟨.bl _, H, I, rfl, ?_⟩
  have e : xs.isEmpty = ((List.range (min its.toArray.size ([] : List Value).toArray.size)).all (fun _ => true) && its.toArray.size == ([] : List Value).toArray.size) := by
    have hl := rv.length
    cases its with
    | nil => cases xs with
      | nil => rfl
      | cons _ _ => simp at hl
    | cons _ _ => cases xs with
      | nil => simp at hl
      | cons _ _ => simp
  rw [← e]
  exact q
theorem wc_eqT0 {K : PySem.W.Frag} : WC K (rEqT0 K) fun x y Q => ∃ ds, x = .tup ds ∧ y = .tup [] ∧ Q ds.isEmpty := fun B H x y d1 d2 Q R s rx ry ⟨ds, e1, e2, q⟩ k => by
  subst e1 e2
  have rx := rx.ex s
  have ry := ry.ex s
  cases rx with
  | tup ha hx =>
    cases ry with
    | tup hb hy =>
      cases hy
      rename_i xs _
      refine ⟨_, _, xs, rfl, rfl, ha, hb, ?_⟩
      have : xs.isEmpty = ds.isEmpty := emp_eq hx.all2
      rw [this]
      exact k _ q
section
variable {X : Cx} {ρ : List Sl} {a b : Expr} {pos : Pos}
theorem t_eqT0 {Q : Bool → Prop} (hu : X.A.units + 64 < cLine) (h : DA X ρ a fun d1 => DA X ρ b fun d2 => ∃ ds, d1 = .tup ds ∧ d2 = .tup [] ∧ Q ds.isEmpty) : DT X ρ (.Compare a [.Eq] [b] pos) Q := t_cmp (op_eqT0 hu) wc_eqT0 h (nomark _)
end
end Z
set_option Elab.async false
set_option linter.all false
set_option maxRecDepth 100000
set_option maxHeartbeats 4000000
/-! s.upper(), str(n), s * n, {'k': v}; by data -/
namespace Y
open PySem PySem.Spec PyProof.Rows L2
end Y
namespace Z
open PySem PySem.Spec PyProof.Rows L2 Evl Y
section
variable {X : Cx} {ρ : List Sl} {e a b c o v : Expr} {Q : Dt → Prop} {pos apos q1 q2 : Pos} {t : Str} {j : Nat}
theorem d_strI (hg : Gl X "str") (hm : X.mg "str" = none) (h : DE X ρ a fun d => ∃ i : Int, d = .int i ∧ i.natAbs.log2 < 1920 ∧ Q (.str (Str.ofString (toString i)))) (hst : starEach [a] X.env = (false, eval a X.env) :: starEach [] X.env := by rfl) : DE X ρ (.Call (.Name "str" q1) [a] [] q2) Q :=
  ⟨fun H0 B σ H E => sem_of (pe_callTy call_str_int hg hm (by decide +kernel) (pa_cons pe_sem pa_nil hst) (he := hst)) (h.go E fun B2 v d H2 g E2 r ⟨i, ed, hl, q⟩ => by
    subst ed
    cases r
    exact ⟨i, rfl, hl, B2, _, g, .str _, q⟩)⟩
end
end Z
set_option Elab.async false
set_option linter.all false
set_option maxRecDepth 100000
set_option maxHeartbeats 4000000
/-! repr of values with lists and dicts at once: no dict of them is sys.modules -/
namespace Y
open PySem PySem.Spec PyProof.Rows L2
/-- no dict of these is sys.modules -/
def NoSys (h : Heap) (as : List Addr) : Prop := ∀ b ∈ as, ∀ o, h.get? b = some o → o.cls = .type "dict" → b ≠ sysModules
theorem NoSys.l {h : Heap} {a : Addr} {as : List Addr} (n : NoSys h (a :: as)) : NoSys h as := fun b m => n b (List.mem_cons_of_mem _ m)
theorem NoSys.a1 {h : Heap} {as bs : List Addr} (n : NoSys h (as ++ bs)) : NoSys h as := fun b m => n b (List.mem_append_left _ m)
theorem NoSys.a2 {h : Heap} {as bs : List Addr} (n : NoSys h (as ++ bs)) : NoSys h bs := fun b m => n b (List.mem_append_right _ m)
section
variable {P : Program} {w : World} {h : Heap}
/-- what is known of a value's text -/
def Kn (P : Program) (w : World) (h : Heap) (u : Value) (d : PyData) : Prop := ∃ bs, ReadAtMost h d.depth bs ∧ ReprK P w bs h d.depth u d.shown
def KnL (P : Program) (w : World) (h : Heap) (us : List Value) (ds : List PyData) : Prop := ∃ bs, ReadAtMost h (PyData.depthAll ds) bs ∧ ReprAllK P w bs h (PyData.depthAll ds) us (PyData.shownAll ds)
theorem Kn.leaf {u : Value} {d : PyData} {as : List Addr} (r : Reads h u d as) (nd : d.hasDict = false) (s : d.showable = true) (z : d.shown.length ≤ sizeLine) : Kn P w h u d := ReprK.of_reads r s (PyData.noDict_hsm nd) z
theorem KnL.two {u : Value} {d : PyData} {us : List Value} {ds : List PyData} (k : Kn P w h u d) (l : KnL P w h us ds) : KnL P w h (u :: us) (d :: ds) := by
  obtain ⟨b, hb, k⟩ := k
  obtain ⟨c, hc, l⟩ := l
  have m1 : d.depth ≤ PyData.depthAll (d :: ds) := by simp only [PyData.depthAll]; exact Nat.le_max_left _ _
  have m2 : PyData.depthAll ds ≤ PyData.depthAll (d :: ds) := by simp only [PyData.depthAll]; exact Nat.le_max_right _ _
  refine ⟨b ++ c, (hb.mono m1).append (hc.mono m2), ?_⟩
  have e : PyData.shownAll (d :: ds) = d.shown :: PyData.shownAll ds := by simp only [PyData.shownAll]
  rw [e]
  exact .cons ((k.more fun x m => List.mem_append_left _ m).level_le m1) (l.more_le (fun x m => List.mem_append_right _ m) m2)
theorem len_list {xs : List PyData} (z : (PyData.list xs).shown.length ≤ sizeLine) : (listText (PyData.shownAll xs)).length ≤ sizeLine := by
  simp only [PyData.shown] at z; exact z
theorem len_tup {xs : List PyData} (z : (PyData.tuple xs).shown.length ≤ sizeLine) : (tupleText (PyData.shownAll xs)).length ≤ sizeLine := by
  simp only [PyData.shown] at z; exact z
theorem len_dic {kvs : List (PyData × PyData)} (z : (PyData.dict kvs).shown.length ≤ sizeLine) : (dictText (PyData.shownKv kvs)).length ≤ sizeLine := by
  simp only [PyData.shown] at z; exact z
mutual
theorem kn : ∀ {u : Value} {d : PyData} {as : List Addr}, Reads h u d as → d.showable = true → NoSys h as → d.shown.length ≤ sizeLine → Kn P w h u d
  | _, _, _, .none, s, _, z => .leaf .none rfl s z
  | _, _, _, .bool b, s, _, z => .leaf (.bool b) rfl s z
  | _, _, _, .int i t, s, _, z => .leaf (.int i t) rfl s z
  | _, _, _, .str x t, s, _, z => .leaf (.str x t) rfl s z
  | _, _, _, .list (vs := vs) (xs := xs) g1 g2 g3 g4, s, n, z => by
    simp only [PyData.showable] at s
    have zz := len_list z
    obtain ⟨bs, m, k⟩ := knL g4 s n.l fun t m => Nat.le_trans (listText_mem_le m) zz
    have rd := Reads.list g1 g2 g3 g4
    have out := not_mem_of_deeper rd (n := PyData.depthAll xs) (by simp only [PyData.depth]; exact Nat.lt_succ_self _) m
    refine ⟨_ :: bs, ReadAtMost.cons rd (by simp only [PyData.depth]; exact Nat.le_succ _) m, ?_⟩
    simp only [PyData.depth, PyData.shown]
    obtain ⟨l⟩ := vs
    cases l with
    | cons x l => exact .list g1 g2 g3 out (by simpa using k.length_eq) fun i y e => k.item i y (by simpa using e)
    | nil =>
      have q : ReadsAll h [] xs _ := g4
      cases q
      simp only [PyData.shownAll, listText_nil]
      exact .listEmpty g1 g2 g3
  | _, _, _, .tuple (xs := xs) g1 g2 g3 g4, s, n, z => by
    simp only [PyData.showable] at s
    have zz := len_tup z
    obtain ⟨bs, m, k⟩ := knL g4 s n fun t m => Nat.le_trans (tupleText_mem_le m) zz
    have rd := Reads.tuple g1 g2 g3 g4
    have out := not_mem_of_deeper rd (n := PyData.depthAll xs) (by simp only [PyData.depth]; exact Nat.lt_succ_self _) m
    refine ⟨_ :: bs, ReadAtMost.cons rd (by simp only [PyData.depth]; exact Nat.le_succ _) m, ?_⟩
    simp only [PyData.depth, PyData.shown]
    exact .tuple g1 g2 g3 out k
  | _, _, _, .dict (a := a) (es := es) (kvs := kvs) g1 g2 g3 g4 g5, s, n, z => by
    simp only [PyData.showable] at s
    have zz := len_dic z
    obtain ⟨s1, s2⟩ := PyData.showableKv_split kvs s
    obtain ⟨b1, m1, k1⟩ := knL g4 s1 n.l.a1 fun t m => by
      obtain ⟨p, q, l⟩ := PyData.shownKv_key_le kvs t m
      exact Nat.le_trans l (Nat.le_trans (dictText_mem_le q) zz)
    obtain ⟨b2, m2, k2⟩ := knL g5 s2 n.l.a2 fun t m => by
      obtain ⟨p, q, l⟩ := PyData.shownKv_val_le kvs t m
      exact Nat.le_trans l (Nat.le_trans (dictText_mem_le q) zz)
    have d1 := PyData.depthAll_keys_le kvs
    have d2 := PyData.depthAll_vals_le kvs
    have rd := Reads.dict g1 g2 g3 g4 g5
    have m := (m1.mono d1).append (m2.mono d2)
    have out := not_mem_of_deeper rd (n := PyData.depthKv kvs) (by simp only [PyData.depth]; exact Nat.lt_succ_self _) m
    refine ⟨a :: (b1 ++ b2), ReadAtMost.cons rd (by simp only [PyData.depth]; exact Nat.le_succ _) m, ?_⟩
    simp only [PyData.depth, PyData.shown, PyData.shownKv_eq]
    exact .dict g1 g2 g3 (beq_eq_false_iff_ne.mpr (n a List.mem_cons_self _ g1 g2)) out
      (.of_two es.toList _ _ (k1.more_le (fun x q => List.mem_append_left _ q) d1) (k2.more_le (fun x q => List.mem_append_right _ q) d2))
theorem knL : ∀ {us : List Value} {ds : List PyData} {as : List Addr}, ReadsAll h us ds as → PyData.showableAll ds = true → NoSys h as → (∀ t ∈ PyData.shownAll ds, t.length ≤ sizeLine) → KnL P w h us ds
  | _, _, _, .nil, _, _, _ => ⟨[], fun _ m => (nomatch m), by simp only [PyData.shownAll]; exact .nil⟩
  | _, _, _, .cons (d := d) (ds := ds) r rs, s, n, z => by
    simp only [PyData.showableAll, Bool.and_eq_true] at s
    simp only [PyData.shownAll, List.mem_cons, forall_eq_or_imp] at z
    exact .two (kn r s.1 n.a1 z.1) (knL rs s.2 n.a2 z.2)
end
variable {A : Around} {E : Value → Shared → Prop} {s : Shared} {Q : Value → Shared → Prop} {a : Addr} {d : PyData} {as : List Addr}
end
end Y
set_option Elab.async false
set_option linter.all false
set_option maxRecDepth 100000
set_option maxHeartbeats 4000000
/-! repr of any value, lists and dicts at once; by data -/
namespace Z
open PySem PySem.Spec PyProof.Rows L2 Evl Y
section
variable {X : Cx} {pins : List (Addr × Obj)} {σ : L2.St} {H : Hp} {s : Shared}
theorem NoSys.nil {h : Heap} : NoSys h [] := fun b m => (nomatch m)
theorem NoSys.app {h : Heap} {as bs : List Addr} (a : NoSys h as) (b : NoSys h bs) : NoSys h (as ++ bs) := fun x m => (List.mem_append.mp m).elim (a x) (b x)
theorem NoSys.cons {h : Heap} {a : Addr} {as : List Addr} (n : ∀ o, h.get? a = some o → o.cls = .type "dict" → a ≠ sysModules) (b : NoSys h as) : NoSys h (a :: as) := fun x m => by
  rcases List.mem_cons.mp m with rfl | m
  · exact n
  · exact b x m
end
/-- a value that can be shown, lists and dicts at once -/
structure Gm (d : Dt) : Prop where
  g : gd d = true
  dp : dpt d ≤ 60
  w : wt d ≤ 16000000
theorem Ga.gm {d : Dt} (h : Ga d) : Gm d := ⟨h.g, h.dp, h.w⟩
end Z
set_option Elab.async false
set_option linter.all false
set_option maxRecDepth 100000
set_option maxHeartbeats 4000000
/-! any values: their kinds; tuples != (); small values of a class and what is made of them -/
namespace Z
open PySem PySem.Spec PyProof.Rows L2 Evl Y
/-! ### kinds -/
def kTup : Dt → Bool
  | .tup _ => true | .tz _ => true | _ => false
def kStr : Dt → Bool
  | .str _ => true | _ => false
theorem kk_tup {d : Dt} (h : plainD d = true) : kitB (tyD d) "tuple" = some (kTup d) := by
  cases d <;> first | exact kb_NoneType_tuple | exact kb_bool_tuple | exact kb_int_tuple | exact kb_str_tuple | exact kb_tuple_tuple | exact kb_list_tuple | exact kb_dict_tuple | cases h
theorem kk_str {d : Dt} (h : plainD d = true) : kitB (tyD d) "str" = some (kStr d) := by
  cases d <;> first | exact kb_NoneType_str | exact kb_bool_str | exact kb_int_str | exact kb_str_str | exact kb_tuple_str | exact kb_list_str | exact kb_dict_str | cases h
section
variable {X : Cx} {ρ : List Sl} {a : Expr} {Q : Dt → Prop} {pos q1 q2 : Pos}
theorem d_kTup (m1 : X.mg "isinstance" = none) (m2 : X.mg "tuple" = none) (hg : Gl X "isinstance") (hgt : Gl X "tuple") (h : DE X ρ a fun d => plainD d = true ∧ Q (.bl (kTup d)))
    (he : starEach [a, .Name "tuple" pos] X.env = (false, eval a X.env) :: starEach [.Name "tuple" pos] X.env := by rfl) (he2 : starEach [.Name "tuple" pos] X.env = (false, eval (.Name "tuple" pos) X.env) :: starEach [] X.env := by rfl) (hpl : (backTo q2 (starEach [.Name "tuple" pos] X.env)).any (·.1) = false := by rfl) :
    DE X ρ (.Call (.Name "isinstance" q1) [a, .Name "tuple" pos] [] q2) Q := d_isi (T := "tuple") hg m1 hgt m2 (by decide +kernel) (.of (h.weak fun d ⟨p, q⟩ => ⟨p, _, kk_tup p, q⟩)) (he := he) (he2 := he2) (hpl := hpl)
theorem d_kStr (m1 : X.mg "isinstance" = none) (m2 : X.mg "str" = none) (hg : Gl X "isinstance") (hgt : Gl X "str") (h : DE X ρ a fun d => plainD d = true ∧ Q (.bl (kStr d)))
    (he : starEach [a, .Name "str" pos] X.env = (false, eval a X.env) :: starEach [.Name "str" pos] X.env := by rfl) (he2 : starEach [.Name "str" pos] X.env = (false, eval (.Name "str" pos) X.env) :: starEach [] X.env := by rfl) (hpl : (backTo q2 (starEach [.Name "str" pos] X.env)).any (·.1) = false := by rfl) :
    DE X ρ (.Call (.Name "isinstance" q1) [a, .Name "str" pos] [] q2) Q := d_isi (T := "str") hg m1 hgt m2 (by decide +kernel) (.of (h.weak fun d ⟨p, q⟩ => ⟨p, _, kk_str p, q⟩)) (he := he) (he2 := he2) (hpl := hpl)
end
/-! ### tuples != () -/
/-! ### a class of small values -/
mutual
/-- ints up to M, texts of signs of one byte up to L, tuples and lists of these, the empty dict -/
def cl (M L : Nat) : Dt → Bool
  | .non => true
  | .bl _ => true
  | .int n => decide (n.natAbs ≤ M)
  | .str s => decide (s.length ≤ L) && s.cps.toList.all fun c => decide (c < 128)
  | .tup ds => clL M L ds
  | .lst ds => clL M L ds
  | .dic [] => true
  | _ => false
def clL (M L : Nat) : List Dt → Bool
  | [] => true
  | d :: r => cl M L d && clL M L r
end
theorem clL_iff {M L : Nat} {ds : List Dt} : clL M L ds = true ↔ ∀ d ∈ ds, cl M L d = true := by
  induction ds with
  | nil => simp [clL]
  | cons d r ih => simp [clL, ih]
mutual
theorem cl_mono {M L M' L' : Nat} (hM : M ≤ M') (hL : L ≤ L') : ∀ {d : Dt}, cl M L d = true → cl M' L' d = true
  | .non, _ => rfl
  | .bl _, _ => rfl
  | .int n, h => by simp only [cl, decide_eq_true_eq] at h ⊢; omega
  | .str s, h => by simp only [cl, Bool.and_eq_true, decide_eq_true_eq] at h ⊢; exact ⟨by omega, h.2⟩
  | .tup ds, h => by simp only [cl] at h ⊢; exact clL_mono hM hL h
  | .lst ds, h => by simp only [cl] at h ⊢; exact clL_mono hM hL h
  | .dic [], _ => rfl
  | .dic (_ :: _), h => by simp [cl] at h
  | .dit _, h => by simp [cl] at h
  | .obj _ _, h => by simp [cl] at h
  | .dk _ _ _ _, h => by simp [cl] at h
  | .tx _, h => by simp [cl] at h
  | .tz _, h => by simp [cl] at h
theorem clL_mono {M L M' L' : Nat} (hM : M ≤ M') (hL : L ≤ L') : ∀ {ds : List Dt}, clL M L ds = true → clL M' L' ds = true
  | [], _ => rfl
  | d :: r, h => by
    simp only [clL, Bool.and_eq_true] at h ⊢
    exact ⟨cl_mono hM hL h.1, clL_mono hM hL h.2⟩
end
mutual
theorem cl_gd {M L : Nat} (hM : M < 10 ^ 41) (hL : L ≤ 1000) : ∀ {d : Dt}, cl M L d = true → gd d = true
  | .non, _ => rfl
  | .bl _, _ => rfl
  | .int n, h => by simp only [cl, decide_eq_true_eq] at h; simp only [gd, leafI, decide_eq_true_eq]; omega
  | .str s, h => by
    simp only [cl, Bool.and_eq_true, decide_eq_true_eq, List.all_eq_true] at h
    simp only [gd, leafS, Bool.and_eq_true, decide_eq_true_eq, List.all_eq_true]
    exact ⟨by omega, fun c hc => by have := h.2 c hc; omega⟩
  | .tup ds, h => by simp only [cl] at h; simp only [gd]; exact clL_gd hM hL h
  | .lst ds, h => by simp only [cl] at h; simp only [gd]; exact clL_gd hM hL h
  | .dic [], _ => rfl
  | .dic (_ :: _), h => by simp [cl] at h
  | .dit _, h => by simp [cl] at h
  | .obj _ _, h => by simp [cl] at h
  | .dk _ _ _ _, h => by simp [cl] at h
  | .tx _, h => by simp [cl] at h
  | .tz _, h => by simp [cl] at h
theorem clL_gd {M L : Nat} (hM : M < 10 ^ 41) (hL : L ≤ 1000) : ∀ {ds : List Dt}, clL M L ds = true → gdL ds = true
  | [], _ => rfl
  | d :: r, h => by
    simp only [clL, Bool.and_eq_true] at h
    simp only [gdL, Bool.and_eq_true]
    exact ⟨cl_gd hM hL h.1, clL_gd hM hL h.2⟩
end
theorem cl_plain {M L : Nat} {d : Dt} (h : cl M L d = true) : plainD d = true := by
  cases d with
  | dic kvs => rfl
  | _ => first | rfl | (simp [cl] at h)
theorem dptL_iff {ds : List Dt} {n : Nat} : dptL ds ≤ n ↔ ∀ d ∈ ds, dpt d ≤ n := by
  induction ds with
  | nil => simp [dptL]
  | cons d r ih => simp [dptL, Nat.max_le, ih]
/-- a small value of a class, of a weight and a depth -/
structure Bv (M L k n : Nat) (d : Dt) : Prop where
  c : cl M L d = true
  dp : dpt d ≤ n
  w : wt d ≤ k
theorem Bv.mono {M L k n M' L' k' n' : Nat} {d : Dt} (h : Bv M L k n d) (hM : M ≤ M') (hL : L ≤ L') (hk : k ≤ k') (hn : n ≤ n') : Bv M' L' k' n' d := ⟨cl_mono hM hL h.c, Nat.le_trans h.dp hn, Nat.le_trans h.w hk⟩
theorem Bv.gm {M L k n : Nat} {d : Dt} (h : Bv M L k n d) (hM : M < 10 ^ 41) (hL : L ≤ 1000) (hk : k ≤ 16000000) (hn : n ≤ 60) : Gm d := ⟨cl_gd hM hL h.c, Nat.le_trans h.dp hn, Nat.le_trans h.w hk⟩
theorem Bv.tup {M L n k : Nat} {ds : List Dt} (h : ∀ d ∈ ds, cl M L d = true) (hn : ∀ d ∈ ds, dpt d ≤ n) (hk : wtL ds + 3 ≤ k) : Bv M L k (n + 1) (.tup ds) :=
  ⟨by simp only [cl]; exact clL_iff.mpr h, by simp only [dpt]; exact Nat.succ_le_succ (dptL_iff.mpr hn), by simp only [wt]; exact hk⟩
theorem Bv.lst {M L n k : Nat} {ds : List Dt} (h : ∀ d ∈ ds, cl M L d = true) (hn : ∀ d ∈ ds, dpt d ≤ n) (hk : wtL ds + 3 ≤ k) : Bv M L k (n + 1) (.lst ds) :=
  ⟨by simp only [cl]; exact clL_iff.mpr h, by simp only [dpt]; exact Nat.succ_le_succ (dptL_iff.mpr hn), by simp only [wt]; exact hk⟩
theorem Bv.int {M L k n : Nat} {i : Int} (h : i.natAbs ≤ M) (hk : 42 ≤ k) : Bv M L k n (.int i) := ⟨by simp only [cl, decide_eq_true_eq]; exact h, by simp [dpt], by simp only [wt]; exact hk⟩
theorem Bv.bl {M L k n : Nat} {b : Bool} (hk : 42 ≤ k) : Bv M L k n (.bl b) := ⟨rfl, by simp [dpt], by simp only [wt]; exact hk⟩
theorem Bv.non {M L k n : Nat} (hk : 42 ≤ k) : Bv M L k n .non := ⟨rfl, by simp [dpt], by simp only [wt]; exact hk⟩
theorem Bv.str {M L k n : Nat} {s : Str} (h : s.length ≤ L) (c : ∀ x ∈ s.cps.toList, x < 128) (hk : 10 * L + 2 ≤ k) : Bv M L k n (.str s) :=
  ⟨by simp only [cl, Bool.and_eq_true, decide_eq_true_eq, List.all_eq_true]; exact ⟨h, c⟩, by simp [dpt], by simp only [wt, leafW]; omega⟩
end Z
set_option Elab.async false
set_option linter.all false
set_option maxRecDepth 100000
set_option maxHeartbeats 4000000
/-! return of a new object -/
namespace Z
open PySem PySem.Spec PyProof.Rows L2 Evl Y
section
variable {X : Cx} {ρ : List Sl} {e : Expr} {pos : Pos} {rest : List Stmt} {E : DEnds}
theorem s_retN (h : DN X ρ e E.r1) : DS X ρ (.Return (some e) pos :: rest) E :=
  ⟨fun H0 B0 B σ H D g En L => semS_of (pss_cons (ps_ret pe_sem) pss_sem) (h.go En fun B2 p d H2 g2 E2 hp hb od q => L.r1 d B2 p H2 q (g.trans g2) hb (fresh_back g.h hp) od)⟩
end
end Z
set_option Elab.async false
set_option linter.all false
set_option maxRecDepth 100000
set_option maxHeartbeats 4000000
/-! any value in a tuple of texts -/
namespace Y
open PySem PySem.Spec PyProof.Rows L2
open PySem.W
open PySem.AutoSeq1 (wpAny_loadPart')
section
variable {A : Around} {s : Shared} {prog : Program} {w : World}
theorem dict_eq_str {a : Addr} {E : Value → Shared → Prop} {b : Str} {u : Tok} {Q : Value → Shared → Prop} (ta : s.TypeIs (.ref a) "dict") (h : Q .notImplemented s) : wpAny (model prog w) A (call (.builtin "dict.__eq__") [.ref a, .str b u]) Q E s := by
  refine wpAny_call_entry PySem.F.slot_dict_eq ta PySem.F.entry_dict_eq ?_ (PySem.F.args_dict_eq_2 _ _)
  show wpAny _ _ (Builtin.Dict.dictSlotArgs "__eq__" ⟨[.ref a, .str b u], []⟩ >>= _) _ _ s
  refine wpAny_bind ?_
  unfold Builtin.Dict.dictSlotArgs
  refine wpAny_bind (wpAny_notOrdered_dict ta ?_)
  show wpAny _ _ (pure (Value.ref a, Value.str b u)) _ _ s
  refine wpAny_pure (wpAny_bind (wpAny_isInstance (T := "str") (show s.TypeIs (.str b u) "str" from rfl) PySem.F.sub_str_dict ?_))
  simp only [Bool.not_false, if_true]
  exact wpAny_bind (wpAny_rule (wpAny_pure ⟨_, rfl, h⟩))
theorem str_eq_dict (b : Str) (u : Tok) (l : Addr) (es : Array DictEntry) (n : Nat) (dd : Option Addr) (sl : Array (Option Value)) :
    Meets (Builtin.«str.__eq__» ⟨[.str b u, .ref l], []⟩) (fun _ R s => s.heap.get? l = some { cls := .type "dict", dict := dd, data := .dict es n, slots := sl } ∧ R (.ok (.ret .notImplemented)) s) :=
  .of_wp fun prog w A R s h => by
    obtain ⟨hp, g, d, tk, os⟩ := s
    obtain ⟨hl, h⟩ := h
    wp_walk using wpAny_loadPart' hl, wpAny_load hl
    exact ⟨_, rfl, h⟩
theorem eqAt_str_dict {a : Addr} {o : Obj} {es : Array DictEntry} {n : Nat} (b : Str) (u : Tok) (ho : s.heap.get? a = some o) (hc : o.cls = .type "dict") (hd : o.data = .dict es n) (hu : A.units < cLine) : PySem.SeqAt.EqAt A s (.str b u) (.ref a) false := fun prog w E Q h => by
  obtain ⟨c, dd, dat, sl⟩ := o
  simp only at hc hd
  subst hc hd
  have ta : s.TypeIs (.ref a) "dict" := ⟨_, ho, rfl⟩
  unfold eqBool
  refine wpAny_holding ?_
  refine wpAny_ite_split (fun hab => absurd (eq_of_beq hab) nofun) (fun _ => ?_)
  refine wpAny_bind ?_
  exact PySem.SeqAt.rc_eq_decline_or (k := false) (show s.TypeIs (.str b u) "str" from rfl) ta (by decide) PySem.F.sub_dict_str PySem.F.slot_str_eq PySem.F.slot_dict_eq_refl
    (fun _ q => call_meets PySem.F.slot_str_eq (show s.TypeIs (.str b u) "str" from rfl) PySem.F.entry_str_eq (PySem.F.args_str_eq_2 _ _) (str_eq_dict b u a es n dd sl) ⟨ho, q⟩)
    (fun _ q => dict_eq_str ta q)
    (fun _ q => wpAny_of_eq (show isSame (.str b u) (.ref a) = pure false from rfl) q) (.inr hu) (wpAny_truthy_bool h)
end
end Y
namespace Z
open PySem PySem.Spec PyProof.Rows L2 Evl Y
/-- d in (texts) -/
def rInS (K : PySem.W.Frag) : R2 := fun x y H Q => ∃ (B : Hp) (d : Dt) (b : Addr) (ts : List Str), Evl.Ex B H ∧ Rp K B x d ∧ plainD d = true ∧ y = .ref b ∧ SqT K H b (ts.map V.str) ∧ Q (.bl (ts.any fun t => isS t d)) H
theorem eqAt_strD {X : Cx} {pins : List (Addr × Obj)} {σ : L2.St} {H : Hp} {s : Shared} {A : Around} (I : L2.Inv X pins σ H s) {x : V} {d : Dt} {v : Value} (rp : Rp X.K H x d) (pl : plainD d = true) (rx : RelV x v) (hu : A.units < cLine) (t : Str) (u : Tok) : PySem.SeqAt.EqAt A s (.str t u) v (isS t d) := by
  cases rp with
  | non => cases rx; exact PySem.SeqAt.EqAt.str_none t u
  | bl b => cases rx; exact PySem.SeqAt.EqAt.str_bool t u b
  | int n =>
    obtain ⟨k, rfl⟩ := rx
    exact PySem.SeqAt.EqAt.str_int t u n k
  | str n =>
    obtain ⟨k, rfl⟩ := rx
    have e : isS t (.str n) = (t == n) := by
      show decide (n = t) = _
      by_cases h : n = t
      · subst h; simp
      · have : ¬ t = n := fun e => h e.symm
        simp [h, this]
    rw [e]
    exact PySem.SeqAt.EqAt.str_str t u n k
  | tup ha hx =>
    cases rx
    obtain ⟨its, rv, h1, _⟩ := I.tuple ha
    exact PySem.SeqAt.EqAt.str_tuple t u h1 hu
  | tz ha hx =>
    cases rx
    obtain ⟨its, rv, h1, _⟩ := I.tuple ha.st
    exact PySem.SeqAt.EqAt.str_tuple t u h1 hu
  | lst ha hx =>
    cases rx
    obtain ⟨its, rv, ⟨o, n, ho, hc, hi, hd⟩, _⟩ := I.list ha
    exact PySem.SeqAt.EqAt.str_list t u ⟨o, ho, hc, n, hd⟩ hu
  | dic ha hx =>
    cases rx
    obtain ⟨_, hs, vs, rel, o, es, ep, ho, hx, hd, _⟩ := dk_rd I.hok ha
    exact eqAt_str_dict t u ho hx.1 hd hu
  | _ => cases pl
theorem rpl_strs0 {K : PySem.W.Frag} {B : Hp} : ∀ {vs : List V} {ts : List Str}, RpL K B vs (ts.map Dt.str) → vs = ts.map V.str
  | _, [], q => by cases q; rfl
  | _, k :: ks, q => by
    rw [List.map_cons] at q
    cases q with
    | cons a b => cases a; rw [List.map_cons, rpl_strs0 b]
def eOf (d : Dt) : Value → Bool
  | .str t _ => isS t d
  | _ => false
theorem vals_strs : ∀ {ts : List Str} {us : List Value}, Vals (ts.map V.str) us → (∀ y ∈ us, ∃ t k, y = .str t k) ∧ ∀ d, us.any (eOf d) = ts.any fun t => isS t d
  | [], us, h => by
    have hl := h.length
    cases us with
    | nil => exact ⟨(fun y h => nomatch h), fun d => rfl⟩
    | cons _ _ => simp at hl
  | t :: ts, us, h => by
    cases h with
    | cons a b =>
      obtain ⟨k, rfl⟩ := a
      obtain ⟨h1, h2⟩ := vals_strs b
      refine ⟨fun y hy => ?_, fun d => ?_⟩
      · rcases List.mem_cons.mp hy with rfl | hy
        · exact ⟨_, _, rfl⟩
        · exact h1 y hy
      · rw [List.any_cons, List.any_cons, h2 d]; rfl
theorem op_inS {X : Cx} (hu : X.A.units + 64 < cLine) : OpR X (compareOp .In) (rInS X.K) := by
  intro pins s σ H x y v u Q I rx ry h
  obtain ⟨B, d, b, ts, ex, rp, pl, rfl, ht, q⟩ := h
  have rp := rp.ex ex
  cases ry
  obtain ⟨its, rv, h1, _⟩ := I.tuple ht
  obtain ⟨hs, ha⟩ := vals_strs rv
  refine PySem.SeqAt.in_tupleAt (eOf d) h1 (fun y hy => ?_) ?_
  · obtain ⟨t, k, rfl⟩ := hs y (by simpa using hy)
    exact eqAt_strD I rp pl rx (by show X.A.units + 1 < cLine; omega) t k
  · have e : its.toArray.any (eOf d) = ts.any fun t => isS t d := by rw [← ha d]; simp
    rw [e]
    exact ⟨.bl _, H, I, rfl, q⟩
theorem wc_inS {K : PySem.W.Frag} : WC K (rInS K) fun x y Q => ∃ ts : List Str, y = .tup (ts.map Dt.str) ∧ plainD x = true ∧ Q (ts.any fun t => isS t x) := fun B H x y d1 d2 Q R s rx ry ⟨ts, ed, pl, q⟩ k => by
  subst ed
  have ry := ry.ex s
  cases ry with
  | tup ha hx =>
    have e := rpl_strs0 hx
    subst e
    exact ⟨B, d1, _, ts, s, rx, pl, rfl, ha, k _ q⟩
section
variable {X : Cx} {ρ : List Sl} {a b : Expr} {pos : Pos}
theorem d_inS {Q : Dt → Prop} (hu : X.A.units + 64 < cLine) (h : DA X ρ a fun d1 => DA X ρ b fun d2 => ∃ ts : List Str, d2 = .tup (ts.map Dt.str) ∧ plainD d1 = true ∧ Q (.bl (ts.any fun t => isS t d1))) (hm : behindInMarks .In b = false := by rfl) : DE X ρ (.Compare a [.In] [b] pos) Q := d_cmp (op_inS hu) wc_inS h hm
end
end Z
set_option Elab.async false
set_option linter.all false
set_option maxRecDepth 100000
set_option maxHeartbeats 4000000
/-! any value == a text; in texts, at heap level -/
namespace Y
open PySem PySem.Spec PyProof.Rows L2
open PySem.W
open PySem.AutoSeq1 (wpAny_loadPart')
section
variable {A : Around} {s : Shared} {prog : Program} {w : World}
theorem eq_dict_str {a : Addr} {o : Obj} {es : Array DictEntry} {n : Nat} {E : Value → Shared → Prop} {b : Str} {u : Tok} {Q : Value → Shared → Prop} (ho : s.heap.get? a = some o) (hc : o.cls = .type "dict") (hd : o.data = .dict es n) (hu : A.units < cLine) (h : Q (.bool false) s) :
    wpAny (model prog w) A (richCompare .Eq (.ref a) (.str b u)) Q E s := by
  obtain ⟨c, dd, dat, sl⟩ := o
  simp only at hc hd
  subst hc hd
  have ta : s.TypeIs (.ref a) "dict" := ⟨_, ho, rfl⟩
  exact PySem.SeqAt.rc_eq_decline_or (k := false) ta (show s.TypeIs (.str b u) "str" from rfl) (by decide) PySem.F.sub_str_dict PySem.F.slot_dict_eq PySem.F.slot_str_eq_refl (fun _ q => dict_eq_str ta q)
    (fun _ q => call_meets PySem.F.slot_str_eq_refl (show s.TypeIs (.str b u) "str" from rfl) PySem.F.entry_str_eq (PySem.F.args_str_eq_2 _ _) (str_eq_dict b u a es n dd sl) ⟨ho, q⟩)
    (fun _ q => wpAny_of_eq (show isSame (.ref a) (.str b u) = pure false from rfl) q) (.inr hu) h
end
end Y
namespace Z
open PySem PySem.Spec PyProof.Rows L2 Evl Y
section
variable {X : Cx}
/-- x == s, x a list, tuple or dict -/
def rEqRS (K : PySem.W.Frag) : R2 := fun x y H Q => ∃ (a : Addr) (t : Str), x = .ref a ∧ y = .str t ∧ ((∃ xs, SqL K H a xs) ∨ (∃ xs, SqT K H a xs) ∨ ∃ kvs, Rd H a (.dK kvs)) ∧ Q (.bl false) H
theorem op_eqRS (hu : X.A.units + 64 < cLine) : OpR X (compareOp .Eq) (rEqRS X.K) := by
  intro pins s σ H x y v u Q I rx ry h
  obtain ⟨a, t, rfl, rfl, k, q⟩ := h
  cases rx
  obtain ⟨tk, rfl⟩ := ry
  have un : X.A.units < cLine := by omega
  have fin : EP X pins σ Q (.bool false) s := ⟨.bl _, H, I, rfl, q⟩
  rcases k with ⟨xs, k⟩ | ⟨xs, k⟩ | ⟨kvs, k⟩
  · obtain ⟨its, rv, ⟨o, n, ho, hc, _, hd⟩, _⟩ := I.list k
    exact SeqAt.RcAt.list_str t tk ⟨o, ho, hc, n, hd⟩ un X.prog X.w _ _ fin
  · obtain ⟨its, rv, ⟨o, ho, hc, n, hd⟩, _⟩ := I.tuple k
    exact SeqAt.RcAt.tuple_str t tk ⟨o, ho, hc, n, hd⟩ un X.prog X.w _ _ fin
  · obtain ⟨_, hs, vs, rel, o, es, ep, ho, hx, hd, _⟩ := dk_rd I.hok k
    exact eq_dict_str ho hx.1 hd un fin
end
section
variable {X : Cx} {ρ : List Sl} {e a b c o : Expr} {es : List Expr} {Q Q' : Dt → Prop} {d : Dt} {pos p1 p2 p3 q1 q2 : Pos} {σ : L2.St} {H B H0 : Hp}
theorem wc_eqS {K : PySem.W.Frag} : WC K (fun x y H Q => (rEq x y H Q ∨ rEqD K x y H Q) ∨ rEqRS K x y H Q) (fun x y Q => ∃ t, y = .str t ∧ plainD x = true ∧ leafS t = true ∧ Q (isS t x)) := fun B H x y d1 d2 Q R s rx ry ⟨t, e, pl, lt, q⟩ k => by
  subst e
  cases ry
  have rx := rx.ex s
  have q := k _ q
  have st : SeqAt.shaped (PyData.str t) = true := by
    have h1 : PyData.strOk t = true := by
      unfold PyData.strOk
      rw [← Array.all_toList, List.all_eq_true]
      exact fun c hc => decide_eq_true (Nat.lt_of_lt_of_le ((leafS_parts lt).2 c hc) (by decide))
    show (PyData.canLay0 (.str t) && _) = true
    rw [show PyData.canLay0 (.str t) = true from h1]; rfl
  cases rx with
  | non => exact .inl (.inr ⟨.none, .str t, .non, .str t, rfl, st, q⟩)
  | bl b => exact .inl (.inr ⟨.bool b, .str t, .bl b, .str t, rfl, st, q⟩)
  | int n => exact .inl (.inr ⟨.int n, .str t, .int n, .str t, rfl, st, q⟩)
  | str n => exact .inl (.inl ⟨rfl, by simpa [isS] using q⟩)
  | tup ha hx => exact .inr ⟨_, _, rfl, rfl, .inr (.inl ⟨_, ha⟩), q⟩
  | tz ha hx => exact .inr ⟨_, _, rfl, rfl, .inr (.inl ⟨_, ha.st⟩), q⟩
  | lst ha hx => exact .inr ⟨_, _, rfl, rfl, .inl ⟨_, ha⟩, q⟩
  | dic ha hx => exact .inr ⟨_, _, rfl, rfl, .inr (.inr ⟨_, ha⟩), q⟩
  | _ => cases pl
theorem d_eqS (hu : X.A.units + 64 < cLine) (h : DA X ρ a fun d1 => DA X ρ b fun d2 => ∃ t, d2 = .str t ∧ plainD d1 = true ∧ leafS t = true ∧ Q (.bl (isS t d1))) : DE X ρ (.Compare a [.Eq] [b] pos) Q := d_cmp (OpR.or (OpR.or op_eq (op_eqD hu)) (op_eqRS hu)) wc_eqS h (nomark _)
end
end Z
set_option Elab.async false
set_option linter.all false
set_option maxRecDepth 100000
set_option maxHeartbeats 4000000
/-! slots of a heap, without a law's texts -/
namespace Z
open PySem PySem.Spec PyProof.Rows L2 Evl Y
end Z
set_option Elab.async false
set_option linter.all false
set_option maxRecDepth 100000
set_option maxHeartbeats 4000000
/-! min of two ints by data -/
namespace Z
open PySem PySem.Spec PyProof.Rows L2 Evl Y
end Z
set_option Elab.async false
set_option linter.all false
set_option maxRecDepth 100000
set_option maxHeartbeats 4000000
/-! what has been made is frozen -/
namespace Z
open PySem PySem.Spec PyProof.Rows L2 Evl Y
open Classical in
/-- the frozen part with all that is new -/
noncomputable def withNew (B H H2 : Hp) : Hp := fun a => match B a with
  | some o => some o
  | none => if H a = none then H2 a else none
theorem Gr.made {B H H2 : Hp} (s : Evl.Ex B H) (e : Evl.Ex H H2) : Gr B H (withNew B H H2) H2 := by
  refine ⟨fun a o h => by unfold withNew; rw [h], e, fun a o h => ?_, fun a u h m q => ?_⟩
  · unfold withNew at h
    split at h
    · rename_i q
      cases h
      exact e _ _ (s _ _ q)
    · split at h
      · exact h
      · cases h
  · unfold withNew
    rw [q]
    show (if H a = none then H2 a else none) = none
    rw [if_neg (by rw [h]; exact nofun)]
end Z
set_option Elab.async false
set_option linter.all false
set_option maxRecDepth 100000
set_option maxHeartbeats 4000000
/-! x, y = frozen, new, by way of a tuple (names that a comprehension captures); by data -/
namespace Z
open PySem PySem.Spec PyProof.Rows L2 Evl Y
end Z
set_option Elab.async false
set_option linter.all false
set_option maxRecDepth 100000
set_option maxHeartbeats 4000000
/-! defs that may raise, called by keyword; try .. except C as e: return '..' + repr(e.thing); by data -/
namespace Z
open PySem PySem.Spec PyProof.Rows L2 Evl Y
end Z
set_option Elab.async false
set_option linter.all false
set_option maxRecDepth 100000
set_option maxHeartbeats 4000000
/-! dict(list of (known tuple, value)); {'k': v, 'l': w}; by data -/
namespace Z
open PySem PySem.Spec PyProof.Rows L2 Evl Y
end Z
set_option Elab.async false
set_option linter.all false
set_option maxRecDepth 100000
set_option maxHeartbeats 4000000
/-! list(range(n)), tuple(range(n)), sorted(tuple of ints), ints compared; by data -/
namespace Y
open PySem PyProof.Rows
section
variable {prog : Program} {w : World} {A : Around} {E : Value → Shared → Prop} {s : Shared}
theorem collect_tup {l : Addr} {vs : List Value} {Q : List Value → Shared → Prop} (hl : IsTup s.heap l vs.toArray)
    (h : Q vs { s with heap := (s.heap.push (seqObj "list" #[] 0)).update s.heap.objs.size (Obj.mapSeq (· ++ vs.toArray)) }) (hsz : vs.length ≤ sizeLine) :
    wpAny (model prog w) A (collect (.ref l)) Q E s := by
  obtain ⟨o, ho, hc, n, hd⟩ := id hl
  unfold collect
  refine wpAny_bind (wpAny_runValue (codeAny_builtin entry_proto_collect' ?_))
  show wpAny _ _ (do again (.builtin "list.__iadd__" ⟨[← newList [], .ref l], []⟩)) _ _ s
  refine wpAny_bind (wpAny_newList (wpAny_pure ⟨Code.quiet_builtin _ (by decide +kernel), codeAny_builtin entry_list_iadd' ?_⟩))
  show wpAny _ _ (Builtin.List.listExtendWith (.ref s.heap.objs.size) (.ref l) (.ref s.heap.objs.size)) _ _ { s with heap := s.heap.push (seqObj "list" #[] 0) }
  unfold Builtin.List.listExtendWith
  have ho' : (s.heap.push (seqObj "list" #[] 0)).get? l = some o := Heap.get?_push_of_some _ ho
  refine wpAny_bind (wpAny_typeOf (T := "tuple") ⟨o, ho', hc⟩ ?_)
  have ht : (Value.type "tuple" == Value.type "tuple") = true := by rfl
  rw [if_pos (by rw [ht]; simp)]
  refine wpAny_bind (listItems_at ho' hd ?_)
  refine wpAny_bind (listItems_at (xs := #[]) (n := 0) (Heap.get?_push_size _ rfl) rfl ?_)
  rw [if_neg (by simp)]
  refine wpAny_bind (listUpdate_at (xs := #[]) (n := 0) (Heap.get?_push_size _ rfl) rfl ?_ (Nat.zero_le _) (by show (#[] ++ vs.toArray).size ≤ sizeLine + 1; simp only [Array.size_append, List.size_toArray, List.length_nil]; omega))
  refine wpAny_pure ?_
  show wpAny (model prog w) A (do
      let o ← load s.heap.objs.size
      match o.data with
      | .seq xs _ => pure xs.toList
      | _ => unsupported "internal:collect") Q E { s with heap := (s.heap.push (seqObj "list" #[] 0)).update s.heap.objs.size (Obj.mapSeq (· ++ vs.toArray)) }
  refine wpAny_bind (wpAny_load (get?_update_seq (Heap.get?_push_size _ rfl) _) ?_)
  show wpAny _ _ (pure ((#[] : Array Value) ++ vs.toArray).toList) Q E _
  rw [show ((#[] : Array Value) ++ vs.toArray).toList = vs by simp]
  exact wpAny_pure h
open SrtO in
theorem sorted_ordT {l : Addr} {vs : List Value} {ltv : Value → Value → Bool} {Q : Value → Shared → Prop} (O : Swo ltv) (hl : IsTup s.heap l vs.toArray) (hz : vs.length ≤ sizeLine)
    (hS : 2 ≤ vs.length → ∀ (h₁ : Heap) (a : Addr), h₁.get? a = some (seqObj "list" vs.toArray 0) → (∀ b o, s.heap.get? b = some o → b ≠ a ∧ h₁.get? b = some o) → SortableO prog w A.in1.in1 { s with heap := h₁ } a vs ltv)
    (h : ∀ out : List Value, Srtd ltv out → Stb ltv out vs → Q (.ref (s.heap.objs.size + 1)) { s with heap := sortedAll s.heap vs out.toArray }) :
    wpAny (model prog w) A (call (.builtin "sorted") [.ref l]) Q E s := by
  refine Calls.call_function_entry kind_sorted plain_sorted entry_sorted (args_sorted1 _) ?_
  unfold Builtin.«sorted»
  refine wpAny_bind (m := checkCount "sorted" 1 1 _) (wpAny_pure ?_)
  refine wpAny_bind (collect_tup hl ?_ hz)
  refine wpAny_bind (wpAny_newList ?_ hz)
  have hsz : ((s.heap.push (seqObj "list" #[] 0)).update s.heap.objs.size (Obj.mapSeq (· ++ vs.toArray))).objs.size = s.heap.objs.size + 1 := by
    rw [Heap.size_update, size_push']
  have hoL : (((s.heap.push (seqObj "list" #[] 0)).update s.heap.objs.size (Obj.mapSeq (· ++ vs.toArray))).push (seqObj "list" vs.toArray 0)).get? (s.heap.objs.size + 1) = some (seqObj "list" vs.toArray 0) := by
    rw [← hsz]; exact Heap.get?_push_size _ rfl
  have keep : ∀ b o, s.heap.get? b = some o → b ≠ s.heap.objs.size + 1 ∧ (((s.heap.push (seqObj "list" #[] 0)).update s.heap.objs.size (Obj.mapSeq (· ++ vs.toArray))).push (seqObj "list" vs.toArray 0)).get? b = some o := fun b o q => by
    have hlt : b < s.heap.objs.size := Heap.lt_size q
    refine ⟨Nat.ne_of_lt (Nat.lt_succ_of_lt hlt), Heap.get?_push_of_some _ ?_⟩
    rw [Heap.get?_update_ne _ _ _ _ (Nat.ne_of_lt hlt)]
    exact Heap.get?_push_of_some _ q
  show wpAny _ _ _ _ _ { s with heap := ((s.heap.push (seqObj "list" #[] 0)).update s.heap.objs.size (Obj.mapSeq (· ++ vs.toArray))).push (seqObj "list" vs.toArray 0) }
  rw [hsz]
  refine wpAny_bind (wpAny_holding (wpAny_call_entry slot_list_sort ⟨_, hoL, rfl⟩ entry_list_sort (list_sort_ord O hoL hz (fun h2 => hS h2 _ _ hoL keep) fun out hs hb => ⟨_, rfl, ?_⟩) (args_list_sort _)))
  exact wpAny_pure ⟨_, rfl, h out hs hb⟩
end
open PySem.Spec L2
def rSortedIT (K : PySem.W.Frag) : List V → Hp → VK → Prop := fun vs H Q => ∃ (a : Addr) (ns : List Int), vs = [V.ref a] ∧ SqT K H a (ns.map V.int) ∧
  ∀ (ns' : List Int) (p : Addr), ns'.Perm ns → ns'.Pairwise (· ≤ ·) → H p = none → Q (.ref p) (upd H p (.lst (ns'.map V.int)))
theorem cr_sortedIT {X : Cx} : CallR X (.builtin "sorted") (rSortedIT X.K) := by
  intro pins s σ H vs us Q I r h
  obtain ⟨a, ns, rfl, hs, q⟩ := h
  obtain ⟨its, rv, hl, hz⟩ := I.tuple hs
  rw [Vals.ref1 r]
  have hi := rv.ints
  refine sorted_ordT SrtO.swo_int hl (by rw [← rv.length]; exact hz) (fun h2 h₁ a' _ _ => SrtO.ints_sortable hi h2) fun out h1 h2 => ?_
  obtain ⟨k1, k2, k3⟩ := SrtO.ints_out hi h1 h2
  obtain ⟨ep, he'⟩ := PyProof.Rows.sortedAll_at s.heap its out.toArray
  have hlen : ((out.map SrtO.iv).map V.int).length ≤ sizeLine := by
    rw [List.length_map, k2.length_eq]
    rw [List.length_map] at hz
    exact hz
  exact ⟨.ref _, upd H (s.heap.objs.size + 1) (.lst ((out.map SrtO.iv).map V.int)), I.laid (t' := s.toks) (fun _ _ => PyProof.Rows.sortedAll_old) (Nat.le_succ _) ⟨hlen, out, ep, vals_of_ints k1, he'⟩, rfl, q _ _ k2 k3 (I.hok.fresh (Nat.le_succ _))⟩
end Y
namespace Z
open PySem PySem.Spec PyProof.Rows L2 Evl Y
theorem rpl_rg {K : PySem.W.Frag} {B : Hp} (n : Nat) : RpL K B (rgV 0 (n : Int)) (rngD 0 n) := by
  unfold rgV rngD
  rw [Int.sub_zero, Int.toNat_natCast]
  generalize List.range n = l
  induction l with
  | nil => exact .nil
  | cons a r ih => rw [List.map_cons, List.map_cons]; exact .cons (.int _) ih
section
variable {X : Cx} {ρ : List Sl} {a : Expr} {Q : Dt → Prop} {q1 q2 q3 q4 : Pos}
/-- list(range(n)) -/
theorem n_listR (hc : X.calm = true) (hg : Gl X "list") (hm : X.mg "list" = none) (hg2 : Gl X "range") (hm2 : X.mg "range" = none) (h : DE X ρ a fun d => ∃ n : Nat, d = .int (n : Int) ∧ n ≤ 100000 ∧ Q (.lst (rngD 0 n)))
    (hst : starEach [a] X.env = (false, eval a X.env) :: starEach [] X.env := by rfl) (hst2 : starEach [.Call (.Name "range" q3) [a] [] q4] X.env = (false, eval (.Call (.Name "range" q3) [a] [] q4) X.env) :: starEach [] X.env := by rfl) : DN X ρ (.Call (.Name "list" q1) [.Call (.Name "range" q3) [a] [] q4] [] q2) Q :=
  ⟨fun H0 B σ H E => sem_of (pe_listRg hc hg hm (prg_1 hg2 hm2 pe_sem hst) hst2) (h.go E fun B2 v d H2 g E2 r ⟨n, ed, hn, q⟩ => by
    subst ed
    cases r
    refine ⟨(n : Int), rfl, RgOk.of_le (by decide) (by omega) (by decide) (by omega), fun p hp => ?_⟩
    have hb := fresh_back E2.ex hp
    exact ⟨B2, p, .lst (rngD 0 n), ⟨g.b, g.h.trans (Ex.new hp), Ex.mut E2.ex hb, g.o⟩, rfl, fresh_back g.h hp, hb, ⟨_, upd_same, rpl_rg n⟩, q⟩)⟩
/-- tuple(range(n)) -/
theorem d_tupR (hc : X.calm = true) (hg : Gl X "tuple") (hm : X.mg "tuple" = none) (hg2 : Gl X "range") (hm2 : X.mg "range" = none) (h : DE X ρ a fun d => ∃ n : Nat, d = .int (n : Int) ∧ n ≤ 100000 ∧ Q (.tup (rngD 0 n)))
    (hst : starEach [a] X.env = (false, eval a X.env) :: starEach [] X.env := by rfl) (hst2 : starEach [.Call (.Name "range" q3) [a] [] q4] X.env = (false, eval (.Call (.Name "range" q3) [a] [] q4) X.env) :: starEach [] X.env := by rfl) : DE X ρ (.Call (.Name "tuple" q1) [.Call (.Name "range" q3) [a] [] q4] [] q2) Q :=
  ⟨fun H0 B σ H E => sem_of (pe_tupRg hc hg hm (prg_1 hg2 hm2 pe_sem hst) hst2) (h.go E fun B2 v d H2 g E2 r ⟨n, ed, hn, q⟩ => by
    subst ed
    cases r
    refine ⟨(n : Int), rfl, RgOk.of_le (by decide) (by omega) (by decide) (by omega), fun p hp => ?_⟩
    have gn := Gr.new (o := .tup (rgV 0 (n : Int))) E2.ex hp
    exact ⟨_, _, g.trans gn, .tup (st_of upd_same) (rpl_rg n), q⟩)⟩
/-- sorted(tuple of ints) -/
theorem n_sortIT (hg : Gl X "sorted") (hm : X.mg "sorted" = none) (h : DE X ρ a fun d => ∃ ns : List Int, d = .tup (ns.map Dt.int) ∧ ∀ ns' : List Int, ns'.Perm ns → ns'.Pairwise (· ≤ ·) → Q (.lst (ns'.map Dt.int))) (hst : starEach [a] X.env = (false, eval a X.env) :: starEach [] X.env := by rfl) : DN X ρ (.Call (.Name "sorted" q1) [a] [] q2) Q :=
  ⟨fun H0 B σ H E => sem_of (pe_callB cr_sortedIT hg hm (by decide +kernel) (pa_cons pe_sem pa_nil hst) (he := hst)) (h.go E fun B2 v d H2 g E2 r q => by
    obtain ⟨ns, hd, q⟩ := q
    subst hd
    cases r with
    | tup ha hx =>
      refine ⟨_, ns, rfl, by rw [← hx.ints]; exact ex_t E2.ex ha, fun ns' p h1 h2 hp => ?_⟩
      have hb := fresh_back E2.ex hp
      exact ⟨B2, p, .lst (ns'.map Dt.int), ⟨g.b, g.h.trans (Ex.new hp), Ex.mut E2.ex hb, g.o⟩, rfl, fresh_back g.h hp, hb, ⟨_, upd_same, rpl_ints ns'⟩, q ns' h1 h2⟩)⟩
end
theorem ints_can : ∀ l : List Int, isPL (l.map Dt.int) = true ∧ PyData.canLayAll0 (toPL (l.map Dt.int)) = true ∧ PyData.depthAll (toPL (l.map Dt.int)) = 0
  | [] => ⟨rfl, rfl, rfl⟩
  | n :: r => by
    obtain ⟨a, b, c⟩ := ints_can r
    rw [List.map_cons, toPL_cons]
    refine ⟨by simp [isPL, isP, a], ?_, ?_⟩
    · show (PyData.canLay0 (.int n) && _) = true
      rw [b]; rfl
    · show max (PyData.depth (.int n)) _ = 0
      rw [c]; rfl
theorem eqv_ints : ∀ u v : List Int, PyData.eqvAll (toPL (u.map Dt.int)) (toPL (v.map Dt.int)) = decide (u = v)
  | [], [] => rfl
  | [], q :: v => by rw [List.map_cons, toPL_cons]; rfl
  | p :: u, [] => by rw [List.map_cons, toPL_cons]; rfl
  | p :: u, q :: v => by
    rw [List.map_cons, List.map_cons, toPL_cons, toPL_cons]
    show (PyData.eqv (.int p) (.int q) && PyData.eqvAll (toPL (u.map Dt.int)) (toPL (v.map Dt.int))) = _
    have e : PyData.eqv (.int p) (.int q) = decide (p = q) := by simp [PyData.eqv]; rfl
    rw [eqv_ints u v, e, Bool.eq_iff_iff, Bool.and_eq_true, decide_eq_true_eq, decide_eq_true_eq, decide_eq_true_eq, List.cons.injEq]
theorem shaped_intsL (l : List Int) : SeqAt.shaped (toP (.lst (l.map Dt.int))) = true := by
  obtain ⟨_, b, c⟩ := ints_can l
  show (PyData.canLayAll0 (toPL (l.map Dt.int)) && decide (PyData.depthAll (toPL (l.map Dt.int)) + 1 ≤ 64)) = true
  rw [b, c]; rfl
theorem eqQ_intsL {f : Bool → Bool} {u v : List Int} {Q : Bool → Prop} (h : Q (f (decide (u = v)))) : eqQ f (.lst (u.map Dt.int)) (.lst (v.map Dt.int)) Q :=
  ⟨⟨by simpa [isP] using (ints_can u).1, by simpa [isP] using (ints_can v).1, shaped_intsL u, shaped_intsL v⟩, by
    have e : PyData.eqv (toP (.lst (u.map Dt.int))) (toP (.lst (v.map Dt.int))) = decide (u = v) := by rw [toP_lst, toP_lst]; exact eqv_ints u v
    rw [e]; exact h⟩
end Z
set_option Elab.async false
set_option linter.all false
set_option maxRecDepth 100000
set_option maxHeartbeats 4000000
/-! frozen dicts walked: for k, v in d.items(), [.. for k in d if ..]; by data -/
namespace Y
open PySem PySem.Spec PyProof.Rows L2 Evl
end Y
namespace Z
open PySem PySem.Spec PyProof.Rows L2 Evl Y
section
variable {K : PySem.W.Frag} {H0 B B0 B2 H H2 : Hp} {ρ : List Sl} {σ : L2.St} {i : Nat}
theorem rds_lock {B B' : Hp} {p : Addr} {od : Obj} {ys : List (Key × V)} (h : B p = some (.dK ys)) (h' : B' p = some (.frz od (.dK ys))) (e : ∀ a, a ≠ p → B' a = B a) : Rds K B B' := by
  have np : ∀ {a : Addr} {u : HO}, B a = some u → u ≠ .dK ys → a ≠ p := fun ha hu z => by subst z; rw [h] at ha; cases ha; exact hu rfl
  refine ⟨fun a xs s => ?_, fun a xs s => ?_, fun a zs s => ?_, fun a zs s => ?_, fun a C dx zs s => by rw [e a (np s nofun)]; exact s, fun a f s => by rw [e a (np s nofun)]; exact s, fun a xs s => by rw [e a (np s nofun)]; exact s, fun a xs ⟨o, s, d⟩ => ⟨o, by rw [e a (np s nofun)]; exact s, d⟩⟩
  · rcases s with s | s
    · rcases s with s | ⟨o, s⟩
      · exact .inl (.inl (by rw [e a (np s nofun)]; exact s))
      · exact .inl (.inr ⟨o, by rw [e a (np s nofun)]; exact s⟩)
    · exact .inr s
  · rcases s with s | s
    · rcases s with s | ⟨o, s⟩
      · exact .inl (.inl (by rw [e a (np s nofun)]; exact s))
      · exact .inl (.inr ⟨o, by rw [e a (np s nofun)]; exact s⟩)
    · exact .inr s
  · by_cases z : a = p
    · subst z
      rcases s with s | ⟨o, s⟩
      · rw [h] at s; cases s; exact .inr ⟨od, h'⟩
      · rw [h] at s; cases s
    · rcases s with s | ⟨o, s⟩
      · exact .inl (by rw [e a z]; exact s)
      · exact .inr ⟨o, by rw [e a z]; exact s⟩
  · rcases s with s | ⟨o, s⟩
    · exact .inl (by rw [e a (np s nofun)]; exact s)
    · exact .inr ⟨o, by rw [e a (np s nofun)]; exact s⟩
theorem rds_unlock {B B' : Hp} {p : Addr} {od : Obj} {ys : List (Key × V)} (h : B p = some (.frz od (.dK ys))) (h' : B' p = some (.dK ys)) (e : ∀ a, a ≠ p → B' a = B a) : Rds K B B' := by
  have np : ∀ {a : Addr} {u : HO}, B a = some u → u ≠ .frz od (.dK ys) → a ≠ p := fun ha hu z => by subst z; rw [h] at ha; cases ha; exact hu rfl
  refine ⟨fun a xs s => ?_, fun a xs s => ?_, fun a zs s => ?_, fun a zs s => ?_, fun a C dx zs s => by rw [e a (np s nofun)]; exact s, fun a f s => by rw [e a (np s nofun)]; exact s, fun a xs s => by rw [e a (np s nofun)]; exact s, fun a xs ⟨o, s, d⟩ => ⟨o, by rw [e a (np s (fun z => by cases z))]; exact s, d⟩⟩
  · rcases s with s | s
    · rcases s with s | ⟨o, s⟩
      · exact .inl (.inl (by rw [e a (np s nofun)]; exact s))
      · exact .inl (.inr ⟨o, by rw [e a (np s (fun z => by cases z))]; exact s⟩)
    · exact .inr s
  · rcases s with s | s
    · rcases s with s | ⟨o, s⟩
      · exact .inl (.inl (by rw [e a (np s nofun)]; exact s))
      · exact .inl (.inr ⟨o, by rw [e a (np s (fun z => by cases z))]; exact s⟩)
    · exact .inr s
  · by_cases z : a = p
    · subst z
      rcases s with s | ⟨o, s⟩
      · rw [h] at s; cases s
      · rw [h] at s; cases s; exact .inl h'
    · rcases s with s | ⟨o, s⟩
      · exact .inl (by rw [e a z]; exact s)
      · exact .inr ⟨o, by rw [e a z]; exact s⟩
  · rcases s with s | ⟨o, s⟩
    · exact .inl (by rw [e a (np s nofun)]; exact s)
    · exact .inr ⟨o, by rw [e a (np s (fun z => by cases z))]; exact s⟩
theorem Od.rds {B H B2 H2 : Hp} {p : Addr} {d : Dt} (h : Od K B H p d) (b : Rds K B B2) (e : H2 p = H p) : Od K B2 H2 p d := by
  cases d with
  | lst ds => obtain ⟨xs, h, r⟩ := h; exact ⟨xs, e.trans h, r.rds b⟩
  | dic ds => obtain ⟨xs, h, r⟩ := h; exact ⟨xs, e.trans h, r.rds b⟩
  | dit ds => obtain ⟨xs, h, r⟩ := h; exact ⟨xs, e.trans h, r.rds b⟩
  | _ => exact h.elim
/-- the frozen dict p is locked -/
theorem En.lockF {p : Addr} {ys : List (Key × V)} (od : Obj) (E : En K H0 B ρ σ H) (hB : B p = some (.dK ys)) : En K (upd H0 p (.frz od (.dK ys))) (upd B p (.frz od (.dK ys))) ρ σ (upd H p (.frz od (.dK ys))) := by
  have r : Rds K B (upd B p (.frz od (.dK ys))) := rds_lock hB upd_same fun a n => upd_ne n
  refine ⟨fun x u h => ?_, E.len, fun j e h => ?_, fun j e h => ?_, E.sep⟩
  · by_cases z : x = p
    · subst z; rw [upd_same] at h ⊢; exact h
    · rw [upd_ne z] at h ⊢; exact E.ex _ _ h
  · obtain ⟨v, a, b⟩ := E.fr j e h
    exact ⟨v, a, b.rds r⟩
  · obtain ⟨q, a, b, c, o⟩ := E.ow j e h
    have n : q ≠ p := fun z => by subst z; rw [hB] at b; cases b
    exact ⟨q, a, by rw [upd_ne n]; exact b, by rw [upd_ne n]; exact c, o.rds r (upd_ne n)⟩
theorem Gr.at (g0 : Gr B0 H0 B H) : Gr B H0 B H := ⟨Ex.refl _, g0.h, g0.s, fun _ _ _ _ q => q⟩
theorem Gr.lockF {p : Addr} {ys : List (Key × V)} (od : Obj) (g : Gr B0 H0 B H) : Gr (upd B p (.frz od (.dK ys))) (upd H0 p (.frz od (.dK ys))) (upd B p (.frz od (.dK ys))) (upd H p (.frz od (.dK ys))) :=
  ⟨Ex.refl _, ex_upd g.h, ex_upd g.s, fun a u h m q => q⟩
end
section
variable {X : Cx} {ρ : List Sl} {e a b c o elt tst tg : Expr} {es : List Expr} {Q Q' : Dt → Prop} {σ : L2.St} {d : Dt} {pos pos' p1 p2 p3 q1 q2 px py pz pt apos cpos : Pos} {nm fnm x nx ny : Str} {scope : Scope} {own : List (Str × Nat)} {rest body : List Stmt} {E : DEnds}
theorem gr_unlock {B H B3 H3 : Hp} {p : Addr} {ys : List (Key × V)} {od : Obj} (s : Evl.Ex B H) (ha : B p = some (.dK ys)) (g3 : Gr (upd B p (.frz od (.dK ys))) (upd H p (.frz od (.dK ys))) B3 H3) : Gr B H (upd B3 p (.dK ys)) (upd H3 p (.dK ys)) := by
  refine ⟨fun a u h => ?_, fun a u h => ?_, ex_upd g3.s, fun a u h m q => ?_⟩
  · by_cases z : a = p
    · subst z; rw [ha] at h; cases h; exact upd_same
    · rw [upd_ne z]; exact g3.b _ _ (by rw [upd_ne z]; exact h)
  · by_cases z : a = p
    · subst z; rw [s _ _ ha] at h; cases h; exact upd_same
    · rw [upd_ne z]; exact g3.h _ _ (by rw [upd_ne z]; exact h)
  · by_cases z : a = p
    · subst z; rw [ha] at q; cases q
    · rw [upd_ne z]; exact g3.o a u (by rw [upd_ne z]; exact h) m (by rw [upd_ne z]; exact q)
end
end Z
set_option Elab.async false
set_option linter.all false
set_option maxRecDepth 100000
set_option maxHeartbeats 4000000
/-! a dict whose keys are words (tuples of pairs of ints) and whose values are True: {w: True}, w not in d, d[w] = True, list(d) -/
namespace Z
open PySem PySem.Spec PyProof.Rows L2 Evl Y
abbrev Wd := List (Int × Int)
abbrev ltD (q : Int × Int) : Dt := .tup [.int q.1, .int q.2]
abbrev wdD (u : Wd) : Dt := .tup (u.map ltD)
/-- the keys stand as words -/
def NdK (K : PySem.W.Frag) (H : Hp) (L : List (Addr × Wd)) : Prop := ∀ p ∈ L, Rp K H (.ref p.1) (wdD p.2)
theorem NdK.ex {K : PySem.W.Frag} {H H' : Hp} {L : List (Addr × Wd)} (h : NdK K H L) (e : Evl.Ex H H') : NdK K H' L := fun p hp => (h p hp).ex e
end Z
set_option Elab.async false
set_option linter.all false
set_option maxRecDepth 100000
set_option maxHeartbeats 4000000
/-! x < y of alike data -/
namespace Z
open PySem PySem.Spec PyProof.Rows L2 Evl Y
def rLtA (K : PySem.W.Frag) : R2 := fun x y H Q => ∃ d e, Dp K H x d ∧ Dp K H y e ∧ PySem.W.alike d e = true ∧ d ≠ .none ∧ d.depth ≤ 60 ∧ Q (.bl (PySem.W.dataLt d e)) H
theorem op_ltA {X : Cx} (hu : X.A.units + 64 < cLine) : OpR X (compareOp .Lt) (rLtA X.K) := by
  intro pins s σ H x y v u Q I rx ry h
  obtain ⟨d, e, hd, he, sa, sn, sp, q⟩ := h
  obtain ⟨as, r1⟩ := Dp.reads I d x v hd rx
  obtain ⟨bs, r2⟩ := Dp.reads I e y u he ry
  exact PySem.W.lt_data r1 r2 sa sn (by have := Nat.min_le_left d.depth e.depth; omega) ⟨.bl _, H, I, rfl, q⟩
/-- two values may be asked which is the lower one -/
structure Alk (x y : Dt) : Prop where
  p1 : isP x = true
  p2 : isP y = true
  al : PySem.W.alike (toP x) (toP y) = true
  nn : toP x ≠ .none
  dp : (toP x).depth ≤ 60
abbrev ltD2 (x y : Dt) : Bool := PySem.W.dataLt (toP x) (toP y)
theorem wc_ltA {K : PySem.W.Frag} : WC K (rLtA K) fun x y Q => Alk x y ∧ Q (ltD2 x y) :=
  fun B H x y d1 d2 Q R s rx ry ⟨a, q⟩ k => ⟨_, _, (rx.ex s).dp a.p1, (ry.ex s).dp a.p2, a.al, a.nn, a.dp, k _ q⟩
section
variable {X : Cx} {ρ : List Sl} {a b : Expr} {pos : Pos}
theorem d_ltA {Q : Dt → Prop} (hu : X.A.units + 64 < cLine) (h : DA X ρ a fun d1 => DA X ρ b fun d2 => Alk d1 d2 ∧ Q (.bl (ltD2 d1 d2))) : DE X ρ (.Compare a [.Lt] [b] pos) Q := d_cmp (op_ltA hu) wc_ltA h (nomark _)
end
theorem alk_str (s t : Str) : Alk (.str s) (.str t) := ⟨rfl, rfl, by simp [toP, PySem.W.alike], by simp [toP], by simp [toP, PyData.depth]⟩
theorem alk_two (s t u v : Str) : Alk (.tup [.str s, .str t]) (.tup [.str u, .str v]) := ⟨by simp [isP, isPL], by simp [isP, isPL], by simp [toP, toPL, PySem.W.alike, PySem.W.alikeAll], by simp [toP, toPL], by simp [toP, toPL, PyData.depth, PyData.depthAll]⟩
theorem ltD2_str (s t : Str) : ltD2 (.str s) (.str t) = decide (s.cps.toList < t.cps.toList) := by
  show PySem.W.dataLt (toP (.str s)) (toP (.str t)) = _
  rw [show ∀ s : Str, toP (.str s) = .str s from fun s => by simp [toP], show toP (.str t) = .str t by simp [toP]]
  exact PySem.W.dataLt_str s t
end Z
set_option Elab.async false
set_option linter.all false
set_option maxRecDepth 100000
set_option maxHeartbeats 8000000
/-! tables of any values: the program's own look, by data -/
namespace E5
open PySem PySem.Spec PyProof.Rows L2 Y Z
open Evl (Ex st_of sq_of ex_l ex_t fresh_back sz_of sz_lt)
abbrev abcS : Str := "abcdefghijklmnopqrstuvwxyz"
def isWordB : Dt → Bool
  | .str s => decide (1 ≤ s.length ∧ s.length ≤ 10) && s.cps.toList.all fun c => decide (c ∈ abcS.cps.toList)
  | _ => false
def ascB (xs : List Dt) : Bool := (xs.zip (xs.drop 1)).all fun q => ltD2 q.1 q.2
def strOf : Dt → Str
  | .str s => s
  | _ => ""
def strsOf : Dt → List Str
  | .tup xs => xs.map strOf
  | _ => []
def areKindsB : Dt → Bool
  | .tup xs => xs.all isWordB && ascB xs
  | _ => false
def isPairB (ks : List Str) : Dt → Bool
  | .tup [.str s, .str t] => decide (s ∈ ks) && decide (t ∈ ks) && !Z.ltB t s
  | _ => false
def areConfB (ks : List Str) : Dt → Bool
  | .tup xs => xs.all (isPairB ks) && ascB xs
  | _ => false
def isTableB : Dt → Bool
  | .tup [k, c] => areKindsB k && areConfB (strsOf k) c
  | _ => false
theorem bl_map {ds : List Dt} {f : Dt → Bool} {Q : Dt → Prop} (q : Q (.bl (ds.all f))) : blL (.lst (ds.map fun d => Dt.bl (f d))) fun bs => Q (.bl (bs.all id)) :=
  ⟨ds.map f, by rw [List.map_map]; rfl, by
    have e : (ds.map f).all id = ds.all f := by rw [List.all_map]; rfl
    show Q (.bl ((ds.map f).all id))
    rw [e]; exact q⟩
def sgnOf : Dt → Bool
  | .str s => s.cps.toList.all fun c => decide (c ∈ abcS.cps.toList)
  | _ => false
theorem word_is {d : Dt} (h : isWordB d = true) : ∃ s, d = .str s := by
  cases d <;> first | exact ⟨_, rfl⟩ | cases h
theorem kinds_are {xs : List Dt} (h : xs.all isWordB = true) : xs = (xs.map strOf).map Dt.str := by
  induction xs with
  | nil => rfl
  | cons d r ih =>
    rw [List.all_cons, Bool.and_eq_true] at h
    obtain ⟨s, rfl⟩ := word_is h.1
    rw [List.map_cons, List.map_cons, ← ih h.2]; rfl
section
variable {P : Program} {w : World} {K : PySem.W.Frag} {mg : Str → Option Value} {base : Heap}
def dWordA : List Dt → (Dt → Prop) → Prop := fun ds Q => ∃ (d : Dt) (M : Nat), ds = [d] ∧ cl M 100000 d = true ∧ Q (.bl (isWordB d))
theorem ownA_isword (D : Def K mg "is_plain_word" sp_is_plain_word) (B : Blt mg) {m10 mabc : Value} (hm : mg "MOST_LETTERS" = some m10) (r10 : RelV (.int 10) m10) (ha : mg "LETTERS" = some mabc) (rabc : RelV (.str abcS) mabc) : OwnD P w K mg base "is_plain_word" ["thing"] 1 dWordA := by
  refine ownD D cp_is_plain_word (fun ds Q Q' k ⟨s, M, e, p, q⟩ => ⟨s, M, e, p, k _ q⟩) (fun ds Q ⟨s, M, e, _⟩ => by subst e; rfl) (fun _ _ _ _ _ _ us hl => match us, hl with | [_], _ => rfl) ?_
  rintro X ds Q ⟨f, cdv, A, outer, s0, H, E, rfl⟩ hr ⟨d, M, rfl, hc, q⟩
  have nd := cp_is_plain_word.nd
  have pl := cl_plain hc
  by_cases z : ∃ s, d = .str s
  case neg =>
    have ek : kStr d = false := by cases d <;> first | rfl | exact absurd ⟨_, rfl⟩ z | cases pl
    have eb : isWordB d = false := by cases d <;> first | rfl | exact absurd ⟨_, rfl⟩ z
    rw [eb] at q
    refine s_when <| t_or <| t_not <| t_v <| .of <| d_kStr B.isi B.str (by rfl) (by rfl) <| d_nm 0 rfl ⟨pl, ?_⟩
    rw [ek]
    exact two_t <| two_t <| s_ret <| d_bl q
  obtain ⟨s, rfl⟩ := z
  have hsl : s.length ≤ 100000 := by
    simp only [cl, Bool.and_eq_true, decide_eq_true_eq] at hc
    exact hc.1
  have hz : s.length ≤ sizeLine := Nat.le_trans hsl (by decide)
  refine s_when <| t_or <| t_not <| t_v <| .of <| d_kStr B.isi B.str (by rfl) (by rfl) <| d_nm 0 rfl ⟨rfl, two_f <| t_not <| t_chain (f := fun n m => decide (n ≤ m)) (f' := fun n m => decide (n ≤ m)) op_le op_le (fun n m H Q q => ⟨n, m, rfl, rfl, q⟩) (fun n m H Q q => ⟨n, m, rfl, rfl, q⟩) (d_int <| d_len (by rfl) B.len <| .of <| d_nm 0 rfl ⟨hz, 1, (s.length : Int), rfl, rfl, fun h1 => d_glob ⟨10, rfl, ?_⟩ (by rfl) hm r10 (fun B => .int 10), fun h1 => ?_⟩) (by rfl)⟩
  · have h1 := of_decide_eq_true h1
    refine (show _ ∧ _ from ⟨fun h2 => ?_, fun h2 => ?_⟩)
    · have h3 : ¬ ((s.length : Int) ≤ 10) := by
        intro y
        rw [decide_eq_true y] at h2; cases h2
      have eb : isWordB (.str s) = false := by
        show (decide (1 ≤ s.length ∧ s.length ≤ 10) && _) = false
        rw [decide_eq_false (by omega)]; rfl
      rw [eb] at q
      exact s_ret <| d_bl q
    · have h3 : (s.length : Int) ≤ 10 := by
        by_cases y : (s.length : Int) ≤ 10
        · exact y
        · rw [decide_eq_false y] at h2; cases h2
      have eb : isWordB (.str s) = s.cps.toList.all fun c => decide (c ∈ abcS.cps.toList) := by
        show (decide (1 ≤ s.length ∧ s.length ≤ 10) && _) = _
        rw [decide_eq_true (by omega)]; rfl
      rw [eb] at q
      refine s_ret (d_all rfl (by rfl) B.all (.ofN (n_lc (own := [("letter", 1)]) rfl nd (blkOk_by (N := np_is_plain_word) (sc := defScope sp_is_plain_word) (by decide +kernel)) (gb_nm 1 (fun _ _ _ _ _ => pg_name (i := 1) nd rfl (Or.inl rfl))) (by simp) (i_str <| d_nm 0 rfl ⟨s, rfl, LcQ.map (fun d => .bl (sgnOf d)) (by rw [sgnD_len]; omega) (fun d hd => ?_) (bl_map ?_)⟩))))
      · unfold sgnD at hd
        obtain ⟨c, hc', rfl⟩ := List.mem_map.mp hd
        refine ⟨_, rfl, fun s1 H' C cl fp => d_inSg <| .of <| d_nm 1 rfl <| .of <| d_glob ⟨c, _, rfl, rfl, ?_⟩ (by rfl) ha rabc (fun B => .str _)⟩
        show Dt.bl _ = Dt.bl _
        simp [sgnOf]
      · have e : (sgnD s).all sgnOf = s.cps.toList.all fun c => decide (c ∈ abcS.cps.toList) := by
          unfold sgnD
          rw [List.all_map]
          refine List.all_congr rfl fun c => ?_
          simp [sgnOf]
        rw [e]; exact q
  · have h1 := of_decide_eq_false h1
    have eb : isWordB (.str s) = false := by
      show (decide (1 ≤ s.length ∧ s.length ≤ 10) && _) = false
      rw [decide_eq_false (by omega)]; rfl
    rw [eb] at q
    exact two_t <| s_ret <| d_bl q
theorem cut1 (xs : List Dt) : Z.cutD xs (some 1) none = xs.drop 1 := by
  by_cases h : 1 ≤ xs.length
  · exact cutD_drop (n := 1) h
  · have : xs = [] := List.eq_nil_of_length_eq_zero (by omega)
    subst this
    unfold Z.cutD
    simp
theorem d_tail {X : Cx} {ρ : List Sl} {a : Expr} {Q : Dt → Prop} {j} {p0 p1 p2 : Pos} (h : DE X ρ a fun x => ∃ ds, x = .tup ds ∧ Q (.tup (ds.drop 1))) : DE X ρ (.Subscript a (.Slice (some (.Constant (.int 1) j p0)) none none p2) p1) Q :=
  d_sl (h.weak fun x ⟨ds, ex, q⟩ => (show DE X ρ (.Constant (.int 1) j p0) _ from d_int (by
    subst ex
    show Q _
    rw [cut1]; exact q)))
/-- values of which any two may be asked which is the lower one -/
def dAscA : List Dt → (Dt → Prop) → Prop := fun ds Q => ∃ xs : List Dt, ds = [.tup xs] ∧ xs.length ≤ 1200 ∧ (∀ x ∈ xs, ∀ y ∈ xs, Alk x y) ∧ Q (.bl (ascB xs))
def pairLt : Dt → Bool
  | .tup [x, y] => ltD2 x y
  | _ => false
theorem ownA_isasc (D : Def K mg "is_ascending" sp_is_ascending) (B : Blt mg) : OwnD P w K mg base "is_ascending" ["things"] 1 dAscA := by
  refine ownD D cp_is_ascending (fun ds Q Q' k ⟨xs, e, a, b, q⟩ => ⟨xs, e, a, b, k _ q⟩) (fun ds Q ⟨xs, e, _⟩ => by subst e; rfl) (fun _ _ _ _ _ _ us hl => match us, hl with | [_], _ => rfl) ?_
  rintro X ds Q ⟨f, cdv, A, outer, s0, H, E, rfl⟩ hr ⟨xs, rfl, hl, ha, q⟩
  have nd := cp_is_ascending.nd
  refine s_ret (d_all rfl (by rfl) B.all (.ofN (n_lc (own := [("one", 1), ("other", 2)]) rfl nd (blkOk_by (N := np_is_ascending) (sc := defScope sp_is_ascending) (by decide +kernel)) (gb_tup2 1 2 (fun _ _ _ _ _ => pg_tup rfl (pgs_cons (pg_name (i := 1) nd rfl (Or.inl rfl)) (pgs_cons (pg_name (i := 2) nd rfl (Or.inl rfl)) pgs_nil)))) (by simp) (i_zipT (by rfl) B.zip <| d_nm 0 rfl <| d_tail <| d_nm 0 rfl ⟨xs, rfl, ?_⟩))))
  dsimp only [tuQ]
  refine LcQ.map (fun d => .bl (pairLt d)) ?_ (fun d hd => ?_) (bl_map ?_)
  · unfold zipD; rw [List.length_map, List.length_zip]; omega
  · unfold zipD at hd
    obtain ⟨⟨qa, qb⟩, hq, rfl⟩ := List.mem_map.mp hd
    have h1 := List.of_mem_zip hq
    exact ⟨_, rfl, fun s1 H' C cl fp => d_ltA hr.units <| .of <| d_nm 1 rfl <| .of <| d_nm 2 rfl ⟨ha _ h1.1 _ (List.mem_of_mem_drop h1.2), rfl⟩⟩
  · have e : (zipD xs (xs.drop 1)).all pairLt = ascB xs := by
      unfold zipD ascB
      rw [List.all_map]; rfl
    rw [e]; exact q
end
end E5
set_option Elab.async false
set_option linter.all false
set_option maxRecDepth 100000
set_option maxHeartbeats 8000000
/-! is_pair, are_kinds, are_conflicts, is_table of any values -/
namespace E5
open PySem PySem.Spec PyProof.Rows L2 Y Z
open Evl (Ex st_of sq_of ex_l ex_t fresh_back sz_of sz_lt)
theorem isS_any {ks : List Str} {a : Dt} (h : (ks.any fun t => isS t a) = true) : ∃ s, a = .str s ∧ s ∈ ks := by
  obtain ⟨t, ht, e⟩ := List.any_eq_true.mp h
  cases a with
  | str s =>
    have : s = t := by simpa [isS] using e
    exact ⟨s, rfl, by rw [this]; exact ht⟩
  | _ => cases e
theorem isS_mem {ks : List Str} {s : Str} : (ks.any fun t => isS t (.str s)) = decide (s ∈ ks) := by
  rw [Bool.eq_iff_iff, decide_eq_true_eq]
  constructor
  · intro h
    obtain ⟨u, e, hu⟩ := isS_any h
    cases e; exact hu
  · intro h
    exact List.any_eq_true.mpr ⟨s, h, by simp [isS]⟩
theorem pair_is {ks : List Str} {d : Dt} (h : isPairB ks d = true) : ∃ s t, d = .tup [.str s, .str t] ∧ s ∈ ks ∧ t ∈ ks := by
  unfold isPairB at h
  split at h
  · rename_i s t
    rw [Bool.and_eq_true, Bool.and_eq_true, decide_eq_true_eq, decide_eq_true_eq] at h
    exact ⟨s, t, rfl, h.1.1, h.1.2⟩
  · cases h
theorem pairB_fst {ks : List Str} {a b : Dt} (h : (ks.any fun t => isS t a) = false) : isPairB ks (.tup [a, b]) = false := by
  unfold isPairB
  split
  · rename_i s t e
    cases e
    rw [isS_mem] at h
    rw [h]; rfl
  · rfl
theorem pairB_snd {ks : List Str} {a b : Dt} (h : (ks.any fun t => isS t b) = false) : isPairB ks (.tup [a, b]) = false := by
  unfold isPairB
  split
  · rename_i s t e
    cases e
    rw [isS_mem] at h
    rw [h, Bool.and_false]; rfl
  · rfl
section
variable {P : Program} {w : World} {K : PySem.W.Frag} {mg : Str → Option Value} {base : Heap}
def dPairA : List Dt → (Dt → Prop) → Prop := fun ds Q => ∃ (ks : List Str) (d : Dt) (M : Nat), ds = [.tup (ks.map Dt.str), d] ∧ cl M 100000 d = true ∧ Q (.bl (isPairB ks d))
theorem ownA_ispair (D : Def K mg "is_pair" sp_is_pair) (B : Blt mg) : OwnD P w K mg base "is_pair" ["kinds", "thing"] 1 dPairA := by
  refine ownD D cp_is_pair (fun ds Q Q' k ⟨ks, d, M, e, p, q⟩ => ⟨ks, d, M, e, p, k _ q⟩) (fun ds Q ⟨ks, d, M, e, _⟩ => by subst e; rfl) (fun _ _ _ _ _ _ us hl => match us, hl with | [_, _], _ => rfl) ?_
  rintro X ds Q ⟨f, cdv, A, outer, s0, H, E, rfl⟩ hr ⟨ks, d, M, rfl, hc, q⟩
  have nd := cp_is_pair.nd
  have pl := cl_plain hc
  by_cases z : ∃ xs, d = .tup xs
  case neg =>
    have ek : kTup d = false := by cases d <;> first | rfl | exact absurd ⟨_, rfl⟩ z | (simp [cl] at hc)
    have eb : isPairB ks d = false := by cases d <;> first | rfl | exact absurd ⟨_, rfl⟩ z
    rw [eb] at q
    refine s_when <| t_or <| t_not <| t_v <| .of <| d_kTup B.isi B.tuple (by rfl) (by rfl) <| d_nm 1 rfl ⟨pl, ?_⟩
    rw [ek]
    exact two_t <| two_t <| s_ret <| d_bl q
  obtain ⟨xs, rfl⟩ := z
  have hx : ∀ x ∈ xs, cl M 100000 x = true := clL_iff.mp (by simpa only [cl] using hc)
  refine s_when <| t_or <| t_not <| t_v <| .of <| d_kTup B.isi B.tuple (by rfl) (by rfl) <| d_nm 1 rfl ⟨pl, two_f <| t_ne hr.units <| .of <| d_len (by rfl) B.len <| .of <| d_nm 1 rfl <| .of <| d_int ?_⟩
  show _ ∧ _
  by_cases hl : xs.length = 2
  case neg =>
    rw [decide_eq_false (show ¬ ((xs.length : Int) = 2) by omega)]
    have eb : isPairB ks (.tup xs) = false := by
      unfold isPairB
      split
      · rename_i e
        cases e
        exact absurd rfl hl
      · rfl
    rw [eb] at q
    exact two_t <| s_ret <| d_bl q
  rw [decide_eq_true (show (xs.length : Int) = 2 by omega)]
  obtain ⟨a, b, rfl⟩ : ∃ a b, xs = [a, b] := by
    match xs, hl with
    | [a, b], _ => exact ⟨a, b, rfl⟩
  have pa := cl_plain (hx a (by simp))
  have pb := cl_plain (hx b (by simp))
  refine two_f <| s_asg (d_nm 1 rfl ⟨_, rfl, ?_⟩) (g_tup2 2 3 rfl nd)
  refine s_ret <| d_andN <| d_inS hr.units <| .of <| d_nm 2 rfl <| .of <| d_nm 0 rfl ⟨ks, rfl, pa, ?_⟩
  show _ ∧ _
  cases z1 : ks.any fun t => isS t a with
  | false =>
    rw [pairB_fst z1] at q
    exact ⟨nofun, fun _ => q⟩
  | true =>
    refine two_t <| d_and <| d_inS hr.units <| .of <| d_nm 3 rfl <| .of <| d_nm 0 rfl ⟨ks, rfl, pb, ?_⟩
    show _ ∧ _
    cases z2 : ks.any fun t => isS t b with
    | false =>
      rw [pairB_snd z2] at q
      exact ⟨nofun, fun _ => q⟩
    | true =>
      obtain ⟨s, rfl, hs⟩ := isS_any z1
      obtain ⟨t, rfl, ht⟩ := isS_any z2
      have eb : isPairB ks (.tup [.str s, .str t]) = !Z.ltB t s := by
        show (decide (s ∈ ks) && decide (t ∈ ks) && _) = _
        rw [decide_eq_true hs, decide_eq_true ht]; rfl
      rw [eb] at q
      exact two_t <| d_leS <| .of <| d_nm 2 rfl <| .of <| d_nm 3 rfl q
def dKindsA : List Dt → (Dt → Prop) → Prop := fun ds Q => ∃ (d : Dt) (M : Nat), ds = [d] ∧ cl M 100000 d = true ∧ (∀ xs, d = .tup xs → xs.length ≤ 1200) ∧ Q (.bl (areKindsB d))
theorem ownA_arekinds (D : Def K mg "are_kinds" sp_are_kinds) (B : Blt mg) (OW : OwnD P w K mg base "is_plain_word" ["thing"] 1 dWordA) (OA : OwnD P w K mg base "is_ascending" ["things"] 1 dAscA) : OwnD P w K mg base "are_kinds" ["thing"] 2 dKindsA := by
  refine ownD D cp_are_kinds (fun ds Q Q' k ⟨d, M, e, p, x, q⟩ => ⟨d, M, e, p, x, k _ q⟩) (fun ds Q ⟨d, M, e, _⟩ => by subst e; rfl) (fun _ _ _ _ _ _ us hl => match us, hl with | [_], _ => rfl) ?_
  rintro X ds Q ⟨f, cdv, A, outer, s0, H, E, rfl⟩ hr ⟨d, M, rfl, hc, hlen, q⟩
  have nd := cp_are_kinds.nd
  have pl := cl_plain hc
  by_cases z : ∃ xs, d = .tup xs
  case neg =>
    have ek : kTup d = false := by cases d <;> first | rfl | exact absurd ⟨_, rfl⟩ z | (simp [cl] at hc)
    have eb : areKindsB d = false := by cases d <;> first | rfl | exact absurd ⟨_, rfl⟩ z
    rw [eb] at q
    refine s_when <| t_not <| t_v <| .of <| d_kTup B.isi B.tuple (by rfl) (by rfl) <| d_nm 0 rfl ⟨pl, ?_⟩
    rw [ek]
    exact two_t <| s_ret <| d_bl q
  obtain ⟨xs, rfl⟩ := z
  have hx : ∀ x ∈ xs, cl M 100000 x = true := clL_iff.mp (by simpa only [cl] using hc)
  have hl := hlen xs rfl
  refine s_when <| t_not <| t_v <| .of <| d_kTup B.isi B.tuple (by rfl) (by rfl) <| d_nm 0 rfl ⟨pl, two_f ?_⟩
  refine s_ret <| d_and <| d_all rfl (by rfl) B.all <| .ofN <| n_lc (own := [("kind", 1)]) rfl nd (blkOk_by (N := np_are_kinds) (sc := defScope sp_are_kinds) (by decide +kernel)) (gb_nm 1 (fun _ _ _ _ _ => pg_name (i := 1) nd rfl (Or.inl rfl))) (by simp) (i_tup <| d_nm 0 rfl ?_)
  dsimp only [tuQ]
  refine LcQ.map (fun d => .bl (isWordB d)) (by omega) (fun d hd => ⟨_, rfl, fun s1 H' C cl' fp => d_own OW (hr.mono (by decide)) (by rfl) <| l_cons <| d_nm 1 rfl <| l_nil ⟨d, M, rfl, hx d hd, rfl⟩⟩) (bl_map (Q := fun d => blQ d _) ?_)
  have eb : areKindsB (.tup xs) = (xs.all isWordB && ascB xs) := rfl
  rw [eb] at q
  show _ ∧ _
  cases za : xs.all isWordB with
  | false =>
    rw [za] at q
    exact ⟨nofun, fun _ => q⟩
  | true =>
    rw [za, Bool.true_and] at q
    refine two_t <| d_own OA (hr.mono (by decide)) (by rfl) <| l_cons <| d_nm 0 rfl <| l_nil ⟨xs, rfl, hl, fun x h1 y h2 => ?_, q⟩
    rw [List.all_eq_true] at za
    obtain ⟨s, rfl⟩ := word_is (za x h1)
    obtain ⟨t, rfl⟩ := word_is (za y h2)
    exact alk_str s t
def dConfA : List Dt → (Dt → Prop) → Prop := fun ds Q => ∃ (ks : List Str) (d : Dt) (M : Nat), ds = [.tup (ks.map Dt.str), d] ∧ cl M 100000 d = true ∧ (∀ xs, d = .tup xs → xs.length ≤ 1200) ∧ Q (.bl (areConfB ks d))
theorem ownA_areconf (D : Def K mg "are_conflicts" sp_are_conflicts) (B : Blt mg) (OP : OwnD P w K mg base "is_pair" ["kinds", "thing"] 1 dPairA) (OA : OwnD P w K mg base "is_ascending" ["things"] 1 dAscA) : OwnD P w K mg base "are_conflicts" ["kinds", "thing"] 2 dConfA := by
  refine ownD D cp_are_conflicts (fun ds Q Q' k ⟨ks, d, M, e, p, x, q⟩ => ⟨ks, d, M, e, p, x, k _ q⟩) (fun ds Q ⟨ks, d, M, e, _⟩ => by subst e; rfl) (fun _ _ _ _ _ _ us hl => match us, hl with | [_, _], _ => rfl) ?_
  rintro X ds Q ⟨f, cdv, A, outer, s0, H, E, rfl⟩ hr ⟨ks, d, M, rfl, hc, hlen, q⟩
  have nd := cp_are_conflicts.nd
  have pl := cl_plain hc
  by_cases z : ∃ xs, d = .tup xs
  case neg =>
    have ek : kTup d = false := by cases d <;> first | rfl | exact absurd ⟨_, rfl⟩ z | (simp [cl] at hc)
    have eb : areConfB ks d = false := by cases d <;> first | rfl | exact absurd ⟨_, rfl⟩ z
    rw [eb] at q
    refine s_when <| t_not <| t_v <| .of <| d_kTup B.isi B.tuple (by rfl) (by rfl) <| d_nm 1 rfl ⟨pl, ?_⟩
    rw [ek]
    exact two_t <| s_ret <| d_bl q
  obtain ⟨xs, rfl⟩ := z
  have hx : ∀ x ∈ xs, cl M 100000 x = true := clL_iff.mp (by simpa only [cl] using hc)
  have hl := hlen xs rfl
  refine s_when <| t_not <| t_v <| .of <| d_kTup B.isi B.tuple (by rfl) (by rfl) <| d_nm 1 rfl ⟨pl, two_f ?_⟩
  refine s_ret <| d_and <| d_all rfl (by rfl) B.all <| .ofN <| n_lc (own := [("pair", 2)]) rfl nd (blkOk_by (N := np_are_conflicts) (sc := defScope sp_are_conflicts) (by decide +kernel)) (gb_nm 2 (fun _ _ _ _ _ => pg_name (i := 2) nd rfl (Or.inl rfl))) (by simp) (i_tup <| d_nm 1 rfl ?_)
  dsimp only [tuQ]
  refine LcQ.map (fun d => .bl (isPairB ks d)) (by omega) (fun d hd => ⟨_, rfl, fun s1 H' C cl' fp => d_own OP (hr.mono (by decide)) (by rfl) <| l_cons <| d_nm 0 rfl <| l_cons <| d_nm 2 rfl <| l_nil ⟨ks, d, M, rfl, hx d hd, rfl⟩⟩) (bl_map (Q := fun d => blQ d _) ?_)
  have eb : areConfB ks (.tup xs) = (xs.all (isPairB ks) && ascB xs) := rfl
  rw [eb] at q
  show _ ∧ _
  cases za : xs.all (isPairB ks) with
  | false =>
    rw [za] at q
    exact ⟨nofun, fun _ => q⟩
  | true =>
    rw [za, Bool.true_and] at q
    refine two_t <| d_own OA (hr.mono (by decide)) (by rfl) <| l_cons <| d_nm 1 rfl <| l_nil ⟨xs, rfl, hl, fun x h1 y h2 => ?_, q⟩
    rw [List.all_eq_true] at za
    obtain ⟨s, t, rfl, _⟩ := pair_is (za x h1)
    obtain ⟨u, v, rfl, _⟩ := pair_is (za y h2)
    exact alk_two s t u v
def few (d : Dt) : Prop := ∀ xs, d = .tup xs → xs.length ≤ 1200
def dTableA : List Dt → (Dt → Prop) → Prop := fun ds Q => ∃ (d : Dt) (M : Nat), ds = [d] ∧ cl M 100000 d = true ∧ (∀ xs, d = .tup xs → ∀ x ∈ xs, few x) ∧ Q (.bl (isTableB d))
theorem ownA_istable (D : Def K mg "is_table" sp_is_table) (B : Blt mg) (OK : OwnD P w K mg base "are_kinds" ["thing"] 2 dKindsA) (OC : OwnD P w K mg base "are_conflicts" ["kinds", "thing"] 2 dConfA) : OwnD P w K mg base "is_table" ["thing"] 3 dTableA ∧ OwnDK P w K mg base "is_table" ["thing"] ["thing"] [0] 3 dTableA := by
  refine ownDB D cp_is_table (fun ds Q Q' k ⟨d, M, e, p, x, q⟩ => ⟨d, M, e, p, x, k _ q⟩) (fun ds Q ⟨d, M, e, _⟩ => by subst e; rfl) (fun _ _ _ _ _ _ us hl => match us, hl with | [_], _ => rfl) (fun _ _ _ _ _ _ us hl => match us, hl with | [_], _ => rfl) ?_
  rintro X ds Q ⟨f, cdv, A, outer, s0, H, E, rfl⟩ hr ⟨d, M, rfl, hc, hfew, q⟩
  have nd := cp_is_table.nd
  have pl := cl_plain hc
  by_cases z : ∃ xs, d = .tup xs
  case neg =>
    have ek : kTup d = false := by cases d <;> first | rfl | exact absurd ⟨_, rfl⟩ z | (simp [cl] at hc)
    have eb : isTableB d = false := by cases d <;> first | rfl | exact absurd ⟨_, rfl⟩ z
    rw [eb] at q
    refine s_when <| t_or <| t_not <| t_v <| .of <| d_kTup B.isi B.tuple (by rfl) (by rfl) <| d_nm 0 rfl ⟨pl, ?_⟩
    rw [ek]
    exact two_t <| two_t <| s_ret <| d_bl q
  obtain ⟨xs, rfl⟩ := z
  have hx : ∀ x ∈ xs, cl M 100000 x = true := clL_iff.mp (by simpa only [cl] using hc)
  refine s_when <| t_or <| t_not <| t_v <| .of <| d_kTup B.isi B.tuple (by rfl) (by rfl) <| d_nm 0 rfl ⟨pl, two_f <| t_ne hr.units <| .of <| d_len (by rfl) B.len <| .of <| d_nm 0 rfl <| .of <| d_int ?_⟩
  show _ ∧ _
  by_cases hl : xs.length = 2
  case neg =>
    rw [decide_eq_false (show ¬ ((xs.length : Int) = 2) by omega)]
    have eb : isTableB (.tup xs) = false := by
      unfold isTableB
      split
      · rename_i e
        cases e
        exact absurd rfl hl
      · rfl
    rw [eb] at q
    exact two_t <| s_ret <| d_bl q
  rw [decide_eq_true (show (xs.length : Int) = 2 by omega)]
  obtain ⟨a, b, rfl⟩ : ∃ a b, xs = [a, b] := by
    match xs, hl with
    | [a, b], _ => exact ⟨a, b, rfl⟩
  have fa := hfew _ rfl a (by simp)
  have fb := hfew _ rfl b (by simp)
  refine two_f <| s_asg (d_nm 0 rfl ⟨_, rfl, ?_⟩) (g_tup2 1 2 rfl nd)
  have eb : isTableB (.tup [a, b]) = (areKindsB a && areConfB (strsOf a) b) := rfl
  rw [eb] at q
  refine s_ret <| d_and <| d_own OK (hr.mono (by decide)) (by rfl) <| l_cons <| d_nm 1 rfl <| l_nil ⟨a, M, rfl, hx a (by simp), fa, ?_⟩
  show _ ∧ _
  cases za : areKindsB a with
  | false =>
    rw [za] at q
    exact ⟨nofun, fun _ => q⟩
  | true =>
    rw [za, Bool.true_and] at q
    obtain ⟨ys, rfl⟩ : ∃ ys, a = .tup ys := by cases a <;> first | exact ⟨_, rfl⟩ | cases za
    have hk : ys.all isWordB = true := by
      have : (ys.all isWordB && ascB ys) = true := za
      exact (Bool.and_eq_true_iff.mp this).1
    have ek := kinds_are hk
    have eq1 : strsOf (.tup ys) = ys.map strOf := rfl
    rw [eq1] at q
    refine two_t <| d_own OC (hr.mono (by decide)) (by rfl) <| l_cons <| d_nm 1 rfl <| l_cons <| d_nm 2 rfl <| l_nil ⟨ys.map strOf, b, M, ?_, hx b (by simp), fb, q⟩
    rw [← ek]
end
end E5
set_option Elab.async false
set_option linter.all false
set_option maxRecDepth 100000
set_option maxHeartbeats 4000000
/-! several except clauses that hold the error: one after the other, none of them left out -/
namespace Y
open PySem PySem.Spec PyProof.Rows L2
abbrev TSx := Addr → Value → Option Addr → TS
def gone (i : Nat) (D : Ends) : Ends := { nx := fun σ H => D.nx (σ.set i none) H, rt := D.rt, bk := fun σ H => D.bk (σ.set i none) H, ct := fun σ H => D.ct (σ.set i none) H }
/-- each error finds its clause -/
def wishAs (K : PySem.W.Frag) (i : Nat) (D : Ends) : List (Value × TSx) → WX
  | [], _, _, _, _ => False
  | c :: l, cls, d, σ, H => (PySem.W.exmOne K cls c.1 = some true ∧ ∀ a, H a = none → i < σ.length → c.2 a cls d (gone i D) (σ.set i (some (.ref a))) H) ∨ (PySem.W.exmOne K cls c.1 = some false ∧ wishAs K i D l cls d σ H)
inductive HdsAs (X : Cx) (n : Str) : List ExceptHandler → List (Value × TSx) → Prop
  | nil : HdsAs X n [] []
  | cons {x : Str} {c : Value} {ts : TSx} {b : Stmt} {bs : List Stmt} {p p' : Pos} {hds : List ExceptHandler} {l : List (Value × TSx)} (nm : Names X x c)
      (su : ∀ (a : Addr) (oe : Obj) (cls : Value) (d : Option Addr) (pn : List (Addr × Obj)), Zc cls d oe → (∃ vs, oe.data = .fields vs) → PSs (X.suite a ((a, oe) :: pn)) (b :: bs) (ts a cls d))
      (r : HdsAs X n hds l) : HdsAs X n (.ExceptHandler (some (.Name x p)) (some n) (b :: bs) p' :: hds) ((c, ts) :: l)
/-- the error is on the ground: what a clause starts from -/
structure Down (X : Cx) (B : Heap) (pins : List (Addr × Obj)) (σ : L2.St) (H : Hp) (a : Addr) (cls : Value) (d : Option Addr) (s : Shared) (h : Heap) : Prop where
  fly : HandSPX.FlyingZ B (X.env :: X.outer) a (Zc cls d) h
  inv : ∀ h', HandSPX.FlyingZ B (X.env :: X.outer) a (Zc cls d) h' → h.UpToSlots h' → Inv X pins σ H { s with heap := h' }
  new : H a = none
section
variable {X : Cx} {B : Heap} {pins : List (Addr × Obj)} {σ : L2.St} {H : Hp} {a : Addr} {cls : Value} {d : Option Addr} {s : Shared} {h h' : Heap} {n : Str} {i : Nat}
theorem Down.here (W : Down X B pins σ H a cls d s h) (hf : X.env.frame = some X.env.locals) (fl : HandSPX.FlyingZ B (X.env :: X.outer) a (Zc cls d) h') (up : h.UpToSlots h') :
    ∃ oe, h'.get? a = some oe ∧ Zc cls d oe ∧ (∃ vs, oe.data = .fields vs) ∧ ∀ pn, pn = X.pn ++ pins → Inv (X.suite a ((a, oe) :: pn)) [] σ H { s with heap := h' } := by
  obtain ⟨oe, vs, e, z, dt⟩ := fl.there
  have far : a ∉ frs (X.env :: X.outer) := fun m => by
    obtain ⟨_, o2, e2, q⟩ := fl.2.2.1.mem m
    rw [e] at e2
    cases e2
    exact q _ dt
  refine ⟨oe, e, z, ⟨vs, dt⟩, fun pn hp => ?_⟩
  subst hp
  refine (W.inv h' fl up).suite e dt W.new (fun q => far (List.mem_filterMap.mpr ⟨X.env, List.mem_cons_self, by rw [hf, q]⟩)) fun m => ?_
  obtain ⟨e1, m1, q⟩ := List.mem_filterMap.mp m
  exact far (List.mem_filterMap.mpr ⟨e1, List.mem_cons_of_mem _ m1, q⟩)
/-- the clauses looked at -/
theorem Down.go {D : Ends} (W : Down X B pins σ H a cls d s h) (hf : X.env.frame = some X.env.locals) (ok : X.Ok) (hN : X.N.Nodup) (hi : X.N[i]? = some n) (hl : X.env.kindOf n = some .local) {hds : List ExceptHandler} {l : List (Value × TSx)} (hh : HdsAs X n hds l) :
    wishAs X.K i D l cls d σ H → wpAny (model X.prog X.w) X.A (handleBy (.ref a) X.env hds) (SP X pins D) X.xe { s with heap := h } := by
  obtain ⟨oe, e, z, df, S⟩ := W.here hf W.fly (Heap.UpToSlots.refl _)
  have S := S _ rfl
  have look : PySem.W.Looks (model X.prog X.w) h (typeOf (.ref a)) cls := fun A Q E s k q => wpAny_typeOf_ref (k _ _ e) (by rw [z.1]; exact q)
  induction hh with
  | nil => exact False.elim
  | @cons x c ts b bs p p' hds l nm su r ih =>
    intro w
    refine wpAny_handleBy_cons (codeAny_handlers_test ?_) (by intro q; cases q)
    have name : ∀ {Q E : Value → Shared → Prop}, Q c { s with heap := h } → wpAny (model X.prog X.w) (X.A.mark (some (.ref a))) (eval (.Name x p) X.env) Q E { s with heap := h } := fun {Q E} q => by
      rcases nm with ⟨g, db, m | ⟨m, v, nn⟩⟩
      · exact ld_glob (X := X.suite a ((a, oe) :: (X.pn ++ pins))) S g m q db
      · exact ld_blt (X := X.suite a ((a, oe) :: (X.pn ++ pins))) S g m v q nn db
    rcases w with ⟨t, y⟩ | ⟨t, y⟩
    · refine name ((PySem.W.exm_one (M := model X.prog X.w) S.kIn look t).here ?_)
      refine codeAny_handlers_suite_as (HandSPX.lands_againZ W.fly fun h2 fl up => ?_)
      obtain ⟨oe2, _, z2, df2, S2⟩ := W.here hf fl up
      refine store_ok (X := X.suite a ((a, oe2) :: (X.pn ++ pins))) (v := .ref a) (S2 _ rfl) hN hi (.inl hl) rfl (fun s3 S3 => ?_) (.inr hl)
      refine wpAny_mono ((su a oe2 cls d (X.pn ++ pins) z2 df2).run [] s3 _ H _ S3 (y a W.new (by rw [S.len]; exact (List.getElem?_eq_some_iff.mp hi).1))) (fun f s4 q => ?_) fun _ _ q => False.elim q
      have off : ∀ {σ4 : L2.St} {H4 : Hp} {Q : Shared → Prop}, Inv (X.suite a ((a, oe2) :: (X.pn ++ pins))) [] σ4 H4 s4 → (∀ s5, Inv X pins (σ4.set i none) H4 s5 → Q s5) →
          wpAny (model X.prog X.w) X.A (do bindName X.env n .none; unbindBehindTheSuite X.env n p') (fun _ s5 => Q s5) X.xe s4 := fun S4 hq => gone_ok (S4.unsuite ok) hN hi hl hq
      cases f with
      | next => obtain ⟨σ4, H4, S4, q⟩ := q; exact off S4 fun _ J => ⟨_, _, J, q⟩
      | brk => obtain ⟨σ4, H4, S4, q⟩ := q; exact off S4 fun _ J => ⟨_, _, J, q⟩
      | cont => obtain ⟨σ4, H4, S4, q⟩ := q; exact off S4 fun _ J => ⟨_, _, J, q⟩
      | ret u => obtain ⟨v, σ4, H4, S4, rv, q⟩ := q; exact off S4 fun _ J => ⟨_, _, _, J, rv, q⟩
    · exact name ((PySem.W.exm_one (M := model X.prog X.w) S.kIn look t).here (ih y))
end
end Y
set_option Elab.async false
set_option linter.all false
set_option maxRecDepth 100000
set_option maxHeartbeats 4000000
/-! isinstance(e, C) of a caught error that is one: its own dict does not matter -/
namespace PySem.W
open PySem PySem.Spec PySem.Calls PyProof.Rows
end PySem.W
namespace Y
open PySem PySem.Spec PyProof.Rows L2
end Y
set_option Elab.async false
set_option linter.all false
set_option maxRecDepth 100000
set_option maxHeartbeats 4000000
/-! defs that make lambdas: the tables of code objects grow, all that is known by data stays -/
namespace Z
open PySem PySem.Spec PyProof.Rows L2 Y
open Evl (Ex st_of sq_of ex_l ex_t fresh_back sz_of sz_lt)
open LamX (Tabs TabS ExtN CodeO)
def NoT (B : Hp) : Prop := ∀ a ps, B a ≠ some (.tbl ps)
noncomputable def strip (B : Hp) : Hp := fun a => match B a with
  | some (.tbl _) => none
  | o => o
section
variable {K : PySem.W.Frag} {B B0 B2 H H0 H2 : Hp} {T : List (Addr × Str)}
theorem strip_no : NoT (strip B) := fun a ps h => by
  unfold strip at h
  split at h
  · cases h
  · rename_i q; exact q ps h
theorem strip_sub : Ex (strip B) B := fun a o h => by
  unfold strip at h
  split at h
  · cases h
  · exact h
theorem strip_of {a : Addr} {o : HO} (h : B a = some o) (n : ∀ ps, o ≠ .tbl ps) : strip B a = some o := by
  unfold strip
  split
  · rename_i q; rw [h] at q; cases q; exact absurd rfl (n _)
  · exact h
theorem strip_none {a : Addr} (h : B a = none) : strip B a = none := by
  unfold strip
  rw [h]
theorem strip_ex (n : NoT B) (e : Ex B B2) : Ex B (strip B2) := fun a o h => strip_of (e a o h) fun ps z => n a ps (by rw [h, z])
/-- what is carried where all but the tables stays -/
theorem rds_keep (k : ∀ a o, B a = some o → (∀ ps, o ≠ .tbl ps) → B2 a = some o) : Rds K B B2 where
  t := fun a xs h => by
    rcases h with h | h
    · refine .inl ?_
      rcases h with h | ⟨o, h⟩
      · exact .inl (k a _ h nofun)
      · exact .inr ⟨o, k a _ h nofun⟩
    · exact .inr h
  l := fun a xs h => by
    rcases h with h | h
    · refine .inl ?_
      rcases h with h | ⟨o, h⟩
      · exact .inl (k a _ h nofun)
      · exact .inr ⟨o, k a _ h nofun⟩
    · exact .inr h
  d := fun a ys h => by
    rcases h with h | ⟨o, h⟩
    · exact .inl (k a _ h nofun)
    · exact .inr ⟨o, k a _ h nofun⟩
  dt := fun a ys h => by
    rcases h with h | ⟨o, h⟩
    · exact .inl (k a _ h nofun)
    · exact .inr ⟨o, k a _ h nofun⟩
  o := fun a C dx ys h => k a _ h nofun
  x := fun a f h => k a _ h nofun
  u := fun a xs h => k a _ h nofun
  z := fun a xs ⟨o, h, d⟩ => ⟨o, k a _ h nofun, d⟩
theorem rds_strip : Rds K B (strip B) := rds_keep fun a o h n => strip_of h n
theorem Od.rdsT {p : Addr} {d : Dt} (h : Od K B H p d) (m : Rds K B B2) (e : H2 p = H p) : Od K B2 H2 p d := by
  cases d with
  | lst ds => obtain ⟨xs, h, r⟩ := h; exact ⟨xs, e.trans h, r.rds m⟩
  | dic ds => obtain ⟨xs, h, r⟩ := h; exact ⟨xs, e.trans h, r.rds m⟩
  | dit ds => obtain ⟨xs, h, r⟩ := h; exact ⟨xs, e.trans h, r.rds m⟩
  | _ => exact h.elim
/-- an object of one's own is no table and no `.ext` -/
theorem Od.plain {p : Addr} {d : Dt} (h : Od K B H p d) : ∃ u, H p = some u ∧ mutO u = true ∧ (∀ ps, u ≠ .tbl ps) ∧ ∀ f, u ≠ .ext f := by
  cases d with
  | lst ds => obtain ⟨xs, h, _⟩ := h; exact ⟨_, h, rfl, nofun, nofun⟩
  | dic ds => obtain ⟨xs, h, _⟩ := h; exact ⟨_, h, rfl, nofun, nofun⟩
  | dit ds => obtain ⟨xs, h, _⟩ := h; exact ⟨_, h, rfl, nofun, nofun⟩
  | _ => exact h.elim
/-- heaps that grow, where the tables may be written -/
structure GrT (B H B2 H2 : Hp) : Prop where
  b : Ex B B2
  h : ExtN H H2
  s : Ex B2 H2
  o : ∀ a u, H a = some u → mutO u = true → (∀ ps, u ≠ .tbl ps) → B a = none → B2 a = none
theorem GrT.of (g : Gr B H B2 H2) : GrT B H B2 H2 := ⟨g.b, ExtN.of g.h, g.s, fun a u h m _ q => g.o a u h m q⟩
theorem GrT.refl (s : Ex B H) : GrT B H B H := GrT.of (Gr.refl s)
theorem Gr.strip (n : NoT B) (g : Gr B H B2 H2) : Gr B H (Z.strip B2) H2 := ⟨strip_ex n g.b, g.h, fun a o h => g.s _ _ (strip_sub a o h), fun a u h m q => strip_none (g.o a u h m q)⟩
theorem GrT.trans {B3 H3 : Hp} (a : GrT B H B2 H2) (b : GrT B2 H2 B3 H3) : GrT B H B3 H3 :=
  ⟨a.b.trans b.b, a.h.trans b.h, b.s, fun x u h m n q => b.o x u (a.h x u h n) m n (a.o x u h m n q)⟩
theorem GrT.back {H1 : Hp} (e : Ex H H1) (g : GrT B H1 B2 H2) : GrT B H B2 H2 := ⟨g.b, (ExtN.of e).trans g.h, g.s, fun a u h m n q => g.o a u (e _ _ h) m n q⟩
variable {ρ : List Sl} {σ : L2.St}
theorem En.strip (E : En K H0 B ρ σ H) : En K H0 (Z.strip B) ρ σ H := ⟨fun a o h => E.ex _ _ (strip_sub a o h), E.len, fun i d h => let ⟨v, a, r⟩ := E.fr i d h; ⟨v, a, r.rds rds_strip⟩, fun i d h => by
  obtain ⟨p, a, b, c, o⟩ := E.ow i d h
  exact ⟨p, a, strip_none b, c, o.rdsT rds_strip rfl⟩, E.sep⟩
/-- what is known of tables and `.ext`s, taken into what one has come from -/
noncomputable def deep (H H0 : Hp) : Hp := fun a => match H a with
  | some (.tbl ps) => some (.tbl ps)
  | some (.ext f) => some (.ext f)
  | _ => H0 a
theorem deep_none {p : Addr} {d : Dt} (o : Od K B H p d) (h : H0 p = none) : deep H H0 p = none := by
  obtain ⟨u, hu, _, n, x⟩ := o.plain
  unfold deep
  split
  · rename_i q; rw [hu] at q; cases q; exact absurd rfl (n _)
  · rename_i q; rw [hu] at q; cases q; exact absurd rfl (x _)
  · exact h
theorem En.deep (E : En K H0 B ρ σ H) : En K (Z.deep H H0) B ρ σ H := ⟨E.ex, E.len, E.fr, fun i d h => by
  obtain ⟨p, a, b, c, o⟩ := E.ow i d h
  exact ⟨p, a, b, deep_none o c, o⟩, E.sep⟩
end
structure DEt (X : Cx) (T : List (Addr × Str)) (ρ : List Sl) (e : Expr) (Q : Dt → Prop) : Prop where
  run : ∀ H0 B σ H, NoT B → Tabs T H → En X.K H0 B ρ σ H → semE X e σ H fun v H2 => ∃ B2 d, NoT B2 ∧ Tabs T H2 ∧ GrT B H B2 H2 ∧ Rp X.K B2 v d ∧ Q d
structure DTt (X : Cx) (T : List (Addr × Str)) (ρ : List Sl) (e : Expr) (Q : Bool → Prop) : Prop where
  run : ∀ H0 B σ H, NoT B → Tabs T H → En X.K H0 B ρ σ H → semT X e σ H fun b H2 => ∃ B2, NoT B2 ∧ Tabs T H2 ∧ GrT B H B2 H2 ∧ Q b
/-! ### blocks one after the other -/
end Z
set_option Elab.async false
set_option linter.all false
set_option maxRecDepth 100000
set_option maxHeartbeats 4000000
/-! a def told of a lambda, by data; own defs that make lambdas; statements of such defs -/
namespace Z
open PySem PySem.Spec PyProof.Rows L2 Y
open Evl (Ex st_of sq_of ex_l ex_t fresh_back sz_of sz_lt)
open LamX (Tabs TabS ExtN CodeO GivesTo tLam TabB LamS lamCx lamEnv pe_lamcall)
section
variable {X : Cx} {T : List (Addr × Str)} {ρ : List Sl} {e a b : Expr} {es : List Expr} {Q QL : Dt → Prop} {RL : Str → Dt → Prop} {nm an : Str} {lv k : Nat} {SR : Dt → (Dt → Prop) → Prop} {SX : Str → Dt → (Dt → Prop) → Prop} {params : Arguments} {body : Expr} {scope : Scope} {p lpos pos px py q1 q2 apos cpos pos' : Pos} {c P : Addr}
theorem DEt.of (h : DE X ρ e Q) : DEt X T ρ e Q := ⟨fun H0 B σ H nb t E => sem_mono (h.run H0 B σ H E) fun v H2 ⟨B2, d, g, r, q⟩ => ⟨strip B2, d, strip_no, t.ext g.h, GrT.of (Gr.strip nb g), r.rds rds_strip, q⟩⟩
theorem DTt.of {Q : Bool → Prop} (h : DT X ρ e Q) : DTt X T ρ e Q := ⟨fun H0 B σ H nb t E => semT_mono (h.run H0 B σ H E) fun v H2 ⟨B2, g, q⟩ => ⟨strip B2, strip_no, t.ext g.h, GrT.of (Gr.strip nb g), q⟩⟩
theorem DEt.weak {Q' : Dt → Prop} (h : DEt X T ρ e Q) (k : ∀ d, Q d → Q' d) : DEt X T ρ e Q' := ⟨fun H0 B σ H nb t E => sem_mono (h.run H0 B σ H nb t E) fun v H2 ⟨B2, d, n2, t2, g, r, q⟩ => ⟨B2, d, n2, t2, g, r, k d q⟩⟩
/-! ### new objects -/
theorem GrT.put {B H B2 H2 : Hp} {r : Addr} {o : HO} (g : GrT B H B2 H2) (h : H2 r = none) : GrT B H B2 (upd H2 r o) := ⟨g.b, g.h.trans (ExtN.of (Ex.new h)), g.s.trans (Ex.new h), g.o⟩
/-! ### statements -/
variable {rest ss tt : List Stmt} {E : DEnds} {tg iter : Expr} {x : Str}
end
end Z
set_option Elab.async false
set_option linter.all false
set_option maxRecDepth 100000
set_option maxHeartbeats 4000000
/-! own defs that make lambdas, or call such -/
namespace Y
open PySem PySem.Spec PyProof.Rows L2
open Evl (Ex)
/-- a def of the text whose code object stands at c -/
structure DefC (K : PySem.W.Frag) (mg : Str → Option Value) (nm : Str) (st : Stmt) (c : Addr) : Prop where
  ex : ∃ (f : Addr) (oc : Value) (od : Option Addr) (kV doc pm : Value) (an : Option Addr) (ct : Value) (osl : Array (Option Value)),
    K.lookup f = some ⟨oc, od, .func (PySem.W.fnOf nm nm (defArgs st) (defBody st) (defScope st) .none kV doc pm an (.ref c) ct), osl⟩ ∧ PySem.W.codeIn K (.ref c) nm = true ∧ PySem.W.keepIn K (.ref f) = true ∧ mg nm = some (.ref f)
section
variable {P : Program} {w : World} {K : PySem.W.Frag} {mg : Str → Option Value} {base : Heap} {k : Nat} {ps N : List Str} {sp : Sp} {nm : Str} {st : Stmt} {c : Addr}
theorem DefC.ownG (D : DefC K mg nm st c) (S : FnScope N ps (defScope st)) (len : ∀ vs H Q E, sp vs H Q E → vs.length = ps.length)
    (hb : ∀ (kV doc pm : Value) (an : Option Addr) (cdv ct : Value) (us : List Value), us.length = ps.length → bindArgs (PySem.W.fnOf nm nm (defArgs st) (defBody st) (defScope st) .none kV doc pm an cdv ct) ⟨us, []⟩ = pure (ps.zip us))
    (hbody : ∀ (X : Cx) (H : Hp) (vs : List V) (Q : VK) (E : XK), (∃ (f : Addr) (A : Around) (outer : List Env) (s : Shared), X = (cxOf CX0 P w K mg base N nm (defScope st) f (.ref c) A outer s H E).nox) → X.A.guards = some [] → Room k X.A → sp vs H Q E → semS X (defBody st) { nx := fun _ H' => Q .non H', rt := Q } (start N vs) H) : OwnG P w K mg base nm ps (k + 1) sp := by
  obtain ⟨f, oc, od, kV, doc, pm, an, ct, osl, lk, hcd, kp, m⟩ := D.ex
  refine ⟨f, _, ⟨fun A fr t H ar us vs Q E hg hr e0 hb r hsp => ?_⟩, len, kp, .all (hb kV doc pm an (.ref c) ct), m⟩
  have kin : K.In t.heap := e0.mod.kin.keeps fun b o e => (e0.bs b o e).1
  have nol : t.heap.NoLimit := e0.mod.nolimit.keeps fun b o e => (e0.bs b o e).1
  refine codeAny_call_function hr.depth (kin _ _ lk) rfl S.co S.gen rfl (PySem.W.codeRec_of kin hcd) (hb _ _ _ _ (wpAny_newFunctionEnv_cells S.kind (fun ⟨n, v⟩ hy => (S.par n (List.of_mem_zip hy).1).imp id fun z => ⟨z, PySem.W.cellsFrom_some _ _ _ (.inl z)⟩) fun env he s1 z => ?_))
  subst he
  refine ⟨nol.keeps z.toInCall.keep, codeAny_func ?_⟩
  have I0 := inv_start (CX := CX0) (E := E) S hr.hd e0 (len _ _ _ _ hsp) r z
  refine wpAny_mono ((PSs.nox pss_sem).run [] s1 (start N vs) H _ I0 (hbody _ H vs Q E ⟨f, A, fr, t, rfl⟩ hg (hr.deeper _) hsp)) (fun fl t' hs => ?_) fun _ _ hs => hs
  match fl, hs with
  | .next, ⟨_, H', J, q⟩ => exact ⟨V.non, H', J.os, J.bare, J.base, J.hok, rfl, q⟩
  | .brk, ⟨_, _, _, q⟩ => exact q.elim
  | .cont, ⟨_, _, _, q⟩ => exact q.elim
  | .ret u, ⟨v, _, H', J, rv, q⟩ => exact ⟨v, H', J.os, J.bare, J.base, J.hok, rv, q⟩
end
end Y
namespace Z
open PySem PySem.Spec PyProof.Rows L2 Y
open Evl (Ex st_of sq_of ex_l ex_t fresh_back sz_of sz_lt)
open LamX (Tabs TabS ExtN CodeO TabB)
end Z
set_option Elab.async false
set_option linter.all false
set_option maxRecDepth 100000
set_option maxHeartbeats 4000000
/-! a def that is told of a lambda: try: x() / except C as e: return '..' + repr(e.thing) + repr(isinstance(e, S)), by data -/
namespace Z
open PySem PySem.Spec PyProof.Rows L2 Y
open Evl (Ex st_of sq_of ex_l ex_t fresh_back sz_of sz_lt)
open LamX (Tabs TabS ExtN CodeO GivesTo TabB)
end Z
set_option Elab.async false
set_option linter.all false
set_option maxRecDepth 100000
set_option maxHeartbeats 4000000
/-! the end of a law some of whose defs make lambdas and that asks for repr -/
namespace Y
open PySem PySem.Spec PyProof.Rows L2 Evl
end Y
set_option Elab.async false
set_option linter.all false
set_option maxRecDepth 100000
set_option maxHeartbeats 4000000
/-! a for whose body may raise; a for over a list or a tuple whose body makes lambdas; comparisons of what may raise -/
namespace Z
open PySem PySem.Spec PyProof.Rows L2 Evl Y
end Z
set_option Elab.async false
set_option linter.all false
set_option maxRecDepth 100000
set_option maxHeartbeats 4000000
/-! [e for x in a for y in b if c], b a tuple; not in; tuples of texts compared; by data -/
namespace Z
open PySem PySem.Spec PyProof.Rows L2 Evl Y
section
def rNinS (K : PySem.W.Frag) : R2 := fun x y H Q => ∃ (B : Hp) (d : Dt) (b : Addr) (ts : List Str), Ex B H ∧ Rp K B x d ∧ plainD d = true ∧ y = .ref b ∧ SqT K H b (ts.map V.str) ∧ Q (.bl (!ts.any fun t => isS t d)) H
theorem op_ninS {X : Cx} (hu : X.A.units + 64 < cLine) : OpR X (compareOp .NotIn) (rNinS X.K) := by
  intro pins s σ H x y v u Q I rx ry h
  obtain ⟨B, d, b, ts, ex, rp, pl, rfl, ht, q⟩ := h
  have rp := rp.ex ex
  cases ry
  obtain ⟨its, rv, h1, _⟩ := I.tuple ht
  obtain ⟨hs, ha⟩ := vals_strs rv
  refine PySem.SeqAt.notIn_tupleAt (eOf d) h1 (fun y hy => ?_) ?_
  · obtain ⟨t, k, rfl⟩ := hs y (by simpa using hy)
    exact eqAt_strD I rp pl rx (by show X.A.units + 1 < cLine; omega) t k
  · have e : its.toArray.any (eOf d) = ts.any fun t => isS t d := by rw [← ha d]; simp
    rw [e]
    exact ⟨.bl _, H, I, rfl, q⟩
theorem wc_ninS {K : PySem.W.Frag} : WC K (rNinS K) fun x y Q => ∃ ts : List Str, y = .tup (ts.map Dt.str) ∧ plainD x = true ∧ Q (!ts.any fun t => isS t x) := fun B H x y d1 d2 Q R s rx ry ⟨ts, ed, pl, q⟩ k => by
  subst ed
  have ry := ry.ex s
  cases ry with
  | tup ha hx =>
    have e := rpl_strs0 hx
    subst e
    exact ⟨B, d1, _, ts, s, rx, pl, rfl, ha, k _ q⟩
variable {X : Cx} {ρ : List Sl} {a b : Expr} {pos : Pos}
/-- d not in (texts), d any value -/
theorem t_ninS {Q : Bool → Prop} (hu : X.A.units + 64 < cLine) (h : DA X ρ a fun d1 => DA X ρ b fun d2 => ∃ ts : List Str, d2 = .tup (ts.map Dt.str) ∧ plainD d1 = true ∧ Q (!ts.any fun t => isS t d1)) (hm : behindInMarks .NotIn b = false := by rfl) : DT X ρ (.Compare a [.NotIn] [b] pos) Q := t_cmp (op_ninS hu) wc_ninS h hm
end
theorem shaped_strsT {ss : List Str} (h : ∀ s ∈ ss, leafS s = true) : SeqAt.shaped (toP (.tup (ss.map Dt.str))) = true := by
  have e : toP (.tup (ss.map Dt.str)) = .tuple (ss.map PyData.str) := by simp only [toP, toPL_strs]
  rw [e]
  have h := canLay_strs h
  show (PyData.canLayAll0 (ss.map PyData.str) && decide (PyData.depthAll (ss.map PyData.str) + 1 ≤ 64)) = true
  rw [h.1, h.2]; rfl
end Z
set_option Elab.async false
set_option linter.all false
set_option maxRecDepth 100000
set_option maxHeartbeats 4000000
/-! [e for x in a for y in a if c], a dict of one's own; by data -/
namespace Z
open PySem PySem.Spec PyProof.Rows L2 Evl Y
section
variable {X : Cx} {ρ : List Sl} {elt tst : Expr} {Q : Dt → Prop} {pos px py pv pv1 : Pos} {scope : Scope} {own : List (Str × Nat)} {xn yn x : Str} {i0 : Nat} {kvs : List (Key × Dt)}
/-- the turns of two loops over one dict's keys: what has been gathered -/
def Lc2kQ (X : Cx) (scope : Scope) (own : List (Str × Nat)) (ρ : List Sl) (i j : Nat) (tst elt : Expr) (ds : List Dt) (Q : Dt → Prop) : Prop :=
  ∃ A : Nat → List Dt → Prop, A 0 [] ∧ (∀ n d acc, ds[n]? = some d → A n acc → ∃ A1 : Nat → List Dt → Prop, A1 0 acc ∧
    (∀ m e acc1, ds[m]? = some e → A1 m acc1 → acc1.length < 100000 ∧ DTb X scope ((wipeD ((wipeD ρ (own.map (·.2))).set i (.fr d)) [j]).set j (.fr e)) tst fun z => (z = true → DEb X scope ((wipeD ((wipeD ρ (own.map (·.2))).set i (.fr d)) [j]).set j (.fr e)) elt fun y => A1 (m + 1) (acc1 ++ [y])) ∧ (z = false → A1 (m + 1) acc1)) ∧ ∀ acc1, A1 ds.length acc1 → A (n + 1) acc1) ∧
  ∀ acc, A ds.length acc → Q (.lst acc)
end
end Z
set_option Elab.async false
set_option linter.all false
set_option maxRecDepth 100000
set_option maxHeartbeats 8000000
/-! right sorts: is_integer, is_permutation, do_answer, does_act, is_sort -/
namespace E5
open PySem PySem.Spec PyProof.Rows L2 Y Z
open Evl (Ex st_of sq_of ex_l ex_t fresh_back sz_of sz_lt)
def isIntD : Dt → Bool
  | .int _ => true
  | _ => false
/-- an operation of a sort: its kind, where it leads, what it answers -/
structure Op where
  k : Str
  mv : List Nat
  an : List Int
structure Srt where
  n : Nat
  ops : List Op
def nI (l : List Nat) : List Int := l.map fun x : Nat => (x : Int)
abbrev tkD (l : List Nat) : Dt := .tup ((nI l).map Dt.int)
abbrev anD (l : List Int) : Dt := .tup (l.map Dt.int)
abbrev opD (o : Op) : Dt := .tup [.str o.k, tkD o.mv, anD o.an]
abbrev srtD (s : Srt) : Dt := .tup [.int (s.n : Int), .tup (s.ops.map opD)]
structure OpOk (n : Nat) (o : Op) : Prop where
  word : isWordB (.str o.k) = true
  sm : o.k.length ≤ 10
  pm : o.mv.Perm (List.range n)
  an : o.an.length = n
structure SrtOk (s : Srt) : Prop where
  lo : 1 ≤ s.n
  hi : s.n ≤ 12
  olo : 1 ≤ s.ops.length
  ohi : s.ops.length ≤ 8
  ops : ∀ o ∈ s.ops, OpOk s.n o
  asc : (s.ops.map (·.k)).Pairwise fun a b => Z.ltB a b = true
theorem nI_len {l : List Nat} : (nI l).length = l.length := by unfold nI; rw [List.length_map]
theorem rngD_nI (n : Nat) : rngD 0 n = (nI (List.range n)).map Dt.int := by
  unfold rngD nI
  rw [List.map_map]
  refine List.map_congr_left fun k _ => ?_
  show Dt.int (0 + (k : Int)) = Dt.int (k : Int)
  rw [Int.zero_add]
theorem tk_at {l : List Nat} {p : Nat} (h : p < l.length) : ((nI l).map Dt.int)[p]? = some (.int ((l.getD p 0 : Nat) : Int)) := by
  unfold nI
  rw [List.map_map, List.getElem?_map, List.getElem?_eq_getElem h, List.getD_eq_getElem?_getD, List.getElem?_eq_getElem h]; rfl
theorem an_at {l : List Int} {p : Nat} (h : p < l.length) : (l.map Dt.int)[p]? = some (.int (l.getD p 0)) := by
  rw [List.getElem?_map, List.getElem?_eq_getElem h, List.getD_eq_getElem?_getD, List.getElem?_eq_getElem h]; rfl
theorem mem_tk {l : List Nat} {d : Dt} (h : d ∈ (nI l).map Dt.int) : ∃ x : Nat, x ∈ l ∧ d = .int (x : Int) := by
  unfold nI at h
  rw [List.map_map] at h
  obtain ⟨x, hx, rfl⟩ := List.mem_map.mp h
  exact ⟨x, hx, rfl⟩
theorem sorted_uniq : ∀ {u v : List Int}, u.Perm v → u.Pairwise (· ≤ ·) → v.Pairwise (· ≤ ·) → u = v
  | [], v, p, _, _ => (List.nil_perm.mp p).symm ▸ rfl
  | a :: u, [], p, _, _ => absurd p.length_eq (by simp)
  | a :: u, b :: v, p, h1, h2 => by
    have e : a = b := by
      have h3 := p.mem_iff.mp List.mem_cons_self
      have h4 := p.mem_iff.mpr (List.mem_cons_self : b ∈ b :: v)
      rcases List.mem_cons.mp h3 with h3 | h3
      · exact h3
      · rcases List.mem_cons.mp h4 with h4 | h4
        · exact h4.symm
        · have := (List.pairwise_cons.mp h1).1 b h4
          have := (List.pairwise_cons.mp h2).1 a h3
          omega
    subst e
    rw [sorted_uniq (List.Perm.cons_inv p) (List.pairwise_cons.mp h1).2 (List.pairwise_cons.mp h2).2]
theorem range_sorted (n : Nat) : (nI (List.range n)).Pairwise (· ≤ ·) := by
  unfold nI
  rw [List.pairwise_map]
  refine (List.pairwise_lt_range (n := n)).imp fun h => ?_
  omega
theorem pm_sorted {n : Nat} {m : List Nat} {ns : List Int} (h : m.Perm (List.range n)) (hp : ns.Perm (nI m)) (hs : ns.Pairwise (· ≤ ·)) : ns = nI (List.range n) :=
  sorted_uniq (hp.trans (by unfold nI; exact h.map _)) hs (range_sorted n)
theorem OpOk.len {n : Nat} {o : Op} (h : OpOk n o) : o.mv.length = n := by rw [h.pm.length_eq, List.length_range]
theorem OpOk.lt {n : Nat} {o : Op} (h : OpOk n o) {p : Nat} (hp : p < n) : o.mv.getD p 0 < n := by
  have hl : p < o.mv.length := by rw [h.len]; exact hp
  rw [List.getD_eq_getElem?_getD, List.getElem?_eq_getElem hl]
  exact List.mem_range.mp (h.pm.mem_iff.mp (List.getElem_mem hl))
theorem allT {X : Cx} {ρ : List Sl} {scope : Scope} {own : List (Str × Nat)} {elt : Expr} {f : List Sl → Dt → Option (List Sl)} {ds : List Dt} {Q : Dt → Prop} (hz : ds.length ≤ 100000) (h : ∀ d ∈ ds, ∃ ρ', f (wipeD ρ (own.map (·.2))) d = some ρ' ∧ DEb X scope ρ' elt fun r => r = .bl true) (q : Q (.bl true)) :
    LcQ X scope own ρ f (fun ρ' acc P => DEb X scope ρ' elt fun d => P (acc ++ [d])) ds fun d => blL d fun bs => Q (.bl (bs.all id)) :=
  LcQ.map (fun _ => .bl true) hz h (bl_map (f := fun _ => true) (by rw [List.all_eq_true.mpr fun _ _ => rfl]; exact q))
section
variable {P : Program} {w : World} {K : PySem.W.Frag} {mg : Str → Option Value} {base : Heap}
def dIsInt : List Dt → (Dt → Prop) → Prop := fun ds Q => ∃ d, ds = [d] ∧ plainD d = true ∧ Q (.bl (isIntD d))
theorem ownD_isint (D : Def K mg "is_integer" sp_is_integer) (B : Blt mg) : OwnD P w K mg base "is_integer" ["thing"] 1 dIsInt := by
  refine ownD D cp_is_integer (fun ds Q Q' k ⟨d, e, p, q⟩ => ⟨d, e, p, k _ q⟩) (fun ds Q ⟨d, e, _⟩ => by subst e; rfl) (fun _ _ _ _ _ _ us hl => match us, hl with | [_], _ => rfl) ?_
  rintro X ds Q ⟨f, cdv, A, outer, s, H, E, rfl⟩ hr ⟨d, rfl, hp, q⟩
  refine s_ret (d_and (d_isi (T := "int") (by rfl) B.isi (by rfl) B.int (by decide +kernel) (.of (d_nm 0 rfl ⟨hp, ?_⟩))))
  cases d with
  | int n => exact ⟨true, kb_int_int, two_t (d_not (d_isi (T := "bool") (by rfl) B.isi (by rfl) B.bool (by decide +kernel) (.of (d_nm 0 rfl ⟨hp, false, kb_int_bool, q⟩))))⟩
  | bl b => exact ⟨true, kb_bool_int, two_t (d_not (d_isi (T := "bool") (by rfl) B.isi (by rfl) B.bool (by decide +kernel) (.of (d_nm 0 rfl ⟨hp, true, kb_bool_bool, q⟩))))⟩
  | non => exact ⟨false, kb_NoneType_int, two_f q⟩
  | str _ => exact ⟨false, kb_str_int, two_f q⟩
  | tup _ => exact ⟨false, kb_tuple_int, two_f q⟩
  | lst _ => exact ⟨false, kb_list_int, two_f q⟩
  | dic _ => exact ⟨false, kb_dict_int, two_f q⟩
  | tz _ => exact ⟨false, kb_tuple_int, two_f q⟩
  | _ => cases hp
def dPerm : List Dt → (Dt → Prop) → Prop := fun ds Q => ∃ (m : List Nat) (n : Nat), ds = [tkD m, .int (n : Int)] ∧ m.Perm (List.range n) ∧ n ≤ 1000 ∧ Q (.bl true)
theorem ownD_perm (D : Def K mg "is_permutation" sp_is_permutation) (B : Blt mg) (ms : mg "sorted" = none) (ml : mg "list" = none) (mr : mg "range" = none) (OI : OwnD P w K mg base "is_integer" ["thing"] 1 dIsInt) : OwnD P w K mg base "is_permutation" ["thing", "size"] 2 dPerm := by
  refine ownD D cp_is_permutation (fun ds Q Q' k ⟨m, n, e, a, b, h⟩ => ⟨m, n, e, a, b, k _ h⟩) (fun ds Q ⟨m, n, e, _⟩ => by subst e; rfl) (fun _ _ _ _ _ _ us hl => match us, hl with | [_, _], _ => rfl) ?_
  rintro X ds Q ⟨f, cdv, A, outer, st, H, E, rfl⟩ hr ⟨m, n, rfl, hm, hn, h⟩
  have nd := cp_is_permutation.nd
  have hl : m.length = n := by rw [hm.length_eq, List.length_range]
  refine s_when <| t_or <| t_not <| t_v <| .of <| d_isi (T := "tuple") (by rfl) B.isi (by rfl) B.tuple (by decide +kernel) <| .of <| d_nm 0 rfl ⟨rfl, true, kb_tuple_tuple, two_f <| t_not <| t_v <| .of <| d_all rfl (by rfl) B.all <| .ofN <| n_lc (own := [("part", 2)]) rfl nd (blkOk_by (N := np_is_permutation) (sc := defScope sp_is_permutation) (by decide +kernel)) (gb_nm 2 (fun _ _ _ _ _ => pg_name (i := 2) nd rfl (Or.inl rfl))) (by simp) (i_tup <| d_nm 0 rfl ?_)⟩
  dsimp only [tuQ]
  refine allT (Q := fun d => truQ d _) (by rw [List.length_map, nI_len, hl]; omega) (fun d hd => ?_) (two_f ?_)
  · obtain ⟨x, _, rfl⟩ := mem_tk hd
    exact ⟨_, rfl, fun s1 H' C' cl fp => d_own OI (hr.mono (by decide)) (by rfl) <| l_cons <| d_nm 2 rfl <| l_nil ⟨_, rfl, rfl, rfl⟩⟩
  refine s_ret <| d_eq hr.units <| .ofN <| n_sortIT (by rfl) ms <| d_nm 0 rfl ⟨nI m, rfl, fun ns h1 h2 => .ofN <| n_listR rfl (by rfl) ml (by rfl) mr <| d_nm 1 rfl ⟨n, rfl, by omega, ?_⟩⟩
  rw [rngD_nI]
  refine eqQ_intsL ?_
  rw [pm_sorted hm h1 h2, decide_eq_true rfl]; exact h
def dAnswer : List Dt → (Dt → Prop) → Prop := fun ds Q => ∃ (n : Nat) (an : List Int), ds = [.int (n : Int), anD an] ∧ an.length = n ∧ n ≤ 1000 ∧ Q (.bl true)
theorem ownD_answer (D : Def K mg "do_answer" sp_do_answer) (B : Blt mg) (OI : OwnD P w K mg base "is_integer" ["thing"] 1 dIsInt) : OwnD P w K mg base "do_answer" ["size", "thing"] 2 dAnswer := by
  refine ownD D cp_do_answer (fun ds Q Q' k ⟨n, an, e, a, b, h⟩ => ⟨n, an, e, a, b, k _ h⟩) (fun ds Q ⟨n, an, e, _⟩ => by subst e; rfl) (fun _ _ _ _ _ _ us hl => match us, hl with | [_, _], _ => rfl) ?_
  rintro X ds Q ⟨f, cdv, A, outer, st, H, E, rfl⟩ hr ⟨n, an, rfl, hl, hn, h⟩
  have nd := cp_do_answer.nd
  refine s_ret <| d_andN <| d_kTup B.isi B.tuple (by rfl) (by rfl) <| d_nm 1 rfl ⟨rfl, two_t <| d_and <| d_eq hr.units <| .of <| d_len (by rfl) B.len <| .of <| d_nm 1 rfl <| .of <| d_nm 0 rfl ?_⟩
  show _ ∧ _
  rw [decide_eq_true (show ((an.map Dt.int).length : Int) = (n : Int) by rw [List.length_map, hl])]
  refine two_t <| d_all rfl (by rfl) B.all <| .ofN <| n_lc (own := [("part", 2)]) rfl nd (blkOk_by (N := np_do_answer) (sc := defScope sp_do_answer) (by decide +kernel)) (gb_nm 2 (fun _ _ _ _ _ => pg_name (i := 2) nd rfl (Or.inl rfl))) (by simp) (i_tup <| d_nm 1 rfl ?_)
  dsimp only [tuQ]
  refine allT (by show (an.map Dt.int).length ≤ 100000; rw [List.length_map, hl]; omega) (fun d hd => ?_) h
  obtain ⟨x, _, rfl⟩ := List.mem_map.mp hd
  exact ⟨_, rfl, fun s1 H' C' cl fp => d_own OI (hr.mono (by decide)) (by rfl) <| l_cons <| d_nm 2 rfl <| l_nil ⟨_, rfl, rfl, rfl⟩⟩
end
end E5
set_option Elab.async false
set_option linter.all false
set_option maxRecDepth 100000
set_option maxHeartbeats 8000000
/-! right sorts: does_act, is_sort, acts_of -/
namespace E5
open PySem PySem.Spec PyProof.Rows L2 Y Z
open Evl (Ex st_of sq_of ex_l ex_t fresh_back sz_of sz_lt)
theorem all_bls {ds : List Dt} {Q : Dt → Prop} (q : Q (.bl true)) : blL (.lst (ds.map fun _ => Dt.bl true)) fun bs => Q (.bl (bs.all id)) :=
  ⟨ds.map fun _ => true, by rw [List.map_map]; rfl, by
    have e : (ds.map fun _ => true).all id = true := by rw [List.all_map]; exact List.all_eq_true.mpr fun _ _ => rfl
    show Q (.bl ((ds.map fun _ => true).all id))
    rw [e]; exact q⟩
theorem abc_lo : ∀ c ∈ abcS.cps.toList, c < 128 := by decide +kernel
theorem cl_word {s : Str} (h : isWordB (.str s) = true) : cl 0 100000 (.str s) = true := by
  have h : (decide (1 ≤ s.length ∧ s.length ≤ 10) && s.cps.toList.all fun c => decide (c ∈ abcS.cps.toList)) = true := h
  rw [Bool.and_eq_true, decide_eq_true_eq] at h
  show (decide (s.length ≤ 100000) && s.cps.toList.all fun c => decide (c < 128)) = true
  rw [Bool.and_eq_true, decide_eq_true_eq]
  refine ⟨by omega, List.all_eq_true.mpr fun c hc => decide_eq_true ?_⟩
  exact abc_lo c (of_decide_eq_true (List.all_eq_true.mp h.2 c hc))
theorem atI_0 {d : Dt} {ds : List Dt} : atI (d :: ds) 0 = some d := atI_nat (j := 0) rfl
theorem atI_1 {d e : Dt} {ds : List Dt} : atI (d :: e :: ds) 1 = some e := atI_nat (j := 1) rfl
section
variable {P : Program} {w : World} {K : PySem.W.Frag} {mg : Str → Option Value} {base : Heap}
/-- is_ascending of a list of texts -/
def dAscS : List Dt → (Dt → Prop) → Prop := fun ds Q => ∃ ss : List Str, ds = [.lst (ss.map Dt.str)] ∧ ss.length ≤ 1000 ∧ ss.Pairwise (fun a b => ltB a b = true) ∧ Q (.bl true)
theorem ownS_isasc (D : Def K mg "is_ascending" sp_is_ascending) (B : Blt mg) : OwnD P w K mg base "is_ascending" ["things"] 1 dAscS := by
  refine ownD D cp_is_ascending (fun ds Q Q' k ⟨s, e, p, p2, q⟩ => ⟨s, e, p, p2, k _ q⟩) (fun ds Q ⟨s, e, _⟩ => by subst e; rfl) (fun _ _ _ _ _ _ us hl => match us, hl with | [_], _ => rfl) ?_
  rintro X ds Q ⟨f, cdv, A, outer, s0, H, E, rfl⟩ hr ⟨ss, rfl, hl, ha, q⟩
  have nd := cp_is_ascending.nd
  refine s_ret (d_all rfl (by rfl) B.all (.ofN (n_lc (own := [("one", 1), ("other", 2)]) rfl nd (blkOk_by (N := np_is_ascending) (sc := defScope sp_is_ascending) (by decide +kernel)) (gb_tup2 1 2 (fun _ _ _ _ _ => pg_tup rfl (pgs_cons (pg_name (i := 1) nd rfl (Or.inl rfl)) (pgs_cons (pg_name (i := 2) nd rfl (Or.inl rfl)) pgs_nil)))) (by simp) (i_zipL (by rfl) B.zip <| d_nm 0 rfl <| .ofN <| n_drL <| d_nm 0 rfl ⟨_, rfl, d_int ⟨1, rfl, ?_⟩⟩))))
  dsimp only [lstQ]
  refine LcQ.map (fun _ => .bl true) ?_ (fun d hd => ?_) (all_bls q)
  · unfold zipD; rw [List.length_map, List.length_zip, List.length_map]; omega
  · unfold zipD at hd
    obtain ⟨q', hq, rfl⟩ := List.mem_map.mp hd
    obtain ⟨n, hn⟩ := List.getElem?_of_mem hq
    obtain ⟨h1, h2⟩ := List.getElem?_zip_eq_some.mp hn
    rw [List.getElem?_drop, List.getElem?_map] at h2
    rw [List.getElem?_map] at h1
    obtain ⟨s1, g1, e1⟩ := Option.map_eq_some_iff.mp h1
    obtain ⟨s2, g2, e2⟩ := Option.map_eq_some_iff.mp h2
    obtain ⟨qa, qb⟩ := q'
    have e1 : Dt.str s1 = qa := e1
    have e2 : Dt.str s2 = qb := e2
    subst e1 e2
    refine ⟨_, rfl, fun s' H' C cl fp => d_ltS <| .of <| d_nm 1 rfl <| .of <| d_nm 2 rfl ?_⟩
    show Dt.bl (ltB s1 s2) = .bl true
    have l1 := (List.getElem?_eq_some_iff.mp g1)
    have l2 := (List.getElem?_eq_some_iff.mp g2)
    obtain ⟨a1, b1⟩ := l1
    obtain ⟨a2, b2⟩ := l2
    have := List.pairwise_iff_getElem.mp ha n (1 + n) a1 a2 (by omega)
    rw [b1, b2] at this
    rw [this]
def dAct : List Dt → (Dt → Prop) → Prop := fun ds Q => ∃ (n : Nat) (o : Op), ds = [.int (n : Int), opD o] ∧ OpOk n o ∧ n ≤ 12 ∧ Q (.bl true)
theorem ownD_act (D : Def K mg "does_act" sp_does_act) (B : Blt mg) (OW : OwnD P w K mg base "is_plain_word" ["thing"] 1 dWordA) (OP : OwnD P w K mg base "is_permutation" ["thing", "size"] 2 dPerm) (OA : OwnD P w K mg base "do_answer" ["size", "thing"] 2 dAnswer) : OwnD P w K mg base "does_act" ["size", "thing"] 3 dAct := by
  refine ownD D cp_does_act (fun ds Q Q' k ⟨n, o, e, a, b, h⟩ => ⟨n, o, e, a, b, k _ h⟩) (fun ds Q ⟨n, o, e, _⟩ => by subst e; rfl) (fun _ _ _ _ _ _ us hl => match us, hl with | [_, _], _ => rfl) ?_
  rintro X ds Q ⟨f, cdv, A, outer, st, H, E, rfl⟩ hr ⟨n, o, rfl, ho, hn, h⟩
  have nd := cp_does_act.nd
  refine s_when <| t_or <| t_not <| t_v <| .of <| d_kTup B.isi B.tuple (by rfl) (by rfl) <| d_nm 1 rfl ⟨rfl, two_f <| t_ne hr.units <| .of <| d_len (by rfl) B.len <| .of <| d_nm 1 rfl <| .of <| d_int ?_⟩
  show _ ∧ _
  refine two_f <| s_asg (d_nm 1 rfl ⟨_, rfl, ?_⟩) (g_tup3 2 3 4 rfl nd)
  refine s_ret <| d_andN <| d_own OW (hr.mono (by decide)) (by rfl) <| l_cons <| d_nm 2 rfl <| l_nil ⟨_, 0, rfl, cl_word ho.word, ?_⟩
  rw [ho.word]
  exact two_t <| d_and <| d_own OP (hr.mono (by decide)) (by rfl) <| l_cons <| d_nm 3 rfl <| l_cons <| d_nm 0 rfl <| l_nil ⟨o.mv, n, rfl, ho.pm, by omega, two_t <| d_own OA (hr.mono (by decide)) (by rfl) <| l_cons <| d_nm 0 rfl <| l_cons <| d_nm 4 rfl <| l_nil ⟨n, o.an, rfl, ho.an, by omega, h⟩⟩
def dSort : List Dt → (Dt → Prop) → Prop := fun ds Q => ∃ s : Srt, ds = [srtD s] ∧ SrtOk s ∧ Q (.bl true)
theorem ownD_sort (D : Def K mg "is_sort" sp_is_sort) (B : Blt mg) {m12 m8 : Value} (h12 : mg "MOST_STATES" = some m12) (r12 : RelV (.int 12) m12) (h8 : mg "MOST_OPERATIONS" = some m8) (r8 : RelV (.int 8) m8) (OI : OwnD P w K mg base "is_integer" ["thing"] 1 dIsInt) (OA : OwnD P w K mg base "does_act" ["size", "thing"] 3 dAct) (OS : OwnD P w K mg base "is_ascending" ["things"] 1 dAscS) : OwnD P w K mg base "is_sort" ["thing"] 4 dSort := by
  refine ownD D cp_is_sort (fun ds Q Q' k ⟨s, e, a, h⟩ => ⟨s, e, a, k _ h⟩) (fun ds Q ⟨s, e, _⟩ => by subst e; rfl) (fun _ _ _ _ _ _ us hl => match us, hl with | [_], _ => rfl) ?_
  rintro X ds Q ⟨f, cdv, A, outer, st, H, E, rfl⟩ hr ⟨s, rfl, hs, h⟩
  have nd := cp_is_sort.nd
  have hlo := hs.lo
  have hhi := hs.hi
  have olo := hs.olo
  have ohi := hs.ohi
  refine s_when <| t_or <| t_not <| t_v <| .of <| d_kTup B.isi B.tuple (by rfl) (by rfl) <| d_nm 0 rfl ⟨rfl, two_f <| t_ne hr.units <| .of <| d_len (by rfl) B.len <| .of <| d_nm 0 rfl <| .of <| d_int ?_⟩
  show _ ∧ _
  refine two_f <| s_asg (d_nm 0 rfl ⟨_, rfl, ?_⟩) (g_tup2 1 2 rfl nd)
  refine s_when <| t_or <| t_not <| t_v <| .of <| d_own OI (hr.mono (by decide)) (by rfl) <| l_cons <| d_nm 1 rfl <| l_nil ⟨_, rfl, rfl, two_f <| t_not <| t_chain (f := fun n m => decide (n ≤ m)) (f' := fun n m => decide (n ≤ m)) op_le op_le (fun n m H Q q => ⟨n, m, rfl, rfl, q⟩) (fun n m H Q q => ⟨n, m, rfl, rfl, q⟩) (d_int <| d_nm 1 rfl ⟨1, (s.n : Int), rfl, rfl, fun _ => d_glob ⟨12, rfl, ?_⟩ (by rfl) h12 r12 (fun B => .int 12), fun h1 => ?_⟩) (by rfl)⟩
  case refine_2 =>
    have h1 := of_decide_eq_false h1
    exact absurd (show (1 : Int) ≤ (s.n : Int) by omega) h1
  rw [decide_eq_true (show (s.n : Int) ≤ 12 by omega)]
  refine two_f <| s_when <| t_or <| t_not <| t_v <| .of <| d_kTup B.isi B.tuple (by rfl) (by rfl) <| d_nm 2 rfl ⟨rfl, two_f <| t_not <| t_chain (f := fun n m => decide (n ≤ m)) (f' := fun n m => decide (n ≤ m)) op_le op_le (fun n m H Q q => ⟨n, m, rfl, rfl, q⟩) (fun n m H Q q => ⟨n, m, rfl, rfl, q⟩) (d_int <| d_len (by rfl) B.len <| .of <| d_nm 2 rfl ⟨1, ((s.ops.map opD).length : Int), rfl, rfl, fun _ => d_glob ⟨8, rfl, ?_⟩ (by rfl) h8 r8 (fun B => .int 8), fun h1 => ?_⟩) (by rfl)⟩
  case refine_2 =>
    have h1 := of_decide_eq_false h1
    rw [List.length_map] at h1
    exact absurd (show (1 : Int) ≤ (s.ops.length : Int) by omega) h1
  rw [decide_eq_true (show ((s.ops.map opD).length : Int) ≤ 8 by rw [List.length_map]; omega)]
  refine two_f <| s_ret <| d_and <| d_all rfl (by rfl) B.all <| .ofN <| n_lc (own := [("part", 3)]) rfl nd (blkOk_by (N := np_is_sort) (sc := defScope sp_is_sort) (by decide +kernel)) (gb_nm 3 (fun _ _ _ _ _ => pg_name (i := 3) nd rfl (Or.inl rfl))) (by simp) (i_tup <| d_nm 2 rfl ?_)
  dsimp only [tuQ]
  refine allT (Q := fun d => blQ d _) (by rw [List.length_map]; omega) (fun d hd => ?_) (two_t ?_)
  · obtain ⟨o, ho, rfl⟩ := List.mem_map.mp hd
    exact ⟨_, rfl, fun s1 H' C' cl fp => d_own OA (hr.mono (by decide)) (by rfl) <| l_cons <| d_nm 1 rfl <| l_cons <| d_nm 3 rfl <| l_nil ⟨s.n, o, rfl, hs.ops o ho, hhi, rfl⟩⟩
  refine d_own OS (hr.mono (by decide)) (by rfl) <| l_cons <| .ofN <| n_lc (own := [("part", 3)]) rfl nd (blkOk_by (N := np_is_sort) (sc := defScope sp_is_sort) (by decide +kernel)) (gb_nm 3 (fun _ _ _ _ _ => pg_name (i := 3) nd rfl (Or.inl rfl))) (by simp) (i_tup <| d_nm 2 rfl ?_)
  dsimp only [tuQ]
  refine LcQ.map (fun d => match d with | .tup (x :: _) => x | d => d) (by rw [List.length_map]; omega) (fun d hd => ?_) (l_nil ⟨s.ops.map (·.k), ?_, by rw [List.length_map]; omega, hs.asc, h⟩)
  · obtain ⟨o, ho, rfl⟩ := List.mem_map.mp hd
    exact ⟨_, rfl, fun s1 H' C' cl fp => d_ix <| d_nm 3 rfl <| d_int ⟨_, atI_0, rfl⟩⟩
  · rw [List.map_map, List.map_map]; rfl
end
end E5
set_option Elab.async false
set_option linter.all false
set_option maxRecDepth 100000
set_option maxHeartbeats 4000000
/-! y = [e for x in a for y in a if c], a frozen dict; by data -/
namespace Z
open PySem PySem.Spec PyProof.Rows L2 Evl Y
section
variable {X : Cx} {ρ : List Sl} {elt tst : Expr} {Q : Dt → Prop} {pos spos px py pv pv1 pn : Pos} {scope : Scope} {own : List (Str × Nat)} {xn yn x nm : Str} {i0 : Nat} {kvs : List (Key × Dt)} {H0 B B2 H H2 : Hp} {σ : L2.St} {p : Addr} {od : Obj} {ys : List (Key × V)} {ds : List Dt} {rest : List Stmt} {E : DEnds}
theorem lc2k_run {i j : Nat} {Qv : VK} (E2 : En X.K H0 B2 ρ σ H2) (w : DWalk X.K (Itk p od ys) B2 ds) (hH2p : H2 p = some (.frz od (.dK ys))) (hp : σ[i0]? = some (some (.ref p)))
    (hj : i ∈ own.map (·.2)) (hj1 : j ∈ own.map (·.2)) (hn : i0 ∉ own.map (·.2)) (h : Lc2kQ X scope own ρ i j tst elt ds Q)
    (hq0 : ∀ D, H2 D = none → ∀ B3 H3 acc, Gr B2 H2 B3 H3 → B3 D = none → Od X.K B3 H3 D (.lst acc) → Q (.lst acc) → Qv (.ref D) H3) :
    tLc2 (fun _ H R => R (Itk p od ys) H) (gName i) tYes (iKeys (tVar i0)) (gName j) (blkT X scope tst) (blkE X scope elt) (own.map (·.2)) [j] σ H2 Qv := by
  intro D hD
  have hq := hq0 D hD
  have hBD : B2 D = none := fresh_back E2.ex hD
  obtain ⟨G, Y, wk, hG, hY⟩ := w
  obtain ⟨A, a0, as, ad⟩ := h
  let Pv : Nat → Hp → Prop := fun n H' => ∃ Bn vs acc, Gr B2 H2 Bn H' ∧ Bn D = none ∧ H' D = some (.lst vs) ∧ RpL X.K Bn vs acc ∧ A n acc
  refine ⟨fun n m H' => m = ds.length - n ∧ n ≤ ds.length ∧ Pv n H', ⟨_, rfl, Nat.zero_le _, B2, [], [], ⟨Ex.refl _, Ex.new hD, Ex.mut E2.ex hBD, fun _ _ _ _ q => q⟩, hBD, upd_same, .nil, a0⟩, ?_⟩
  rintro n m H' ⟨rfl, hin, Bn, vs, acc, g1, n1, h1, r1, p1⟩
  have hGn : G H' := hG H' (g1.b.trans g1.s)
  by_cases hlt : n < ds.length
  · refine .inr ⟨wk.goes n H' hlt hGn, Pv (n + 1), fun H'' p' => ⟨ds.length - (n + 1), by omega, rfl, hlt, p'⟩, fun x1 H'' y => ?_⟩
    obtain ⟨Bm, d, gm, hd', rd⟩ := hY n H' x1 H'' Bn hlt g1.b g1.s (wk.yields n H' x1 H'' hlt hGn y)
    have gb := g1.trans gm
    have nm : Bm D = none := gm.o D _ h1 rfl n1
    have hm : H'' D = some (.lst vs) := gm.h _ _ h1
    have hmp : H'' p = some (.frz od (.dK ys)) := gb.h _ _ hH2p
    refine ⟨by rw [wipe_set hj, wipe_idem], iteT (B := Pv (n + 1) H'') ?_⟩
    have hvar : ((L2.wipe σ (own.map (·.2))).set i (some x1))[i0]? = some (some (.ref p)) := by
      have : i ≠ i0 := fun z => hn (z ▸ hj)
      rw [List.getElem?_set_ne this, wipe_at hn]; exact hp
    obtain ⟨A1, b0, bs, bf⟩ := as n d acc hd' p1
    let Pw : Nat → Hp → Prop := fun k Hj => ∃ Bj vsj accj, Gr B2 H2 Bj Hj ∧ Ex Bm Bj ∧ Bj D = none ∧ Hj D = some (.lst vsj) ∧ RpL X.K Bj vsj accj ∧ A1 k accj
    refine ⟨_, hvar, p, od, rfl, .inl ⟨ys, hmp, fun k m Hj => m = ds.length - k ∧ k ≤ ds.length ∧ Pw k Hj, ⟨_, rfl, Nat.zero_le _, Bm, vs, acc, gb, Ex.refl _, nm, hm, r1.ex gm.b, b0⟩, ?_⟩⟩
    rintro k m Hj ⟨rfl, hk, Bj, vsj, accj, gj, e3, nj, hjD, rj, pj⟩
    have hsq : G Hj := hG Hj (gj.b.trans gj.s)
    by_cases hkl : k < ds.length
    · refine .inr ⟨wk.goes k Hj hkl hsq, Pw (k + 1), fun H'' p' => ⟨ds.length - (k + 1), by omega, rfl, hkl, p'⟩, fun x2 H5 y1 => ?_⟩
      obtain ⟨Bk, e, gk, he, re⟩ := hY k Hj x2 H5 Bj hkl gj.b gj.s (wk.yields k Hj x2 H5 hkl hsq y1)
      have gjk := gj.trans gk
      have nk : Bk D = none := gk.o D _ hjD rfl nj
      have hkD : H5 D = some (.lst vsj) := gk.h _ _ hjD
      have rdj : Rp X.K Bk x1 d := (rd.ex e3).ex gk.b
      have E5 : En X.K H0 Bk ((wipeD ((wipeD ρ (own.map (·.2))).set i (.fr d)) [j]).set j (.fr e)) ((L2.wipe ((L2.wipe σ (own.map (·.2))).set i (some x1)) [j]).set j (some x2)) _ := ((((E2.gr gjk).wipe _).set rdj).wipe _).set re
      obtain ⟨hfew, bd1⟩ := bs k e accj he pj
      refine ⟨by rw [wipe_set (List.mem_singleton.mpr rfl), wipe_idem], fun s0 Hh0 C0 cl0 fp0 => (bd1 s0 Hh0 C0 cl0 fp0).go E5 fun B5 z H55 g5 E55 qz => ?_⟩
      have hj5 : H55 D = some (.lst vsj) := g5.h _ _ hkD
      have nj5 : B5 D = none := g5.o D _ hkD rfl nk
      cases z with
      | false =>
        rw [if_neg Bool.false_ne_true]
        exact ⟨B5, vsj, accj, gjk.trans g5, (e3.trans gk.b).trans g5.b, nj5, hj5, (rj.ex gk.b).ex g5.b, qz.2 rfl⟩
      | true =>
        exact iteT (B := Pw (k + 1) H55) fun s1 Hh1 C1 cl1 fp1 => (qz.1 rfl s1 Hh1 C1 cl1 fp1).go E55 fun B6 v6 d6 H6 g6 E6 r6 q6 => by
          have gg := (gjk.trans g5).trans g6
          have n6 : B6 D = none := g6.o D _ hj5 rfl nj5
          have h6 : H6 D = some (.lst vsj) := g6.h _ _ hj5
          exact ⟨vsj, h6, sz_lt (by rw [rj.len]; exact hfew), B6, vsj ++ [v6], accj ++ [d6], ⟨gg.b, Ex.mut gg.h hD, Ex.mut gg.s n6, gg.o⟩, ((e3.trans gk.b).trans g5.b).trans g6.b, n6, upd_same, (((rj.ex gk.b).ex g5.b).ex g6.b).app (.cons r6 .nil), q6⟩
    · have e : k = ds.length := by omega
      subst e
      exact .inl ⟨wk.stops Hj hsq, Bj, vsj, accj, gj, nj, hjD, rj, bf accj pj⟩
  · have e : n = ds.length := by omega
    subst e
    exact .inl ⟨wk.stops H' hGn, hq Bn H' acc g1 n1 ⟨vs, h1, r1⟩ (ad acc p1)⟩

/-- y = [.. for a in d for b in d if ..], d a frozen dict -/
theorem s_setLc2Kf (iy i j : Nat) (hi0 : ρ[i0]? = some (.fr (.dic kvs))) (hc : X.calm = true) (hN : X.N.Nodup) (ok : BlkOk X.N X.env.scope scope own)
    (hg : ∀ (s : Shared) (H : Hp) (C : Addr) (cl : List (Str × Addr)) (fp : List Addr), PG (X.blk s H scope (compEnvC scope cl C X.env) fp) (.Name xn px) (gName i))
    (hg1 : ∀ (s : Shared) (H : Hp) (C : Addr) (cl : List (Str × Addr)) (fp : List Addr), PG (X.blk s H scope (compEnvC scope cl C X.env) fp) (.Name yn py) (gName j))
    (hp1 : ∀ (s : Shared) (H : Hp) (C : Addr) (cl : List (Str × Addr)) (fp : List Addr), PE (X.blk s H scope (compEnvC scope cl C X.env) fp) (.Name x pv1) (tVar i0))
    (hj : i ∈ own.map (·.2)) (hj1 : j ∈ own.map (·.2)) (hn : i0 ∉ own.map (·.2))
    (h : Lc2kQ X scope own ρ i j tst elt (kvs.map fun kv => keyDt kv.1) fun d => DS X (ρ.set iy (.ow d)) rest E)
    (hx : X.N[i0]? = some x := by rfl) (hv : Vis X.env.scope x := by first | exact Or.inl rfl | exact Or.inr (Or.inl rfl) | exact Or.inr (Or.inr rfl)) (hd : (x == ("__debug__" : Str)) = false := by decide) (hcd : (x == ("__classdict__" : Str)) = false := by decide)
    (hy : X.N[iy]? = some nm := by rfl) (hyl : X.env.scope.names.lookup nm = some .local := by rfl) (hsw : swapsWith (.ListComp elt [⟨.Name xn px, .Name x pv, [], 0⟩, ⟨.Name yn py, .Name x pv1, [tst], 0⟩] scope pos) (some (.Name nm pn)) spos.line X.env = pure true := by rfl)
    (fo : ∀ y, foldedSetIterable (.Name x pv) X.env y = pure y := by intro _; rfl) (fo1 : ∀ env y, foldedSetIterable (.Name x pv1) env y = pure y := by intro _ _; rfl) :
    DS X ρ (.Assign [.Name nm pn] (.ListComp elt [⟨.Name xn px, .Name x pv, [], 0⟩, ⟨.Name yn py, .Name x pv1, [tst], 0⟩] scope pos) spos :: rest) E := by
  have lib := ps_setLc2 (elt := elt) (tg := .Name xn px) (tg1 := .Name yn py) (spos := spos) (pos := pos) (py := pn) (vs1 := [j]) (wi1 := iKeys (tVar i0)) hc hN hy hyl hsw (pi_keys (pe_var hx hv hd hcd)) ok (fun k hk => by rw [List.mem_singleton.mp hk]; exact hj1) hg (fun _ _ _ _ _ => pts_nil) (fun s H' C cl fp => pi_keys (hp1 s H' C cl fp)) hg1 (fun s H' C cl fp => pts_one (pt_blk s H' C cl fp)) (fun s H' C cl fp => pe_blk s H' C cl fp) fo fo1
  refine ⟨fun H0 B0 B σ H D g0 En L => ?_⟩
  obtain ⟨v, hsv, rv⟩ := En.fr i0 _ hi0
  cases rv with
  | dic ha hk =>
    rename_i p ys
    rcases ha with ha | ⟨od, ha⟩
    · refine semS_of (pss_cons (ps_lock lib) pss_sem) ⟨p, _, En.ex _ _ ha, trivial, fun od => ⟨.ref p, hsv, p, od, rfl, .inl ⟨ys, upd_same, ?_⟩⟩⟩
      have E' := _root_.Z.En.lockF od En ha
      have hk' : RpK X.K (upd B p (.frz od (.dK ys))) ys kvs := hk.rds (rds_lock ha upd_same fun a n => upd_ne n)
      refine lc2k_run (Qv := fun x H1 => H1 p = some (.frz od (.dK ys)) ∧ semS X rest D (σ.set iy (some x)) (upd H1 p (.dK ys))) E' (walk_dk hk' upd_same) upd_same hsv hj hj1 hn h fun A hA B3 H3 acc g3 n3 o3 q3 => ?_
      have hpl : H3 p = some (.frz od (.dK ys)) := g3.h _ _ upd_same
      have hpB : B3 p = some (.frz od (.dK ys)) := g3.b _ _ upd_same
      have nDp : A ≠ p := fun z => by subst z; rw [upd_same] at hA; cases hA
      have hHA : H A = none := by rw [upd_ne nDp] at hA; exact hA
      have G : Gr B H (upd B3 p (.dK ys)) (upd H3 p (.dK ys)) := gr_unlock En.ex ha g3
      have n4 : upd B3 p (.dK ys) A = none := by rw [upd_ne nDp]; exact n3
      exact ⟨hpl, q3.run H0 B0 _ _ _ D (g0.trans G) ((_root_.Z.En.gr En G).setO n4 (fresh_back g0.h hHA) (o3.rds (rds_unlock hpB upd_same fun a n => upd_ne n) (upd_ne nDp)) (Z.En.noSlot (i := iy) En hHA)) L⟩
    · refine semS_of (pss_cons lib pss_sem) ⟨.ref p, hsv, p, od, rfl, .inl ⟨ys, En.ex _ _ ha, ?_⟩⟩
      refine lc2k_run (Qv := fun x H1 => semS X rest D (σ.set iy (some x)) H1) En (walk_dk hk ha) (En.ex _ _ ha) hsv hj hj1 hn h fun A hA B3 H3 acc g3 n3 o3 q3 => ?_
      exact q3.run H0 B0 B3 _ H3 D (g0.trans g3) ((_root_.Z.En.gr En g3).setO n3 (fresh_back g0.h hA) o3 (Z.En.noSlot (i := iy) En hA)) L
end
end Z
set_option Elab.async false
set_option linter.all false
set_option maxRecDepth 100000
set_option maxHeartbeats 8000000
/-! right sorts: acts_of, do_agree, quarrels -/
namespace E5
open PySem PySem.Spec PyProof.Rows L2 Y Z
open Evl (Ex st_of sq_of ex_l ex_t fresh_back sz_of sz_lt)
theorem tk_ix {l : List Nat} {p : Nat} (h : p < l.length) : atI ((nI l).map Dt.int) (p : Int) = some (.int ((l.getD p 0 : Nat) : Int)) := atI_nat (tk_at h)
theorem an_ix {l : List Int} {p : Nat} (h : p < l.length) : atI (l.map Dt.int) (p : Int) = some (.int (l.getD p 0)) := atI_nat (an_at h)
/-- two operations agree from a state -/
def agreeB (a b : Op) (s : Nat) : Bool := decide (b.mv.getD (a.mv.getD s 0) 0 = a.mv.getD (b.mv.getD s 0) 0) && (decide (a.an.getD s 0 = a.an.getD (b.mv.getD s 0) 0) && decide (b.an.getD s 0 = b.an.getD (a.mv.getD s 0) 0))
/-- the states from which they do not -/
def apartN (n : Nat) (a b : Op) : List Nat := (List.range n).filter fun s => !agreeB a b s
abbrev actD (o : Op) : Dt := .tup [tkD o.mv, anD o.an]
abbrev actsD (s : Srt) : List (Key × Dt) := s.ops.map fun o => ((.inr o.k, actD o) : Key × Dt)
theorem dc_map {X : Cx} {ρ : List Sl} {scope : Scope} {own : List (Str × Nat)} {kx vx : Expr} {Q : Dt → Prop} {f : List Sl → Dt → Option (List Sl)} {ds : List Dt} (F : Dt → Key) (G : Dt → Dt) (hz : ds.length ≤ 100000) (nd : (ds.map F).Nodup)
    (h : ∀ d ∈ ds, ∃ ρ', f (wipeD ρ (own.map (·.2))) d = some ρ' ∧ DEb X scope ρ' kx fun r => keyD r = some (F d) ∧ DEb X scope ρ' vx fun r => r = G d) (q : Q (.dic (ds.map fun d => (F d, G d)))) :
    DcQ X scope own ρ f (fun ρ' acc P => DEb X scope ρ' kx fun z => ∃ k, keyD z = some k ∧ DEb X scope ρ' vx fun d => P (putD acc k d)) ds Q :=
  ⟨hz, fun n acc => acc = (ds.take n).map fun d => (F d, G d), rfl, fun n d acc hd ha => by
    obtain ⟨ρ', h1, h2⟩ := h d (List.mem_of_getElem? hd)
    have ha : acc = (ds.take n).map fun d => (F d, G d) := ha
    have et : ds.take (n + 1) = ds.take n ++ [d] := by rw [List.take_add_one, hd]; rfl
    refine ⟨ρ', h1, fun s H' C cl fp => (h2 s H' C cl fp).weak fun r hr => ⟨F d, hr.1, fun s H' C cl fp => (hr.2 s H' C cl fp).weak fun u hu => ?_⟩⟩
    show putD acc (F d) u = (ds.take (n + 1)).map fun d => (F d, G d)
    rw [hu, et, List.map_append, ha, putD_new]
    · rfl
    · intro kv hk e
      obtain ⟨d', hd', rfl⟩ := List.mem_map.mp hk
      have hF : (ds.map F)[n]? = some (F d) := by rw [List.getElem?_map, hd]; rfl
      refine nodup_take nd hF ?_
      rw [← List.map_take, ← e]
      exact List.mem_map_of_mem hd', fun acc _ ha => by
    have ha : acc = (ds.take ds.length).map fun d => (F d, G d) := ha
    rw [ha, List.take_length]; exact q⟩
theorem two_le {a b : Dt} : [a, b].length ≤ 100000 := by show 2 ≤ 100000; omega
theorem SrtOk.nodup {s : Srt} (h : SrtOk s) : (s.ops.map (·.k)).Nodup := by
  refine h.asc.imp fun {a b} hab e => ?_
  subst e
  exact absurd hab (by unfold Z.ltB; rw [decide_eq_true_eq]; exact List.lt_irrefl _)
def keyOf : Dt → Key
  | .tup (.str k :: _) => .inr k
  | _ => .inl 0
def valOf : Dt → Dt
  | .tup (_ :: r) => .tup r
  | d => d
section
variable {P : Program} {w : World} {K : PySem.W.Frag} {mg : Str → Option Value} {base : Heap}
def dActs : List Dt → (Dt → Prop) → Prop := fun ds Q => ∃ s : Srt, ds = [srtD s] ∧ SrtOk s ∧ Q (.dic (actsD s))
theorem own1_acts (D : Def K mg "acts_of" sp_acts_of) (OS : OwnD P w K mg base "is_sort" ["thing"] 4 dSort) : OwnD1 P w K mg base "acts_of" ["sort"] 5 dActs := by
  refine ownD1 D cp_acts_of (fun ds Q Q' k ⟨s, e, a, h⟩ => ⟨s, e, a, k _ h⟩) (fun ds Q ⟨s, e, _⟩ => by subst e; rfl) (fun _ _ _ _ _ _ us hl => match us, hl with | [_], _ => rfl) ?_
  rintro X ds Q ⟨f, cdv, A, outer, st, H, E, rfl⟩ hr ⟨s, rfl, hs, h⟩
  have nd := cp_acts_of.nd
  have ohi := hs.ohi
  refine s_when <| t_not <| t_v <| .of <| d_own OS (hr.mono (by decide)) (by rfl) <| l_cons <| d_nm 0 rfl <| l_nil ⟨s, rfl, hs, two_f ?_⟩
  refine s_retN <| n_dc (own := [("kind", 1), ("moves", 2), ("answers", 3)]) rfl nd (blkOk_by (N := np_acts_of) (sc := defScope sp_acts_of) (by decide +kernel)) (gb_tup3 1 2 3 (fun _ _ _ _ _ => pg_tup rfl (pgs_cons (pg_name (i := 1) nd rfl (Or.inl rfl)) (pgs_cons (pg_name (i := 2) nd rfl (Or.inl rfl)) (pgs_cons (pg_name (i := 3) nd rfl (Or.inl rfl)) pgs_nil))))) (by simp) (i_tup <| d_ix <| d_nm 0 rfl <| d_int ⟨_, atI_1, ?_⟩)
  dsimp only [tuQ]
  refine dc_map keyOf valOf (by rw [List.length_map]; omega) ?_ (fun d hd => ?_) ?_
  · rw [List.map_map]
    have e : s.ops.map (keyOf ∘ opD) = (s.ops.map (·.k)).map (Sum.inr : Str → Key) := by rw [List.map_map]; rfl
    rw [e]
    exact List.Pairwise.map _ (fun a b hab z => hab (Sum.inr.inj z)) hs.nodup
  · obtain ⟨o, ho, rfl⟩ := List.mem_map.mp hd
    exact ⟨_, rfl, fun s1 H' C' cl fp => d_nm 1 rfl ⟨rfl, fun s1 H' C' cl fp => d_tup <| l_cons <| d_nm 2 rfl <| l_cons <| d_nm 3 rfl <| l_nil ⟨two_le, rfl⟩⟩⟩
  · rw [List.map_map]; exact h
def dAgree : List Dt → (Dt → Prop) → Prop := fun ds Q => ∃ (n : Nat) (a b : Op) (t : Nat), ds = [actD a, actD b, .int (t : Int)] ∧ OpOk n a ∧ OpOk n b ∧ t < n ∧ Q (.bl (agreeB a b t))
theorem ownD_agree (D : Def K mg "do_agree" sp_do_agree) : OwnD P w K mg base "do_agree" ["act", "other", "state"] 1 dAgree := by
  refine ownD D cp_do_agree (fun ds Q Q' k ⟨n, a, b, t, e, h1, h2, h3, h⟩ => ⟨n, a, b, t, e, h1, h2, h3, k _ h⟩) (fun ds Q ⟨n, a, b, t, e, _⟩ => by subst e; rfl) (fun _ _ _ _ _ _ us hl => match us, hl with | [_, _, _], _ => rfl) ?_
  rintro X ds Q ⟨f, cdv, A, outer, st, H, E, rfl⟩ hr ⟨n, a, b, t, rfl, ha, hb, ht, h⟩
  have nd := cp_do_agree.nd
  have la : t < a.mv.length := by rw [ha.len]; exact ht
  have lb : t < b.mv.length := by rw [hb.len]; exact ht
  have lab : b.mv.getD t 0 < a.mv.length := by rw [ha.len]; exact hb.lt ht
  have lba : a.mv.getD t 0 < b.mv.length := by rw [hb.len]; exact ha.lt ht
  have na : t < a.an.length := by rw [ha.an]; exact ht
  have nb : t < b.an.length := by rw [hb.an]; exact ht
  have nab : b.mv.getD t 0 < a.an.length := by rw [ha.an]; exact hb.lt ht
  have nba : a.mv.getD t 0 < b.an.length := by rw [hb.an]; exact ha.lt ht
  refine s_asg (d_tup <| l_cons <| d_nm 0 rfl <| l_cons <| d_nm 1 rfl <| l_nil ⟨two_le, _, rfl, ?_⟩) (g_tup22 3 4 5 6 rfl nd)
  refine s_when <| t_ne hr.units <| .of <| d_ix <| d_nm 5 rfl <| d_ix <| d_nm 3 rfl <| d_nm 2 rfl ⟨_, tk_ix la, ⟨_, tk_ix lba, .of <| d_ix <| d_nm 3 rfl <| d_ix <| d_nm 5 rfl <| d_nm 2 rfl ⟨_, tk_ix lb, ⟨_, tk_ix lab, ?_⟩⟩⟩⟩
  show _ ∧ _
  have eI : decide (((b.mv.getD (a.mv.getD t 0) 0 : Nat) : Int) = ((a.mv.getD (b.mv.getD t 0) 0 : Nat) : Int)) = decide (b.mv.getD (a.mv.getD t 0) 0 = a.mv.getD (b.mv.getD t 0) 0) := by
    rw [decide_eq_decide]; omega
  rw [eI]
  unfold agreeB at h
  cases z : decide (b.mv.getD (a.mv.getD t 0) 0 = a.mv.getD (b.mv.getD t 0) 0) with
  | false =>
    rw [z] at h
    exact two_t <| s_ret <| d_bl h
  | true =>
    rw [z, Bool.true_and] at h
    refine two_f <| s_ret <| d_and <| d_eq hr.units <| .of <| d_ix <| d_nm 4 rfl <| d_nm 2 rfl ⟨_, an_ix na, .of <| d_ix <| d_nm 4 rfl <| d_ix <| d_nm 5 rfl <| d_nm 2 rfl ⟨_, tk_ix lb, ⟨_, an_ix nab, ?_⟩⟩⟩
    show _ ∧ _
    cases z2 : decide (a.an.getD t 0 = a.an.getD (b.mv.getD t 0) 0) with
    | false =>
      rw [z2] at h
      exact ⟨nofun, fun _ => h⟩
    | true =>
      rw [z2, Bool.true_and] at h
      exact two_t <| d_eq hr.units <| .of <| d_ix <| d_nm 6 rfl <| d_nm 2 rfl ⟨_, an_ix nb, .of <| d_ix <| d_nm 6 rfl <| d_ix <| d_nm 3 rfl <| d_nm 2 rfl ⟨_, tk_ix la, ⟨_, an_ix nba, h⟩⟩⟩
def dQuarrels : List Dt → (Dt → Prop) → Prop := fun ds Q => ∃ (n : Nat) (a b : Op), ds = [actD a, actD b] ∧ OpOk n a ∧ OpOk n b ∧ n ≤ 12 ∧ Q (.lst ((nI (apartN n a b)).map Dt.int))
def natOf : Dt → Nat
  | .int x => x.toNat
  | _ => 0
theorem own1_quarrels (D : Def K mg "quarrels" sp_quarrels) (B : Blt mg) (mr : mg "range" = none) (OA : OwnD P w K mg base "do_agree" ["act", "other", "state"] 1 dAgree) : OwnD1 P w K mg base "quarrels" ["act", "other"] 2 dQuarrels := by
  refine ownD1 D cp_quarrels (fun ds Q Q' k ⟨n, a, b, e, h1, h2, h3, h⟩ => ⟨n, a, b, e, h1, h2, h3, k _ h⟩) (fun ds Q ⟨n, a, b, e, _⟩ => by subst e; rfl) (fun _ _ _ _ _ _ us hl => match us, hl with | [_, _], _ => rfl) ?_
  rintro X ds Q ⟨f, cdv, A, outer, st, H, E, rfl⟩ hr ⟨n, a, b, rfl, ha, hb, hn, h⟩
  have nd := cp_quarrels.nd
  refine s_retN <| n_lct (own := [("state", 2)]) rfl nd (blkOk_by (N := np_quarrels) (sc := defScope sp_quarrels) (by decide +kernel)) (gb_nm 2 (fun _ _ _ _ _ => pg_name (i := 2) nd rfl (Or.inl rfl))) (by simp) (i_rng (by rfl) mr <| d_len (by rfl) B.len <| .of <| d_ix <| d_nm 0 rfl <| d_int ⟨_, atI_0, ?_⟩)
  show (_ ∧ _) ∧ _
  have el : (((nI a.mv).map Dt.int).length : Int).toNat = n := by rw [List.length_map, nI_len, ha.len]; rfl
  rw [el]
  refine ⟨by rw [List.length_map, nI_len, ha.len]; omega, LcQ.filt (fun d => !agreeB a b (natOf d)) id (by rw [rngD_len]; omega) (fun d hd => ?_) ?_⟩
  · rw [rngD_nI] at hd
    obtain ⟨t, ht, rfl⟩ := mem_tk hd
    have ht := List.mem_range.mp ht
    exact ⟨_, rfl, fun s1 H' C' cl fp => t_not <| t_v <| .of <| d_own OA (hr.mono (by decide)) (by rfl) <| l_cons <| d_nm 0 rfl <| l_cons <| d_nm 1 rfl <| l_cons <| d_nm 2 rfl <| l_nil ⟨n, a, b, t, rfl, ha, hb, ht, rfl⟩, fun _ s1 H' C' cl fp => d_nm 2 rfl rfl⟩
  · rw [rngD_nI, List.map_id]
    have e : ((nI (List.range n)).map Dt.int).filter (fun d => !agreeB a b (natOf d)) = (nI (apartN n a b)).map Dt.int := by
      unfold nI apartN
      rw [List.map_map, List.map_map, List.filter_map]; rfl
    rw [e]; exact h
end
end E5
set_option Elab.async false
set_option linter.all false
set_option maxRecDepth 100000
set_option maxHeartbeats 8000000
/-! right sorts: table_of -/
namespace E5
open PySem PySem.Spec PyProof.Rows L2 Y Z
open Evl (Ex st_of sq_of ex_l ex_t fresh_back sz_of sz_lt)
def kindsS (s : Srt) : List Str := s.ops.map (·.k)
/-- the operation of a kind -/
def opOf (s : Srt) (k : Str) : Op := (s.ops.find? fun o => decide (o.k = k)).getD ⟨k, [], []⟩
/-- the states from which two kinds do not commute -/
def apartK (s : Srt) (k l : Str) : List Nat := apartN s.n (opOf s k) (opOf s l)
theorem opOf_find {s : Srt} {k : Str} (h : k ∈ kindsS s) : s.ops.find? (fun o => decide (o.k = k)) = some (opOf s k) ∧ opOf s k ∈ s.ops ∧ (opOf s k).k = k := by
  obtain ⟨o, ho, rfl⟩ := List.mem_map.mp h
  have hs : (s.ops.find? fun x => decide (x.k = o.k)).isSome = true := by
    rw [List.find?_isSome]
    exact ⟨o, ho, decide_eq_true rfl⟩
  obtain ⟨x, hx⟩ := Option.isSome_iff_exists.mp hs
  have e : opOf s o.k = x := by unfold opOf; rw [hx]; rfl
  rw [e]
  exact ⟨hx, List.mem_of_find?_eq_some hx, of_decide_eq_true (List.find?_some (p := fun x : Op => decide (x.k = o.k)) hx)⟩
theorem SrtOk.op {s : Srt} (h : SrtOk s) {k : Str} (hk : k ∈ kindsS s) : OpOk s.n (opOf s k) := h.ops _ (opOf_find hk).2.1
theorem acts_val {s : Srt} {k : Str} (h : k ∈ kindsS s) : valD (actsD s) (.inr k) = some (actD (opOf s k)) := by
  unfold valD
  rw [List.find?_map]
  have e : ((fun kv : Key × Dt => decide (kv.1 = .inr k)) ∘ fun o : Op => ((.inr o.k, actD o) : Key × Dt)) = fun o : Op => decide (o.k = k) := by
    funext o
    show decide ((Sum.inr o.k : Key) = .inr k) = decide (o.k = k)
    rw [decide_eq_decide]
    exact ⟨fun z => Sum.inr.inj z, fun z => by rw [z]⟩
  rw [e, (opOf_find h).1]; rfl
theorem acts_keys {s : Srt} : (actsD s).map (fun kv => keyDt kv.1) = (kindsS s).map Dt.str := by
  unfold kindsS
  rw [List.map_map, List.map_map]; rfl
/-- the pairs of the kinds, the lower one first -/
def prsK (ks : List Str) : List (Str × Str) := ks.flatMap fun a => (ks.filter fun b => !Z.ltB b a).map fun b => (a, b)
abbrev pD (p : Str × Str) : Dt := .tup [.str p.1, .str p.2]
def confS (s : Srt) : List (Str × Str) := (prsK (kindsS s)).filter fun p => !(apartK s p.1 p.2).isEmpty
abbrev tabS (s : Srt) : Dt := .tup [.tup ((kindsS s).map Dt.str), .tup ((confS s).map pD)]
theorem prs_mem {ks : List Str} {p : Str × Str} (h : p ∈ prsK ks) : p.1 ∈ ks ∧ p.2 ∈ ks ∧ Z.ltB p.2 p.1 = false := by
  unfold prsK at h
  obtain ⟨a, ha, h⟩ := List.mem_flatMap.mp h
  obtain ⟨b, hb, rfl⟩ := List.mem_map.mp h
  obtain ⟨h1, h2⟩ := List.mem_filter.mp hb
  exact ⟨ha, h1, by simpa using h2⟩
theorem flat_len {ks ls : List Str} : (ks.flatMap fun a => (ls.filter fun b => !Z.ltB b a).map fun b => (a, b)).length ≤ ks.length * ls.length := by
  induction ks with
  | nil => simp
  | cons a r ih =>
    rw [List.flatMap_cons, List.length_append, List.length_map, List.length_cons, Nat.succ_mul]
    have := List.length_filter_le (fun b => !Z.ltB b a) ls
    omega
theorem prs_len {ks : List Str} : (prsK ks).length ≤ ks.length * ks.length := flat_len
def qB (s : Srt) : Dt → Bool
  | .tup [.str k, .str l] => !(apartK s k l).isEmpty
  | _ => false
section
variable {P : Program} {w : World} {K : PySem.W.Frag} {mg : Str → Option Value} {base : Heap}
def dTab : List Dt → (Dt → Prop) → Prop := fun ds Q => ∃ s : Srt, ds = [srtD s] ∧ SrtOk s ∧ Q (tabS s)
theorem ownD_tableof (D : Def K mg "table_of" sp_table_of) (mt : mg "tuple" = none) (ml : mg "list" = none) (OA : OwnD1 P w K mg base "acts_of" ["sort"] 5 dActs) (OQ : OwnD1 P w K mg base "quarrels" ["act", "other"] 2 dQuarrels) : OwnD P w K mg base "table_of" ["sort"] 6 dTab ∧ OwnDK P w K mg base "table_of" ["sort"] ["sort"] [0] 6 dTab := by
  refine ownDB D cp_table_of (fun ds Q Q' k ⟨s, e, a, h⟩ => ⟨s, e, a, k _ h⟩) (fun ds Q ⟨s, e, _⟩ => by subst e; rfl) (fun _ _ _ _ _ _ us hl => match us, hl with | [_], _ => rfl) (fun _ _ _ _ _ _ us hl => match us, hl with | [_], _ => rfl) ?_
  rintro X ds Q ⟨f, cdv, A, outer, st, H, E, rfl⟩ hr ⟨s, rfl, hs, h⟩
  have nd := cp_table_of.nd
  have ohi := hs.ohi
  have hun := Nat.lt_of_le_of_lt (Nat.add_le_add_left (show 1 ≤ 64 by decide) _) hr.units
  have hk8 : (kindsS s).length ≤ 8 := by unfold kindsS; rw [List.length_map]; exact ohi
  refine s_setO 1 (n_own OA (hr.mono (by decide)) (by rfl) <| l_cons <| d_nm 0 rfl <| l_nil ⟨s, rfl, hs, ?_⟩) nd
  refine s_freeze 1 rfl ?_
  have pw : ∀ {n : Nat}, n ≤ 8 → n * (kindsS s).length ≤ 64 := fun {n} hn => by
    have := Nat.mul_le_mul hn hk8; omega
  refine s_setLc2Kf (i0 := 1) (kvs := actsD s) (own := [("one", 3), ("other", 4)]) 2 3 4 rfl rfl nd (blkOk_by (N := np_table_of) (sc := defScope sp_table_of) (by decide +kernel)) (fun _ _ _ _ _ => pg_name (i := 3) nd rfl (Or.inl rfl)) (fun _ _ _ _ _ => pg_name (i := 4) nd rfl (Or.inl rfl)) (fun _ _ _ _ _ => pe_var rfl (by first | exact Or.inl rfl | exact Or.inr (Or.inl rfl) | exact Or.inr (Or.inr rfl))) (by simp) (by simp) (by simp) ?_
  rw [acts_keys]
  refine ⟨fun n acc => acc = (((kindsS s).take n).flatMap fun a => ((kindsS s).filter fun b => !Z.ltB b a).map fun b => (a, b)).map pD, rfl, fun n d acc hd ha => ?_, fun acc ha => ?_⟩
  · rw [List.getElem?_map] at hd
    obtain ⟨a, hka, rfl⟩ := Option.map_eq_some_iff.mp hd
    have et : (kindsS s).take (n + 1) = (kindsS s).take n ++ [a] := by rw [List.take_add_one, hka]; rfl
    have hn : n ≤ 8 := by
      have := (List.getElem?_eq_some_iff.mp hka).1; omega
    have hal : acc.length ≤ 64 := by
      have ha : acc = _ := ha
      rw [ha, List.length_map]
      refine Nat.le_trans flat_len ?_
      rw [List.length_take]
      exact pw (by omega)
    refine ⟨fun m acc1 => acc1 = acc ++ ((((kindsS s).take m).filter fun b => !Z.ltB b a).map fun b => (a, b)).map pD, by simp, fun m e acc1 he h1 => ?_, fun acc1 h1 => ?_⟩
    · rw [List.getElem?_map] at he
      obtain ⟨b, hkb, rfl⟩ := Option.map_eq_some_iff.mp he
      have h1 : acc1 = _ := h1
      have em : (kindsS s).take (m + 1) = (kindsS s).take m ++ [b] := by rw [List.take_add_one, hkb]; rfl
      refine ⟨?_, fun s1 H' C' cl fp => (t_leS <| .of <| d_nm 3 rfl <| .of <| d_nm 4 rfl ⟨fun z s1 H' C' cl fp => d_tup <| l_cons <| d_nm 3 rfl <| l_cons <| d_nm 4 rfl <| l_nil ⟨two_le, ?_⟩, fun z => ?_⟩)⟩
      · rw [h1, List.length_append, List.length_map, List.length_map]
        have := List.length_filter_le (fun b => !Z.ltB b a) ((kindsS s).take m)
        rw [List.length_take] at this
        omega
      · show acc1 ++ _ = acc ++ _
        have z : (!Z.ltB b a) = true := z
        rw [h1, em, List.filter_append, List.filter_cons_of_pos (p := fun b => !Z.ltB b a) z]
        simp
      · show acc1 = acc ++ _
        have z : (!Z.ltB b a) = false := z
        rw [h1, em, List.filter_append, List.filter_cons_of_neg (p := fun b => !Z.ltB b a) (by rw [z]; exact Bool.false_ne_true)]
        simp
    · have h1 : acc1 = _ := h1
      have ha : acc = _ := ha
      show acc1 = _
      rw [h1, List.length_map, List.take_length, ha, et, List.flatMap_append, List.map_append]
      simp
  · have ha : acc = _ := ha
    rw [List.length_map, List.take_length] at ha
    subst ha
    refine s_freeze 2 rfl ?_
    have hpl : (prsK (kindsS s)).length ≤ 64 := Nat.le_trans prs_len (pw hk8)
    refine s_ret <| d_tup <| l_cons <| d_tuple (by rfl) mt <| .ofN <| n_listD rfl (by rfl) ml <| d_nm 1 rfl ⟨_, rfl, ?_⟩
    rw [acts_keys]
    show DL _ _ _ _
    refine l_cons <| d_tuple (by rfl) mt <| .ofN <| n_lct (own := [("one", 3), ("other", 4)]) rfl nd (blkOk_by (N := np_table_of) (sc := defScope sp_table_of) (by decide +kernel)) (gb_tup2 3 4 (fun _ _ _ _ _ => pg_tup rfl (pgs_cons (pg_name (i := 3) nd rfl (Or.inl rfl)) (pgs_cons (pg_name (i := 4) nd rfl (Or.inl rfl)) pgs_nil)))) (by simp) (i_lst <| d_nm 2 rfl ?_)
    dsimp only [lstQ]
    refine LcQ.filt (qB s) id (by rw [List.length_map]; exact Nat.le_trans hpl (by decide)) (fun d hd => ?_) ?_
    · obtain ⟨p, hp, rfl⟩ := List.mem_map.mp hd
      obtain ⟨h1, h2, _⟩ := prs_mem hp
      refine ⟨_, rfl, fun s1 H' C' cl fp => t_v <| .ofN <| n_own OQ (hr.mono (by decide)) (by rfl) <| l_cons <| d_dget hun (d_nm 1 rfl <| d_nm 3 rfl ⟨_, _, rfl, acts_val h1, ?_⟩), fun _ s1 H' C' cl fp => d_tup <| l_cons <| d_nm 3 rfl <| l_cons <| d_nm 4 rfl <| l_nil ⟨two_le, rfl⟩⟩
      refine l_cons <| d_dget hun (d_nm 1 rfl <| d_nm 4 rfl ⟨_, _, rfl, acts_val h2, l_nil ⟨s.n, _, _, rfl, hs.op h1, hs.op h2, hs.hi, ?_⟩⟩)
      show (!((nI (apartN s.n (opOf s p.1) (opOf s p.2))).map Dt.int).isEmpty) = !(apartK s p.1 p.2).isEmpty
      unfold nI apartK
      rw [List.isEmpty_map, List.isEmpty_map]
    · have e : (((prsK (kindsS s)).map pD).filter (qB s)).map id = (confS s).map pD := by
        unfold confS
        rw [List.map_id, List.filter_map]; rfl
      refine (congrArg (fun z => tupQ (Dt.lst z) _) e).mpr ?_
      exact l_nil ⟨two_le, h⟩
end
end E5
set_option Elab.async false
set_option linter.all false
set_option maxRecDepth 100000
set_option maxHeartbeats 4000000
/-! a def that is told of a lambda: try: y = x() / except C as e: return '..' + repr(e.thing) + repr(isinstance(e, S)), by data -/
namespace Z
open PySem PySem.Spec PyProof.Rows L2 Y
open Evl (Ex st_of sq_of ex_l ex_t fresh_back sz_of sz_lt)
open LamX (Tabs TabS ExtN CodeO GivesTo TabB)
end Z
set_option Elab.async false
set_option linter.all false
set_option maxRecDepth 100000
set_option maxHeartbeats 4000000
/-! comparisons of what is told of lambdas; new objects frozen; by data -/
namespace Z
open PySem PySem.Spec PyProof.Rows L2 Y
open Evl (Ex st_of sq_of ex_l ex_t fresh_back sz_of sz_lt)
open LamX (Tabs TabS ExtN CodeO TabB)
/-! ### lists of texts of any length compared -/
end Z
set_option Elab.async false
set_option linter.all false
set_option maxRecDepth 100000
set_option maxHeartbeats 4000000
/-! a or b, not a, where a is told of a lambda -/
namespace Z
open PySem PySem.Spec PyProof.Rows L2 Y
end Z
set_option Elab.async false
set_option linter.all false
set_option maxRecDepth 100000
set_option maxHeartbeats 4000000
/-! laws that make lambdas: a raising def where nothing is raised; for over a list that is known late; the law itself; the end by names -/
namespace Z
open PySem PySem.Spec PyProof.Rows L2 Evl Y
section
variable {X : Cx} {ρ : List Sl} {e : Expr} {Q : Dt → Prop}
theorem takes_no {X : Cx} : Takes X (fun _ _ _ _ => False) := fun _ _ ⟨_, _, _, _, _, _, _, _, _, _, _, _, _, _, _, _, w⟩ => w.elim
/-- what could raise, but does not here -/
theorem DEX.de (h : DEX X ρ e Q fun _ _ => False) : DE X ρ e Q := ⟨fun H0 B σ H E => h.run H0 B σ H (fun _ _ _ _ => False) takes_no (fun _ _ _ _ _ _ _ q => q.elim) E⟩
end
end Z
namespace Y
open PySem PySem.Spec PyProof.Rows L2 Evl
end Y
namespace Y
open PySem PySem.Spec PyProof.Rows L2 Evl
end Y
set_option Elab.async false
set_option linter.all false
set_option maxRecDepth 100000
set_option maxHeartbeats 4000000
/-! zip(tuple, text); by data -/
namespace Y
open PySem PySem.Spec PyProof.Rows L2
/-- the cells of such a zip at its i-th turn -/
structure ZSt (a : Addr) (x : Str) (t : Tok) (z TI TO i1 i2 : Addr) (i : Nat) (h : Heap) : Prop where
  zip : IsZip h z TI TO .none
  src : IsPair h TI (.ref i1) (.ref i2)
  out : ∃ u v, IsPair h TO u v
  tup : h.IsTupleIter i1 a i
  txt : h.IsStrIter i2 (strIterType x) x t i
theorem all5 {p : Addr → Prop} {z TI TO i1 i2 : Addr} (a : p z) (b : p TI) (c : p TO) (d : p i1) (e : p i2) : ∀ q ∈ [z, TI, TO, i1, i2], p q := by
  simp [a, b, c, d, e]
section
variable {a : Addr} {x : Str} {t : Tok} {z TI TO i1 i2 : Addr} {i : Nat} {h h' : Heap}
theorem ZSt.objs (S : ZSt a x t z TI TO i1 i2 i h) : ∀ q ∈ [z, TI, TO, i1, i2], ∃ o, h.get? q = some o ∧ ∀ v, o.data ≠ .cell v := by
  obtain ⟨u, v, ho⟩ := S.out
  obtain ⟨o1, e1, _, d1⟩ := S.tup
  obtain ⟨o2, e2, _, d2⟩ := S.txt
  refine all5 ⟨_, S.zip, ?_⟩ ⟨_, S.src, ?_⟩ ⟨_, ho, ?_⟩ ⟨o1, e1, ?_⟩ ⟨o2, e2, ?_⟩ <;> intro w q
  · cases q
  · cases q
  · cases q
  · rw [d1] at q; cases q
  · rw [d2] at q; cases q
theorem ZSt.lt (S : ZSt a x t z TI TO i1 i2 i h) : ∀ q ∈ [z, TI, TO, i1, i2], q < h.objs.size := fun q m => let ⟨_, e, _⟩ := S.objs q m; Heap.lt_size e
theorem ZSt.keep (S : ZSt a x t z TI TO i1 i2 i h) (k : ∀ q ∈ [z, TI, TO, i1, i2], ∀ o, h.get? q = some o → h'.get? q = some o) : ZSt a x t z TI TO i1 i2 i h' where
  zip := k _ (by simp) _ S.zip
  src := k _ (by simp) _ S.src
  out := let ⟨u, v, e⟩ := S.out; ⟨u, v, k _ (by simp) _ e⟩
  tup := let ⟨o, e, r⟩ := S.tup; ⟨o, k _ (by simp) o e, r⟩
  txt := let ⟨o, e, r⟩ := S.txt; ⟨o, k _ (by simp) o e, r⟩
end
end Y
namespace Z
open PySem PySem.Spec PyProof.Rows L2 Evl Y
end Z
set_option Elab.async false
set_option linter.all false
set_option maxRecDepth 100000
set_option maxHeartbeats 4000000
/-! a tuple of any values in a tuple of rows of ints and texts; by data -/
namespace Z
open PySem PySem.Spec PyProof.Rows L2 Evl Y
end Z
set_option Elab.async false
set_option linter.all false
set_option maxRecDepth 100000
set_option maxHeartbeats 4000000
/-! f(lambda: .., value): what the lambda raises is met in the very state in which the def stands -/
namespace Z
open PySem PySem.Spec PyProof.Rows L2 Y
open Evl (Ex st_of sq_of ex_l ex_t fresh_back sz_of sz_lt)
open LamX (Tabs TabS ExtN CodeO TabB LamS lamCx lamEnv lam_make2 lam_start2 run_ofS)
/-! ### found = False; try: x() / except C as e: found = repr(e.thing) == repr(y); return found -/
/-! ### and, where what is told comes second -/
end Z
set_option Elab.async false
set_option linter.all false
set_option maxRecDepth 100000
set_option maxHeartbeats 4000000
/-! {'k': 1, 'l': 's', ..}: displays of constants; by data -/
namespace Z
open PySem PySem.Spec PyProof.Rows L2 Evl Y
section
variable {X : Cx} {ρ : List Sl} {Q : Dt → Prop} {pos : Pos}
/-- a constant: its expression, its value, its datum -/
structure Cst (X : Cx) (e : Expr) (v : V) (d : Dt) : Prop where
  pe : PE X e (tC v)
  rp : ∀ B, Rp X.K B v d
/-- the pairs of a display -/
inductive Csts (X : Cx) : List (Option Expr) → List Expr → List (Str × V) → List (Key × Dt) → Prop
  | nil : Csts X [] [] [] []
  | cons {t : Str} {j : Nat} {p : Pos} {e : Expr} {v : V} {d : Dt} {ks : List (Option Expr)} {es : List Expr} {l : List (Str × V)} {kd : List (Key × Dt)} (c : Cst X e v d) (r : Csts X ks es l kd) : Csts X (some (.Constant (.str t) j p) :: ks) (e :: es) ((t, v) :: l) ((.inr t, d) :: kd)
theorem Csts.keys {ks : List (Option Expr)} {es : List Expr} {l : List (Str × V)} {kd : List (Key × Dt)} (h : Csts X ks es l kd) : kd.map (·.1) = l.map (fun x => (.inr x.1 : Key)) ∧ ks.length = l.length ∧ es.length = l.length ∧ ks.all (·.isSome) = true := by
  induction h with
  | nil => exact ⟨rfl, rfl, rfl, rfl⟩
  | cons c r ih => exact ⟨by rw [List.map_cons, List.map_cons, ih.1], by simp [ih.2.1], by simp [ih.2.2.1], by simpa using ih.2.2.2⟩
end
end Z
set_option Elab.async false
set_option linter.all false
set_option maxRecDepth 100000
set_option maxHeartbeats 4000000
/-! not x, x a list; by data -/
namespace Z
open PySem PySem.Spec PyProof.Rows L2 Evl Y
theorem d_notL {X : Cx} {ρ : List Sl} {a : Expr} {pos : Pos} {Q : Dt → Prop} (h : DA X ρ a fun d => ∃ ds, d = .lst ds ∧ Q (.bl ds.isEmpty)) : DE X ρ (.UnaryOp .Not a pos) Q :=
  ⟨fun H0 B σ H E => sem_of (pe_notT pe_sem) (h.go E fun B2 v d H2 g E2 r ⟨ds, e, q⟩ => by
    subst e
    cases r with
    | lst a r => exact ⟨_, .inl ⟨_, a, rfl⟩, B2, _, g, .bl _, by rw [emp_eq r.all2, Bool.not_not]; exact q⟩)⟩
end Z
set_option Elab.async false
set_option linter.all false
set_option maxRecDepth 100000
set_option maxHeartbeats 8000000
/-! right sorts: quarrels_of, judge_pair, pair_holds of any value -/
namespace E5
open PySem PySem.Spec PyProof.Rows L2 Y Z
open Evl (Ex st_of sq_of ex_l ex_t fresh_back sz_of sz_lt)
abbrev commS : Str := "commute"
abbrev stateS : Str := "state"
/-- the certificate -/
def judD : List Nat → Dt
  | [] => .tup [.str commS]
  | a :: _ => .tup [.str stateS, .int (a : Int)]
/-- whether a value is a certificate -/
def rightB (ap : List Nat) : Dt → Bool
  | .tup [.str s] => decide (s = commS) && ap.isEmpty
  | .tup [.str s, .int n] => decide (s = stateS) && (nI ap).any fun a => decide (a = n)
  | _ => false
def oneS (c : Str) : List Dt → Bool
  | [d] => isS c d
  | _ => false
theorem oneS_is {c : Str} {xs : List Dt} (h : oneS c xs = true) : xs = [.str c] := by
  cases xs with
  | nil => cases h
  | cons d r =>
    cases r with
    | nil =>
      cases d with
      | str t =>
        have : t = c := of_decide_eq_true h
        rw [this]
      | _ => cases h
    | cons _ _ => cases h
theorem gd_plain {d : Dt} (h : gd d = true) : plainD d = true := by cases d <;> first | rfl | (simp [gd] at h)
theorem gdL_iff {ds : List Dt} : gdL ds = true ↔ ∀ d ∈ ds, gd d = true := by
  induction ds with
  | nil => simp [gdL]
  | cons d r ih => simp [gdL, ih]
theorem noKL_iff {ds : List Dt} : noKL ds = true ↔ ∀ d ∈ ds, noK d = true := by
  induction ds with
  | nil => simp [noKL]
  | cons d r ih => simp [noKL, ih]
theorem eqv_isS {c : Str} {d : Dt} (g : gd d = true) (h : noK d = true) : PyData.eqv (toP d) (toP (.str c)) = isS c d := by
  cases d with
  | str s => show (s == c) = decide (s = c); rfl
  | non => rfl
  | bl _ => rfl
  | int _ => rfl
  | tup _ => simp [toP, PyData.eqv, isS]
  | lst _ => simp [toP, PyData.eqv, isS]
  | dic _ => simp [noK] at h
  | _ => simp [gd] at g
/-- any tuple compared with a tuple of one text -/
theorem eq_one {c : Str} {ds : List Dt} {f : Bool → Bool} {Q : Bool → Prop} (g : gd (.tup ds) = true) (h : noK (.tup ds) = true) (hd : dpt (.tup ds) ≤ 60) (hc : gd (.tup [.str c]) = true) (q : Q (f (oneS c ds))) : eqQ f (.tup ds) (.tup [.str c]) Q := by
  refine ⟨⟨(isP_of g h).1, by simp [isP, isPL], shaped_of g h hd, shaped_of hc rfl (by simp [dpt, dptL])⟩, ?_⟩
  have e : PyData.eqv (toP (.tup ds)) (toP (.tup [.str c])) = oneS c ds := by
    rw [toP_tup, toP_tup]
    match ds, g, h with
    | [], _, _ => simp [toPL, PyData.eqv, PyData.eqvAll, oneS]
    | [d], g, h =>
      have g : gdL [d] = true := g
      have h : noKL [d] = true := h
      have := eqv_isS (c := c) (gdL_iff.mp g d (by simp)) (noKL_iff.mp h d (by simp))
      simp only [toPL_cons, toPL_nil, PyData.eqv, PyData.eqvAll, Bool.and_true, oneS]
      exact this
    | d :: e :: r, _, _ => simp [toPL_cons, toPL_nil, PyData.eqv, PyData.eqvAll, oneS]
  rw [e]; exact q
section
variable {P : Program} {w : World} {K : PySem.W.Frag} {mg : Str → Option Value} {base : Heap}
def dQof : List Dt → (Dt → Prop) → Prop := fun ds Q => ∃ (s : Srt) (k l : Str), ds = [srtD s, .str k, .str l] ∧ SrtOk s ∧ k ∈ kindsS s ∧ l ∈ kindsS s ∧ Q (.lst ((nI (apartK s k l)).map Dt.int))
theorem own1_qof (D : Def K mg "quarrels_of" sp_quarrels_of) (mt : mg "tuple" = none) (ml : mg "list" = none) (OA : OwnD1 P w K mg base "acts_of" ["sort"] 5 dActs) (OQ : OwnD1 P w K mg base "quarrels" ["act", "other"] 2 dQuarrels) : OwnD1 P w K mg base "quarrels_of" ["sort", "one", "other"] 6 dQof := by
  refine ownD1 D cp_quarrels_of (fun ds Q Q' k ⟨s, a, b, e, h1, h2, h3, h⟩ => ⟨s, a, b, e, h1, h2, h3, k _ h⟩) (fun ds Q ⟨s, a, b, e, _⟩ => by subst e; rfl) (fun _ _ _ _ _ _ us hl => match us, hl with | [_, _, _], _ => rfl) ?_
  rintro X ds Q ⟨f, cdv, A, outer, st, H, E, rfl⟩ hr ⟨s, k, l, rfl, hs, hk, hl, h⟩
  have nd := cp_quarrels_of.nd
  have hun := Nat.lt_of_le_of_lt (Nat.add_le_add_left (show 1 ≤ 64 by decide) _) hr.units
  refine s_setO 3 (n_own OA (hr.mono (by decide)) (by rfl) <| l_cons <| d_nm 0 rfl <| l_nil ⟨s, rfl, hs, ?_⟩) nd
  refine s_freeze 3 rfl ?_
  refine s_for PassesOwn.never rfl (g_nm 4 nd) <| i_tup <| d_tup <| l_cons <| d_nm 1 rfl <| l_cons <| d_nm 2 rfl <| l_nil ⟨two_le, ?_⟩
  dsimp only [tuQ]
  refine ⟨fun j ρ => ∃ x4 : Sl, ρ = [.fr (srtD s), .fr (.str k), .fr (.str l), .fr (.dic (actsD s)), x4], ⟨_, rfl⟩, ?_, ?_⟩
  · rintro j d ρ1 hd ⟨x4, rfl⟩
    have hm := List.mem_of_getElem? hd
    obtain ⟨t, rfl, ht⟩ : ∃ t, d = .str t ∧ t ∈ kindsS s := by
      rcases List.mem_cons.mp hm with rfl | hm
      · exact ⟨_, rfl, hk⟩
      · rcases List.mem_cons.mp hm with rfl | hm
        · exact ⟨_, rfl, hl⟩
        · cases hm
    refine ⟨_, rfl, s_when <| t_ninS hr.units <| .of <| d_nm 4 rfl <| .of <| d_tuple (by rfl) mt <| .ofN <| n_listD rfl (by rfl) ml <| d_nm 3 rfl ⟨_, rfl, kindsS s, ?_, rfl, ?_⟩⟩
    · rw [acts_keys]
    · show _ ∧ _
      have e : ((kindsS s).any fun u => isS u (.str t)) = true := List.any_eq_true.mpr ⟨t, ht, by show decide (t = t) = true; exact decide_eq_true rfl⟩
      rw [e]
      exact two_f <| s_nil ⟨_, rfl⟩
  · rintro ρ1 ⟨x4, rfl⟩
    exact s_retN <| n_own OQ (hr.mono (by decide)) (by rfl) <| l_cons <| d_dget hun (d_nm 3 rfl <| d_nm 1 rfl ⟨_, _, rfl, acts_val hk, l_cons <| d_dget hun (d_nm 3 rfl <| d_nm 2 rfl ⟨_, _, rfl, acts_val hl, l_nil ⟨s.n, _, _, rfl, hs.op hk, hs.op hl, hs.hi, h⟩⟩)⟩)
def dJudge : List Dt → (Dt → Prop) → Prop := fun ds Q => ∃ (s : Srt) (k l : Str), ds = [srtD s, .str k, .str l] ∧ SrtOk s ∧ k ∈ kindsS s ∧ l ∈ kindsS s ∧ Q (judD (apartK s k l))
theorem ownD_judge (D : Def K mg "judge_pair" sp_judge_pair) (OQ : OwnD1 P w K mg base "quarrels_of" ["sort", "one", "other"] 6 dQof) : OwnD P w K mg base "judge_pair" ["sort", "one", "other"] 7 dJudge ∧ OwnDK P w K mg base "judge_pair" ["sort", "one", "other"] ["other", "one", "sort"] [2, 1, 0] 7 dJudge := by
  refine ownDB D cp_judge_pair (fun ds Q Q' k ⟨s, a, b, e, h1, h2, h3, h⟩ => ⟨s, a, b, e, h1, h2, h3, k _ h⟩) (fun ds Q ⟨s, a, b, e, _⟩ => by subst e; rfl) (fun _ _ _ _ _ _ us hl => match us, hl with | [_, _, _], _ => rfl) (fun _ _ _ _ _ _ us hl => match us, hl with | [_, _, _], _ => rfl) ?_
  rintro X ds Q ⟨f, cdv, A, outer, st, H, E, rfl⟩ hr ⟨s, k, l, rfl, hs, hk, hl, h⟩
  have nd := cp_judge_pair.nd
  refine s_setO 3 (n_own OQ (hr.mono (by decide)) (by rfl) <| l_cons <| d_nm 0 rfl <| l_cons <| d_nm 1 rfl <| l_cons <| d_nm 2 rfl <| l_nil ⟨s, k, l, rfl, hs, hk, hl, ?_⟩) nd
  refine s_freeze 3 rfl ?_
  generalize apartK s k l = ap at h ⊢
  cases ap with
  | nil => exact s_ret <| d_if <| t_v <| .of <| d_nm 3 rfl (two_f <| d_tup <| l_cons <| d_str <| l_nil ⟨by decide, h⟩)
  | cons a r => exact s_ret <| d_if <| t_v <| .of <| d_nm 3 rfl (two_t <| d_tup <| l_cons <| d_str <| l_cons <| d_ix <| d_nm 3 rfl <| d_int ⟨_, atI_0, l_nil ⟨two_le, h⟩⟩)
def dHolds : List Dt → (Dt → Prop) → Prop := fun ds Q => ∃ (s : Srt) (k l : Str) (d : Dt), ds = [srtD s, .str k, .str l, d] ∧ SrtOk s ∧ k ∈ kindsS s ∧ l ∈ kindsS s ∧ gd d = true ∧ noK d = true ∧ dpt d ≤ 60 ∧ Q (.bl (rightB (apartK s k l) d))
theorem ownD_holds (D : Def K mg "pair_holds" sp_pair_holds) (B : Blt mg) (OI : OwnD P w K mg base "is_integer" ["thing"] 1 dIsInt) (OQ : OwnD1 P w K mg base "quarrels_of" ["sort", "one", "other"] 6 dQof) : OwnD P w K mg base "pair_holds" ["sort", "one", "other", "thing"] 7 dHolds := by
  refine ownD D cp_pair_holds (fun ds Q Q' k ⟨s, a, b, d, e, h1, h2, h3, h4, h5, h6, h⟩ => ⟨s, a, b, d, e, h1, h2, h3, h4, h5, h6, k _ h⟩) (fun ds Q ⟨s, a, b, d, e, _⟩ => by subst e; rfl) (fun _ _ _ _ _ _ us hl => match us, hl with | [_, _, _, _], _ => rfl) ?_
  rintro X ds Q ⟨f, cdv, A, outer, st, H, E, rfl⟩ hr ⟨s, k, l, d, rfl, hs, hk, hl, hg, hn, hd, h⟩
  have nd := cp_pair_holds.nd
  have pl := gd_plain hg
  refine s_setO 4 (n_own OQ (hr.mono (by decide)) (by rfl) <| l_cons <| d_nm 0 rfl <| l_cons <| d_nm 1 rfl <| l_cons <| d_nm 2 rfl <| l_nil ⟨s, k, l, rfl, hs, hk, hl, ?_⟩) nd
  refine s_freeze 4 rfl ?_
  generalize apartK s k l = ap at h ⊢
  by_cases z : ∃ xs, d = .tup xs
  case neg =>
    have ek : kTup d = false := by cases d <;> first | rfl | exact absurd ⟨_, rfl⟩ z | (simp [gd] at hg)
    have eb : rightB ap d = false := by cases d <;> first | rfl | exact absurd ⟨_, rfl⟩ z
    rw [eb] at h
    refine s_when <| t_not <| t_v <| .of <| d_kTup B.isi B.tuple (by rfl) (by rfl) <| d_nm 3 rfl ⟨pl, ?_⟩
    rw [ek]
    exact two_t <| s_ret <| d_bl h
  obtain ⟨xs, rfl⟩ := z
  have hx : ∀ x ∈ xs, gd x = true := gdL_iff.mp (by simpa only [gd] using hg)
  have hnx : ∀ x ∈ xs, noK x = true := noKL_iff.mp (by simpa only [noK] using hn)
  refine s_when <| t_not <| t_v <| .of <| d_kTup B.isi B.tuple (by rfl) (by rfl) <| d_nm 3 rfl ⟨pl, two_f ?_⟩
  refine s_when <| t_eq hr.units <| .of <| d_nm 3 rfl <| .of <| d_tup <| l_cons <| d_str <| l_nil ⟨by decide, eq_one hg hn hd rfl ?_⟩
  show _ ∧ _
  cases z1 : oneS commS xs with
  | true =>
    obtain rfl : xs = [.str commS] := oneS_is z1
    have eb : rightB ap (.tup [.str commS]) = ap.isEmpty := rfl
    rw [eb] at h
    refine two_t <| s_ret <| d_notL <| .of <| d_nm 4 rfl ⟨_, rfl, ?_⟩
    unfold nI
    rw [List.isEmpty_map, List.isEmpty_map]; exact h
  | false =>
    refine two_f <| s_ret <| d_andN <| d_eq hr.units <| .of <| d_len (by rfl) B.len <| .of <| d_nm 3 rfl <| .of <| d_int ?_
    show _ ∧ _
    by_cases hl2 : xs.length = 2
    case neg =>
      rw [decide_eq_false (show ¬ ((xs.length : Int) = 2) by omega)]
      have eb : rightB ap (.tup xs) = false := by
        unfold rightB
        split
        · rename_i t e
          cases e
          have z1 : decide (t = commS) = false := z1
          rw [z1]; rfl
        · rename_i e
          cases e
          exact absurd rfl hl2
        · rfl
      rw [eb] at h
      exact ⟨nofun, fun _ => h⟩
    rw [decide_eq_true (show (xs.length : Int) = 2 by omega)]
    obtain ⟨a, b, rfl⟩ : ∃ a b, xs = [a, b] := by
      match xs, hl2 with
      | [a, b], _ => exact ⟨a, b, rfl⟩
    have pa := gd_plain (hx a (by simp))
    have pb := gd_plain (hx b (by simp))
    refine two_t <| d_andN <| d_eqS hr.units <| .of <| d_ix <| d_nm 3 rfl <| d_int ⟨_, atI_0, .of <| d_str ⟨stateS, rfl, pa, by decide +kernel, ?_⟩⟩
    show _ ∧ _
    cases z2 : isS stateS a with
    | false =>
      have eb : rightB ap (.tup [a, b]) = false := by
        unfold rightB
        split
        · rename_i e; cases e
        · rename_i t n e
          cases e
          have z2 : decide (t = stateS) = false := z2
          rw [z2]; rfl
        · rfl
      rw [eb] at h
      exact ⟨nofun, fun _ => h⟩
    | true =>
      obtain rfl : a = .str stateS := by
        cases a with
        | str t =>
          have : t = stateS := of_decide_eq_true z2
          rw [this]
        | _ => cases z2
      refine two_t <| d_andN <| d_own OI (hr.mono (by decide)) (by rfl) <| l_cons <| d_ix <| d_nm 3 rfl <| d_int ⟨_, atI_1, l_nil ⟨b, rfl, pb, ?_⟩⟩
      show _ ∧ _
      by_cases z3 : ∃ n, b = .int n
      case neg =>
        have ei : isIntD b = false := by cases b <;> first | rfl | exact absurd ⟨_, rfl⟩ z3
        have eb : rightB ap (.tup [.str stateS, b]) = false := by cases b <;> first | rfl | exact absurd ⟨_, rfl⟩ z3
        rw [ei]
        rw [eb] at h
        exact ⟨nofun, fun _ => h⟩
      obtain ⟨n, rfl⟩ := z3
      refine two_t <| d_one <| d_in <| .of <| d_ix <| d_nm 3 rfl <| d_int ⟨_, atI_1, .of <| d_nm 4 rfl ⟨⟨rfl, ?_⟩, ?_⟩⟩
      · exact List.all_eq_true.mpr fun d hd => by obtain ⟨x, _, rfl⟩ := mem_tk hd; rfl
      · have e : inD (.int n) ((nI ap).map Dt.int) = (nI ap).any fun a => decide (a = n) := by
          unfold inD
          rw [List.any_map]; rfl
        show Q (.bl (inD (.int n) ((nI ap).map Dt.int)))
        rw [e]
        have eb : rightB ap (.tup [.str stateS, .int n]) = (nI ap).any fun a => decide (a = n) := by
          show (decide (stateS = stateS) && _) = _
          rw [decide_eq_true rfl]
          exact Bool.true_and _
        rw [eb] at h
        exact h
end
end E5
set_option Elab.async false
set_option linter.all false
set_option maxRecDepth 100000
set_option maxHeartbeats 8000000
/-! tables of right sorts: is_table, check_table, pair_in, does_conflict -/
namespace E5
open PySem PySem.Spec PyProof.Rows L2 Y Z
open Evl (Ex st_of sq_of ex_l ex_t fresh_back sz_of sz_lt)
theorem pairs_can : ∀ ps : List (Str × Str), (∀ p ∈ ps, leafS p.1 = true ∧ leafS p.2 = true) → isPL (ps.map pD) = true ∧ PyData.canLayAll0 (toPL (ps.map pD)) = true ∧ PyData.depthAll (toPL (ps.map pD)) ≤ 1
  | [], _ => ⟨rfl, rfl, Nat.zero_le _⟩
  | p :: r, h => by
    obtain ⟨a, b, c⟩ := pairs_can r fun q hq => h q (List.mem_cons_of_mem _ hq)
    obtain ⟨h1, h2⟩ := h p List.mem_cons_self
    rw [List.map_cons, toPL_cons]
    refine ⟨by simp [isPL, isP, a], ?_, ?_⟩
    · show (((PyData.strOk p.1 && (PyData.strOk p.2 && true))) && _) = true
      rw [strOk_of h1, strOk_of h2, b]; rfl
    · show max (PyData.depth (toP (pD p))) _ ≤ 1
      have e : PyData.depth (toP (pD p)) = 1 := rfl
      omega
theorem eqv_pairs : ∀ u v : List (Str × Str), PyData.eqvAll (toPL (u.map pD)) (toPL (v.map pD)) = decide (u = v)
  | [], [] => rfl
  | [], q :: v => by rw [List.map_cons, toPL_cons]; rfl
  | p :: u, [] => by rw [List.map_cons, toPL_cons]; rfl
  | p :: u, q :: v => by
    rw [List.map_cons, List.map_cons, toPL_cons, toPL_cons]
    show (((p.1 == q.1) && ((p.2 == q.2) && true)) && PyData.eqvAll (toPL (u.map pD)) (toPL (v.map pD))) = _
    rw [eqv_pairs u v, Bool.eq_iff_iff, Bool.and_eq_true, Bool.and_eq_true, Bool.and_eq_true, beq_iff_eq, beq_iff_eq, decide_eq_true_eq, decide_eq_true_eq, List.cons.injEq, Prod.ext_iff]
    simp
theorem leaf_by {s : Str} (h : s.length ≤ 1000) (g : ∀ c ∈ s.cps.toList, c < 128) : leafS s = true := by
  unfold leafS
  rw [Bool.and_eq_true, List.all_eq_true]
  exact ⟨decide_eq_true h, fun c hc => decide_eq_true (by have := g c hc; omega)⟩
theorem u65 {n k : Nat} (h : n + 16 * k + 200 < cLine) : n + 65 < cLine := by omega
theorem any_pairs (p : Str × Str) : ∀ ps : List (Str × Str), ((toPL (ps.map pD)).any fun z => PyData.eqv z (toP (pD p))) = decide (p ∈ ps)
  | [] => rfl
  | q :: r => by
    rw [List.map_cons, toPL_cons, List.any_cons, any_pairs p r]
    have e : PyData.eqv (toP (pD q)) (toP (pD p)) = decide (q = p) := by
      have := eqv_pairs [q] [p]
      have e2 : PyData.eqvAll (toPL ([q].map pD)) (toPL ([p].map pD)) = (PyData.eqv (toP (pD q)) (toP (pD p)) && true) := rfl
      rw [e2, Bool.and_true] at this
      rw [this]
      simp
    rw [e]
    by_cases z : q = p
    · subst z; simp
    · have z' : ¬ p = q := fun y => z y.symm
      simp [z, z']
theorem in_pairs {f : Bool → Bool} {p : Str × Str} {ps : List (Str × Str)} {Q : Bool → Prop} (hp : leafS p.1 = true ∧ leafS p.2 = true) (h : ∀ p ∈ ps, leafS p.1 = true ∧ leafS p.2 = true) (q : Q (f (decide (p ∈ ps)))) : inTQ f (pD p) (.tup (ps.map pD)) Q := by
  obtain ⟨a, b, c⟩ := pairs_can ps h
  refine ⟨ps.map pD, rfl, ⟨by simp [isP, isPL], a, shaped_strsT (ss := [p.1, p.2]) (fun s hs => ?_), ?_⟩, by rw [any_pairs]; exact q⟩
  · simp only [List.mem_cons, List.not_mem_nil, or_false] at hs
    rcases hs with rfl | rfl
    · exact hp.1
    · exact hp.2
  · show (PyData.canLayAll0 (toPL (ps.map pD)) && decide (PyData.depthAll (toPL (ps.map pD)) + 1 ≤ 64)) = true
    rw [b, Bool.true_and]
    exact decide_eq_true (by omega)
/-- two kinds in their order -/
def pairOf (s t : Str) : Str × Str := if Z.ltB t s then (t, s) else (s, t)
theorem pairOf_mem {ks : List Str} {s t : Str} (hs : s ∈ ks) (ht : t ∈ ks) : (pairOf s t).1 ∈ ks ∧ (pairOf s t).2 ∈ ks := by
  unfold pairOf
  split
  · exact ⟨ht, hs⟩
  · exact ⟨hs, ht⟩
theorem strsOf_tup (ks : List Str) : strsOf (.tup (ks.map Dt.str)) = ks := by
  show (ks.map Dt.str).map strOf = ks
  rw [List.map_map]
  exact List.map_id _
theorem leaf_word {s : Str} (h : isWordB (.str s) = true) : leafS s = true := by
  have h : (decide (1 ≤ s.length ∧ s.length ≤ 10) && s.cps.toList.all fun c => decide (c ∈ abcS.cps.toList)) = true := h
  rw [Bool.and_eq_true, decide_eq_true_eq] at h
  exact leaf_by (by omega) fun c hc => abc_lo c (of_decide_eq_true (List.all_eq_true.mp h.2 c hc))
theorem SrtOk.word {s : Srt} (h : SrtOk s) {k : Str} (hk : k ∈ kindsS s) : isWordB (.str k) = true := by
  obtain ⟨o, ho, rfl⟩ := List.mem_map.mp hk
  exact (h.ops o ho).word
theorem agree_symm {a b : Op} {t : Nat} : agreeB a b t = agreeB b a t := by
  unfold agreeB
  rw [show decide (b.mv.getD (a.mv.getD t 0) 0 = a.mv.getD (b.mv.getD t 0) 0) = decide (a.mv.getD (b.mv.getD t 0) 0 = b.mv.getD (a.mv.getD t 0) 0) from decide_eq_decide.mpr eq_comm]
  rw [Bool.and_comm (decide (a.an.getD t 0 = _))]
theorem apart_symm {s : Srt} {k l : Str} : apartK s k l = apartK s l k := by
  unfold apartK apartN
  refine congrArg (fun f => List.filter f (List.range s.n)) (funext fun t => ?_)
  rw [agree_symm]
/-! ### ascending -/
theorem asc_of {α : Type} (g : α → Dt) : ∀ {xs : List α}, xs.Pairwise (fun a b => ltD2 (g a) (g b) = true) → ascB (xs.map g) = true
  | [], _ => rfl
  | [_], _ => rfl
  | a :: b :: r, h => by
    obtain ⟨h1, h2⟩ := List.pairwise_cons.mp h
    have ih := asc_of g h2
    show (ltD2 (g a) (g b) && ascB ((b :: r).map g)) = true
    rw [ih, h1 b (by simp)]; rfl
def ltPB (p q : Str × Str) : Prop := Z.ltB p.1 q.1 = true ∨ p.1 = q.1 ∧ Z.ltB p.2 q.2 = true
theorem ltB_lt {s t : Str} : Z.ltB s t = true ↔ s.cps.toList < t.cps.toList := by unfold Z.ltB; exact decide_eq_true_iff
theorem ltD2_pD {p q : Str × Str} (h : ltPB p q) : ltD2 (pD p) (pD q) = true := by
  have e : PySem.W.dataLt (toP (pD p)) (toP (pD q)) = PyProof.Rows.lexLt itemOrd [.inl 1, .inr p.1.cps.toList, .inl 1, .inr p.2.cps.toList, .inl 0] [.inl 1, .inr q.1.cps.toList, .inl 1, .inr q.2.cps.toList, .inl 0] := by
    simp [toP, toPL, PySem.W.dataLt, PySem.W.keyToks, PySem.W.keyToksAll]
  have ne : ∀ {s t : Str}, Z.ltB s t = true → (Sum.inr s.cps.toList : Int ⊕ List Nat) ≠ .inr t.cps.toList := fun {s t} h e => by
    have e := Sum.inr.inj e
    have h := ltB_lt.mp h
    rw [e] at h
    exact List.lt_irrefl _ h
  show PySem.W.dataLt (toP (pD p)) (toP (pD q)) = true
  rw [e, PyProof.Rows.lex_self (O := itemOrd)]
  rcases h with h | ⟨h1, h2⟩
  · rw [PyProof.Rows.lex_diff (O := itemOrd) (ne h)]
    exact decide_eq_true (ltB_lt.mp h)
  · rw [h1, PyProof.Rows.lex_self (O := itemOrd), PyProof.Rows.lex_self (O := itemOrd), PyProof.Rows.lex_diff (O := itemOrd) (ne h2)]
    exact decide_eq_true (ltB_lt.mp h2)
theorem prs_asc {ks : List Str} (h : ks.Pairwise fun a b => Z.ltB a b = true) : (prsK ks).Pairwise ltPB := by
  unfold prsK
  refine List.pairwise_flatMap.mpr ⟨fun a _ => ?_, h.imp fun {a b} hab x hx y hy => ?_⟩
  · exact List.Pairwise.map _ (fun x y hxy => .inr ⟨rfl, hxy⟩) (h.filter _)
  · obtain ⟨_, _, rfl⟩ := List.mem_map.mp hx
    obtain ⟨_, _, rfl⟩ := List.mem_map.mp hy
    exact .inl hab
theorem SrtOk.table {s : Srt} (h : SrtOk s) : isTableB (tabS s) = true := by
  show (areKindsB (.tup ((kindsS s).map Dt.str)) && areConfB (strsOf (.tup ((kindsS s).map Dt.str))) (.tup ((confS s).map pD))) = true
  rw [strsOf_tup]
  show ((((kindsS s).map Dt.str).all isWordB && ascB ((kindsS s).map Dt.str)) && (((confS s).map pD).all (isPairB (kindsS s)) && ascB ((confS s).map pD))) = true
  have a1 : ((kindsS s).map Dt.str).all isWordB = true := List.all_eq_true.mpr fun d hd => by
    obtain ⟨k, hk, rfl⟩ := List.mem_map.mp hd
    exact h.word hk
  have a2 : ((confS s).map pD).all (isPairB (kindsS s)) = true := List.all_eq_true.mpr fun d hd => by
    obtain ⟨p, hp, rfl⟩ := List.mem_map.mp hd
    obtain ⟨q1, q2, q3⟩ := prs_mem (List.mem_filter.mp hp).1
    show (decide (p.1 ∈ kindsS s) && decide (p.2 ∈ kindsS s) && !Z.ltB p.2 p.1) = true
    rw [decide_eq_true q1, decide_eq_true q2, q3]; rfl
  have b1 : ascB ((kindsS s).map Dt.str) = true := asc_of Dt.str (h.asc.imp fun {a b} hab => by rw [ltD2_str]; exact hab)
  have b2 : ascB ((confS s).map pD) = true := asc_of pD (((prs_asc h.asc).filter _).imp fun {a b} hab => ltD2_pD hab)
  rw [a1, a2, b1, b2]; rfl
theorem SrtOk.cl {s : Srt} (h : SrtOk s) : Z.cl 0 100000 (tabS s) = true := by
  have cl1 : ∀ {k : Str}, k ∈ kindsS s → Z.cl 0 100000 (.str k) = true := fun hk => cl_word (h.word hk)
  have e : Z.cl 0 100000 (tabS s) = (clL 0 100000 ((kindsS s).map Dt.str) && (clL 0 100000 ((confS s).map pD) && true)) := by simp only [Z.cl, clL]
  rw [e, Bool.and_eq_true, Bool.and_true]
  refine ⟨clL_iff.mpr fun d hd => ?_, clL_iff.mpr fun d hd => ?_⟩
  · obtain ⟨k, hk, rfl⟩ := List.mem_map.mp hd
    exact cl1 hk
  · obtain ⟨p, hp, rfl⟩ := List.mem_map.mp hd
    obtain ⟨q1, q2, _⟩ := prs_mem (List.mem_filter.mp hp).1
    have c1 := cl1 q1
    have c2 := cl1 q2
    show (Z.cl 0 100000 (.str p.1) && (Z.cl 0 100000 (.str p.2) && true)) = true
    rw [c1, c2]; rfl
theorem SrtOk.few {s : Srt} (h : SrtOk s) : (kindsS s).length ≤ 8 ∧ (confS s).length ≤ 64 := by
  have h8 : (kindsS s).length ≤ 8 := by unfold kindsS; rw [List.length_map]; exact h.ohi
  refine ⟨h8, Nat.le_trans (List.length_filter_le _ _) (Nat.le_trans prs_len ?_)⟩
  have := Nat.mul_le_mul h8 h8
  omega
theorem SrtOk.leaf {s : Srt} (h : SrtOk s) : (∀ k ∈ kindsS s, leafS k = true) ∧ ∀ p ∈ confS s, leafS p.1 = true ∧ leafS p.2 = true :=
  ⟨fun k hk => leaf_word (h.word hk), fun p hp => by
    obtain ⟨q1, q2, _⟩ := prs_mem (List.mem_filter.mp hp).1
    exact ⟨leaf_word (h.word q1), leaf_word (h.word q2)⟩⟩
theorem conf_mem {s : Srt} {k l : Str} (hk : k ∈ kindsS s) (hl : l ∈ kindsS s) (h : Z.ltB l k = false) : decide ((k, l) ∈ confS s) = !(apartK s k l).isEmpty := by
  rw [Bool.eq_iff_iff, decide_eq_true_eq]
  unfold confS
  rw [List.mem_filter]
  refine ⟨fun z => z.2, fun z => ⟨?_, z⟩⟩
  unfold prsK
  exact List.mem_flatMap.mpr ⟨k, hk, List.mem_map.mpr ⟨l, List.mem_filter.mpr ⟨hl, by rw [h]; rfl⟩, rfl⟩⟩
theorem ltB_asymm {k l : Str} (h : Z.ltB l k = true) : Z.ltB k l = false := by
  cases z : Z.ltB k l with
  | false => rfl
  | true => exact absurd (List.lt_trans (ltB_lt.mp h) (ltB_lt.mp z)) (List.lt_irrefl _)
theorem pairOf_conf {s : Srt} {k l : Str} (hk : k ∈ kindsS s) (hl : l ∈ kindsS s) : decide (pairOf k l ∈ confS s) = !(apartK s k l).isEmpty := by
  unfold pairOf
  cases z : Z.ltB l k with
  | true =>
    rw [if_pos rfl, conf_mem hl hk (ltB_asymm z), apart_symm]
  | false =>
    rw [if_neg Bool.false_ne_true]
    exact conf_mem hk hl z
section
variable {P : Program} {w : World} {K : PySem.W.Frag} {mg : Str → Option Value} {base : Heap}
def dCheck : List Dt → (Dt → Prop) → Prop := fun ds Q => ∃ s : Srt, ds = [tabS s] ∧ SrtOk s ∧ Q .non
theorem tab_few {s : Srt} (hs : SrtOk s) : ∀ xs, tabS s = .tup xs → ∀ x ∈ xs, few x := by
  have hf := hs.few
  intro xs e x hx
  cases e
  rcases List.mem_cons.mp hx with rfl | hx
  · intro ys ey
    cases ey
    rw [List.length_map]; omega
  · rcases List.mem_cons.mp hx with rfl | hx
    · intro ys ey
      cases ey
      rw [List.length_map]; omega
    · cases hx
theorem ownD_check (D : Def K mg "check_table" sp_check_table) (OT : OwnD P w K mg base "is_table" ["thing"] 3 dTableA) : OwnD P w K mg base "check_table" ["table"] 4 dCheck := by
  refine ownD D cp_check_table (fun ds Q Q' k ⟨s, e, a, h⟩ => ⟨s, e, a, k _ h⟩) (fun ds Q ⟨s, e, _⟩ => by subst e; rfl) (fun _ _ _ _ _ _ us hl => match us, hl with | [_], _ => rfl) ?_
  rintro X ds Q ⟨f, cdv, A, outer, st, H, E, rfl⟩ hr ⟨s, rfl, hs, h⟩
  refine s_when <| t_not <| t_v <| .of <| d_own OT (hr.mono (by decide)) (by rfl) <| l_cons <| d_nm 0 rfl <| l_nil ⟨_, 0, rfl, hs.cl, tab_few hs, ?_⟩
  rw [hs.table]
  exact two_f <| s_nil h
def dPairIn : List Dt → (Dt → Prop) → Prop := fun ds Q => ∃ (s : Srt) (k l : Str), ds = [tabS s, .str k, .str l] ∧ SrtOk s ∧ k ∈ kindsS s ∧ l ∈ kindsS s ∧ Q (pD (pairOf k l))
theorem ownD_pairin (D : Def K mg "pair_in" sp_pair_in) (OC : OwnD P w K mg base "check_table" ["table"] 4 dCheck) : OwnD P w K mg base "pair_in" ["table", "one", "other"] 5 dPairIn := by
  refine ownD D cp_pair_in (fun ds Q Q' k ⟨s, a, b, e, h1, h2, h3, h⟩ => ⟨s, a, b, e, h1, h2, h3, k _ h⟩) (fun ds Q ⟨s, a, b, e, _⟩ => by subst e; rfl) (fun _ _ _ _ _ _ us hl => match us, hl with | [_, _, _], _ => rfl) ?_
  rintro X ds Q ⟨f, cdv, A, outer, st, H, E, rfl⟩ hr ⟨s, k, l, rfl, hs, hk, hl, h⟩
  have nd := cp_pair_in.nd
  refine s_expr <| .of <| d_own OC (hr.mono (by decide)) (by rfl) <| l_cons <| d_nm 0 rfl <| l_nil ⟨s, rfl, hs, ?_⟩
  refine s_for PassesOwn.never rfl (g_nm 3 nd) <| i_tup <| d_tup <| l_cons <| d_nm 1 rfl <| l_cons <| d_nm 2 rfl <| l_nil ⟨two_le, ?_⟩
  dsimp only [tuQ]
  refine ⟨fun j ρ => ∃ x3 : Sl, ρ = [.fr (tabS s), .fr (.str k), .fr (.str l), x3], ⟨_, rfl⟩, ?_, ?_⟩
  · rintro j d ρ1 hd ⟨x3, rfl⟩
    have hm := List.mem_of_getElem? hd
    obtain ⟨t, rfl, ht⟩ : ∃ t, d = .str t ∧ t ∈ kindsS s := by
      rcases List.mem_cons.mp hm with rfl | hm
      · exact ⟨_, rfl, hk⟩
      · rcases List.mem_cons.mp hm with rfl | hm
        · exact ⟨_, rfl, hl⟩
        · cases hm
    refine ⟨_, rfl, s_when <| t_ninS hr.units <| .of <| d_nm 3 rfl <| .of <| d_ix <| d_nm 0 rfl <| d_int ⟨_, atI_0, kindsS s, rfl, rfl, ?_⟩⟩
    show _ ∧ _
    have e : ((kindsS s).any fun u => isS u (.str t)) = true := List.any_eq_true.mpr ⟨t, ht, by show decide (t = t) = true; exact decide_eq_true rfl⟩
    rw [e]
    exact two_f <| s_nil ⟨_, rfl⟩
  · rintro ρ1 ⟨x3, rfl⟩
    refine s_ret <| d_if <| t_leS <| .of <| d_nm 1 rfl <| .of <| d_nm 2 rfl ?_
    unfold pairOf at h
    show ((!Z.ltB l k) = true → _) ∧ ((!Z.ltB l k) = false → _)
    cases z : Z.ltB l k with
    | true =>
      rw [z] at h
      exact ⟨nofun, fun _ => d_tup <| l_cons <| d_nm 2 rfl <| l_cons <| d_nm 1 rfl <| l_nil ⟨two_le, h⟩⟩
    | false =>
      rw [z] at h
      exact ⟨fun _ => d_tup <| l_cons <| d_nm 1 rfl <| l_cons <| d_nm 2 rfl <| l_nil ⟨two_le, h⟩, nofun⟩
def dConfl : List Dt → (Dt → Prop) → Prop := fun ds Q => ∃ (s : Srt) (k l : Str), ds = [tabS s, .str k, .str l] ∧ SrtOk s ∧ k ∈ kindsS s ∧ l ∈ kindsS s ∧ Q (.bl (!(apartK s k l).isEmpty))
theorem ownD_confl (D : Def K mg "does_conflict" sp_does_conflict) (OP : OwnD P w K mg base "pair_in" ["table", "one", "other"] 5 dPairIn) : OwnD P w K mg base "does_conflict" ["table", "one", "other"] 6 dConfl := by
  refine ownD D cp_does_conflict (fun ds Q Q' k ⟨s, a, b, e, h1, h2, h3, h⟩ => ⟨s, a, b, e, h1, h2, h3, k _ h⟩) (fun ds Q ⟨s, a, b, e, _⟩ => by subst e; rfl) (fun _ _ _ _ _ _ us hl => match us, hl with | [_, _, _], _ => rfl) ?_
  rintro X ds Q ⟨f, cdv, A, outer, st, H, E, rfl⟩ hr ⟨s, k, l, rfl, hs, hk, hl, h⟩
  obtain ⟨m1, m2⟩ := pairOf_mem hk hl
  refine s_ret <| d_inT (u65 (k := 5) hr.un) <| .of <| d_own OP (hr.mono (by decide)) (by rfl) <| l_cons <| d_nm 0 rfl <| l_cons <| d_nm 1 rfl <| l_cons <| d_nm 2 rfl <| l_nil ⟨s, k, l, rfl, hs, hk, hl, .of <| d_ix <| d_nm 0 rfl <| d_int ⟨_, atI_1, in_pairs ⟨leaf_word (hs.word m1), leaf_word (hs.word m2)⟩ hs.leaf.2 ?_⟩⟩
  rw [pairOf_conf hk hl]; exact h
end
end E5
set_option Elab.async false
set_option linter.all false
set_option maxRecDepth 100000
set_option maxHeartbeats 4000000
/-! except (A, B, ..) as e: a row of classes of any length -/
namespace PySem.W
open PySem PySem.Spec PySem.Calls PyProof.Rows
end PySem.W
set_option Elab.async false
set_option linter.all false
set_option maxRecDepth 100000
set_option maxHeartbeats 4000000
/-! try with one clause that names a row of classes -/
namespace Y
open PySem PySem.Spec PyProof.Rows L2
end Y
set_option Elab.async false
set_option linter.all false
set_option maxRecDepth 100000
set_option maxHeartbeats 4000000
/-! isinstance(e, S) of a caught error with a dict of its own, whatever the answer is -/
namespace PySem.W
open PySem PySem.Spec PySem.Calls PyProof.Rows
/-- what the class of the error says of itself -/
structure ErrIs (K : Frag) (C : Addr) : Prop where
  g : findIn K (.ref C) "__getattribute__" = some (some (.builtin "BaseException.__getattribute__"))
  k : findIn K (.ref C) "__getattr__" = some none
  b : subIn K (.ref C) (.type "BaseException") = some true
  d : hasDictIn K C = true
  c : findIn K (.ref C) "__class__" = some (some (.builtin "object.__class__"))
  n : specialIn K (.builtin "object.__class__") "__get__" = some (some (.builtin "getset_descriptor.__get__"))
  t : takesIn K (.builtin "object.__class__") = some true
  m : mroIn K C (.type "object") = some true
theorem ErrIs.here {K : Frag} {C : Addr} (e : ErrIs K C) (od : Option Obj) : findObj K C od "__class__" = some (.bind (.builtin "getset_descriptor.__get__") (.builtin "object.__class__")) := by
  obtain ⟨cd, hc, _⟩ := any_some e.d
  unfold findObj
  rw [hc, Option.bind_some, e.c, Option.bind_some]
  simp [e.n, e.t]
end PySem.W
namespace Y
open PySem PySem.Spec PyProof.Rows L2
end Y
set_option Elab.async false
set_option linter.all false
set_option maxRecDepth 100000
set_option maxHeartbeats 4000000
/-! by data, where something more is known of the state (a caught error in its slot) -/
namespace Z
open PySem PySem.Spec PyProof.Rows L2 Y
open Evl (Ex st_of sq_of ex_l ex_t fresh_back sz_of sz_lt)
/-- what is known of the state, and stays so -/
structure Fk where
  p : L2.St → Hp → Hp → Prop
  st : ∀ {σ : L2.St} {B H B2 H2 : Hp}, Gr B H B2 H2 → p σ B H → p σ B2 H2
/-! ### a caught error in slot i -/
end Z
set_option Elab.async false
set_option linter.all false
set_option maxRecDepth 100000
set_option maxHeartbeats 4000000
/-! told = None; try: x() / except (A, B, ..) as e: ..; return told -/
namespace Z
open PySem PySem.Spec PyProof.Rows L2 Y
open Evl (Ex st_of sq_of ex_l ex_t fresh_back sz_of sz_lt)
open LamX (CodeO)
end Z
set_option Elab.async false
set_option linter.all false
set_option maxRecDepth 100000
set_option maxHeartbeats 4000000
/-! an own def called with arguments that may raise -/
namespace Z
open PySem PySem.Spec PyProof.Rows L2 Y
open Evl (Ex st_of sq_of ex_l ex_t fresh_back sz_of sz_lt)
end Z
set_option Elab.async false
set_option linter.all false
set_option maxRecDepth 100000
set_option maxHeartbeats 4000000
/-! told != due: lists of texts of any length -/
namespace Z
open PySem PySem.Spec PyProof.Rows L2 Y
open Evl (Ex st_of sq_of ex_l ex_t fresh_back sz_of sz_lt)
open LamX (Tabs TabS ExtN CodeO TabB)
end Z
set_option Elab.async false
set_option linter.all false
set_option maxRecDepth 100000
set_option maxHeartbeats 4000000
/-! len(set(a tuple of ints)), by data -/
namespace Z
open PySem PySem.Spec PyProof.Rows L2 Y
open Evl (Ex st_of sq_of ex_l ex_t fresh_back sz_of sz_lt)
end Z
set_option Elab.async false
set_option linter.all false
set_option maxRecDepth 100000
set_option maxHeartbeats 4000000
/-! [e for x in a for y in b], b a list; by data -/
namespace Z
open PySem PySem.Spec PyProof.Rows L2 Evl Y
end Z
set_option Elab.async false
set_option linter.all false
set_option maxRecDepth 100000
set_option maxHeartbeats 4000000
/-! x, y = a, b where x is captured: y a new object of one's own -/
namespace Z
open PySem PySem.Spec PyProof.Rows L2 Y
open Evl (Ex st_of sq_of ex_l ex_t fresh_back sz_of sz_lt)
end Z
set_option Elab.async false
set_option linter.all false
set_option maxRecDepth 100000
set_option maxHeartbeats 4000000
/-! x, y = a, b: both new objects of one's own -/
namespace Z
open PySem PySem.Spec PyProof.Rows L2 Y
open Evl (Ex st_of sq_of ex_l ex_t fresh_back sz_of sz_lt)
section
variable {X : Cx} {ρ : List Sl} {a b : Expr} {E : DEnds} {rest : List Stmt} {x y : Str} {px py pt pos : Pos}
theorem s_parOO {kt k2 : Nat} {pt2 : Pos} (i j : Nat) (h : DN X ρ a fun d1 => DN X ρ b fun d2 => DS X ((ρ.set i (.ow d1)).set j (.ow d2)) rest E) (hc : X.calm = true) (hN : X.N.Nodup) (hij : i ≠ j) (hi : X.N[i]? = some x := by rfl) (hj : X.N[j]? = some y := by rfl)
    (hx : X.env.scope.names.lookup x = some .local := by rfl) (hy : X.env.scope.names.lookup y = some .local := by rfl)
    (hw : swappedStores [.Tuple [.Name x px, .Name y py] kt pt] (.Tuple [a, b] k2 pt2) X.env = pure (some [x, y]) := by rfl) (hs : swapsWithSole [.Tuple [.Name x px, .Name y py] kt pt] (.Tuple [a, b] k2 pt2) pos.line X.env = pure false := by rfl)
    (he : starEach [a, b] X.env = (false, eval a X.env) :: starEach [b] X.env := by rfl) (he2 : starEach [b] X.env = (false, eval b X.env) :: starEach [] X.env := by rfl) :
    DS X ρ (.Assign [.Tuple [.Name x px, .Name y py] kt pt] (.Tuple [a, b] k2 pt2) pos :: rest) E :=
  ⟨fun H0 B0 B σ H D g En => fun L => semS_of (pss_cons (ps_par hc hN hi hj hij hx hy (pa_cons pe_sem (pa_cons pe_sem pa_nil he2) he) hw hs) pss_sem) (h.go En fun B2 p1 d1 H2 g2 E2 hp1 hb1 o1 q1 => q1.go E2 fun B3 p2 d2 H3 g3 E3 hp2 hb2 o2 q2 => ⟨_, _, rfl, by
    obtain ⟨u, hu, mu⟩ := o1.mut
    have hb1' : B3 p1 = none := g3.o p1 u hu mu hb1
    have o1' : Od X.K B3 H3 p1 d1 := o1.ex g3.b (by rw [hu, g3.h _ _ hu])
    have ne : p1 ≠ p2 := fun z => by rw [z, hp2] at hu; cases hu
    have E4 := E3.setO (i := i) hb1' (fresh_back g.h hp1) o1' (fun k d z1 z2 => Z.En.noSlot (i := i) En hp1 k d z1 z2)
    refine q2.run H0 B0 B3 _ H3 D ((g.trans g2).trans g3) (E4.setO (i := j) hb2 (fresh_back (g.trans g2).h hp2) o2 fun k d z1 z2 => ?_) L
    by_cases z : i = k
    · subst z
      by_cases hl : i < σ.length
      · rw [List.getElem?_set_self hl] at z2
        cases z2
        exact absurd rfl ne
      · rw [List.getElem?_eq_none (by rw [List.length_set]; omega)] at z2; cases z2
    · rw [List.getElem?_set_ne z] at z1 z2
      exact Z.En.noSlot (i := j) E2 hp2 k d z1 z2⟩)⟩
end
end Z
set_option Elab.async false
set_option linter.all false
set_option maxRecDepth 100000
set_option maxHeartbeats 8000000
/-! the law's shuffled items, the law's permutations -/
namespace E5
open PySem PySem.Spec PyProof.Rows L2 Y Z
open Evl (Ex st_of sq_of ex_l ex_t fresh_back sz_of sz_lt)
theorem erase_perm {α : Type} : ∀ {l : List α} {k : Nat} {d : α}, l[k]? = some d → (d :: l.eraseIdx k).Perm l
  | [], _, _, h => by simp at h
  | a :: r, 0, d, h => by
    have : a = d := by simpa using h
    subst this
    exact List.Perm.refl _
  | a :: r, k + 1, d, h => by
    have h : r[k]? = some d := by simpa using h
    exact (List.Perm.swap a d _).trans ((erase_perm h).cons a)
theorem seqIndex_nat {n len : Nat} (h : n < len) : seqIndex? (n : Int) len = some n := by
  have h1 : ¬ ((n : Int) < 0) := by omega
  have h2 : (n : Int) < (len : Int) := by omega
  unfold seqIndex?
  simp [h1, h]
theorem rot_perm : ∀ n, n < 13 → ∀ b, b < n → ((List.range n).map fun p => (p + b) % n).Perm (List.range n) := by decide +kernel
theorem swap_perm : ∀ n, n < 13 → ∀ a, a < n → ∀ b, b < n → ((List.range n).map fun p => if p = b then a else if p = a then b else p).Perm (List.range n) := by decide +kernel
theorem nI_perm {m : List Nat} {ys : List Dt} (h : ys.Perm ((nI m).map Dt.int)) : ∃ l : List Nat, ys = (nI l).map Dt.int ∧ l.Perm m := by
  refine ⟨ys.map natOf, ?_, ?_⟩
  · unfold nI
    rw [List.map_map, List.map_map]
    have : ∀ y ∈ ys, ((Dt.int ∘ fun x : Nat => (x : Int)) ∘ natOf) y = id y := fun y hy => by
      obtain ⟨x, _, rfl⟩ := mem_tk (h.mem_iff.mp hy)
      rfl
    rw [List.map_congr_left this, List.map_id]
  · have := h.map natOf
    unfold nI at this
    rw [List.map_map, List.map_map] at this
    have e : ((natOf ∘ Dt.int) ∘ fun x : Nat => (x : Int)) = id := rfl
    rw [e, List.map_id] at this
    exact this
section
variable {P : Program} {w : World} {K : PySem.W.Frag} {mg : Str → Option Value} {base : Heap}
def dShuf (P : Program) (w : World) : List Dt → (Dt → Prop) → Prop := fun ds Q => ∃ (dk lf : Addr) (xs : List Dt), ds = [deckD P w dk lf, .lst xs] ∧ xs.length ≤ 10000 ∧ ∀ ys : List Dt, ys.Perm xs → Q (.lst ys)
theorem ownD_shuf (D : Def K mg "_law_shuffled" sl_shuffled) (OD : OwnD P w K mg base "_law_draw" psDraw 1 (dDraw P w)) (mr : mg "range" = none) (ml : mg "len" = none) (mli : mg "list" = none) : OwnD P w K mg base "_law_shuffled" ["_law_deck_here", "_law_some"] 2 (dShuf P w) := by
  refine ownD D cl_shuffled (fun ds Q Q' k ⟨dk, lf, xs, e, a, h⟩ => ⟨dk, lf, xs, e, a, fun ys x => k _ (h ys x)⟩) (fun ds Q ⟨dk, lf, xs, e, _⟩ => by subst e; rfl) (fun _ _ _ _ _ _ us hl => match us, hl with | [_, _], _ => rfl) ?_
  rintro X ds Q ⟨f, cdv, A, outer, s0, H, E, rfl⟩ hr ⟨dk, lf, xs, rfl, hl, h⟩
  have nd := cl_shuffled.nd
  refine s_parOO 2 3 (n_list (by rfl) mli <| d_nm 1 rfl ⟨xs, .inl rfl, n_lst <| l_nil ⟨Nat.zero_le _, ?_⟩⟩) rfl nd (by decide)
  refine s_for PassesOwn.never rfl (g_nm 4 nd) <| i_rng (by rfl) mr <| d_len (by rfl) ml <| d_nmO 2 rfl ⟨⟨by omega, by omega⟩, ?_⟩
  rw [Int.toNat_natCast]
  refine ⟨fun j ρ => ∃ (ls fs : List Dt) (x : Sl), ρ = [.fr (deckD P w dk lf), .fr (.lst xs), .ow (.lst ls), .ow (.lst fs), x] ∧ (fs ++ ls).Perm xs ∧ fs.length = j, ⟨xs, [], _, rfl, List.Perm.refl _, rfl⟩, ?_, ?_⟩
  · rintro j d ρ1 hd ⟨ls, fs, x, rfl, hp, hj⟩
    have hi := (List.getElem?_eq_some_iff.mp hd).1
    rw [rngD_len] at hi
    have hle : fs.length + ls.length = xs.length := by rw [← List.length_append]; exact hp.length_eq
    refine ⟨_, rfl, ?_⟩
    refine s_appendM 3 rfl <| m_popAt 2 rfl <| d_own OD hr (by rfl) <| l_cons <| d_nm 0 rfl <| l_cons <| d_len (by rfl) ml <| d_nmO 2 rfl <| l_nil ⟨dk, lf, _, rfl, by omega, by omega, fun r r0 r1 => ?_⟩
    obtain ⟨n, rfl⟩ : ∃ n : Nat, r = (n : Int) := ⟨r.toNat, by omega⟩
    have hn : n < ls.length := by omega
    refine ⟨_, n, ls[n], rfl, ⟨by omega, by omega⟩, seqIndex_nat hn, List.getElem?_eq_getElem hn, _, rfl, by omega, s_nil ⟨ls.eraseIdx n, fs ++ [ls[n]], _, rfl, ?_, by rw [List.length_append, hj]; rfl⟩⟩
    refine List.Perm.trans ?_ hp
    rw [List.append_assoc]
    exact (erase_perm (List.getElem?_eq_getElem hn)).append_left fs
  · rintro ρ1 ⟨ls, fs, x, rfl, hp, hj⟩
    rw [rngD_len] at hj
    have hle : fs.length + ls.length = xs.length := by rw [← List.length_append]; exact hp.length_eq
    obtain rfl : ls = [] := List.eq_nil_of_length_eq_zero (by omega)
    rw [List.append_nil] at hp
    exact s_freeze 3 rfl <| s_ret <| d_nm 3 rfl (h fs hp)
def dMoves (P : Program) (w : World) : List Dt → (Dt → Prop) → Prop := fun ds Q => ∃ (dk lf : Addr) (n : Nat), ds = [deckD P w dk lf, .int (n : Int)] ∧ 1 ≤ n ∧ n ≤ 12 ∧ ∀ m : List Nat, m.Perm (List.range n) → Q (tkD m)
theorem ownD_moves (D : Def K mg "_law_moves" sl_moves) (OD : OwnD P w K mg base "_law_draw" psDraw 1 (dDraw P w)) (OS : OwnD P w K mg base "_law_shuffled" ["_law_deck_here", "_law_some"] 2 (dShuf P w)) (mr : mg "range" = none) (mt : mg "tuple" = none) (mi : mg "int" = none) (mli : mg "list" = none) : OwnD P w K mg base "_law_moves" ["_law_deck_here", "_law_size"] 3 (dMoves P w) := by
  refine ownD D cl_moves (fun ds Q Q' k ⟨dk, lf, n, e, a, b, h⟩ => ⟨dk, lf, n, e, a, b, fun m x => k _ (h m x)⟩) (fun ds Q ⟨dk, lf, n, e, _⟩ => by subst e; rfl) (fun _ _ _ _ _ _ us hl => match us, hl with | [_, _], _ => rfl) ?_
  rintro X ds Q ⟨f, cdv, A, outer, s0, H, E, rfl⟩ hr ⟨dk, lf, n, rfl, h1, h12, h⟩
  have nd := cl_moves.nd
  refine s_asg (d_tup <| l_cons <| d_own OD (hr.mono (by decide)) (by rfl) <| l_cons <| d_nm 0 rfl <| l_cons <| d_int <| l_nil ⟨dk, lf, 6, rfl, by decide, by decide, fun wy _ _ => l_cons <| d_own OD (hr.mono (by decide)) (by rfl) <| l_cons <| d_nm 0 rfl <| l_cons <| d_nm 1 rfl <| l_nil ⟨dk, lf, _, rfl, by omega, by omega, fun r r0 r1 => l_nil ⟨two_le, _, rfl, ?_⟩⟩⟩) (g_tup2 2 3 rfl nd)
  obtain ⟨b, rfl⟩ : ∃ n : Nat, r = (n : Int) := ⟨r.toNat, by omega⟩
  have hb : b < n := by omega
  refine s_when <| t_lt <| .of <| d_nm 2 rfl <| .of <| d_int ⟨fun _ => ?_, fun _ => ?_⟩
  · refine s_ret <| d_tuple (by rfl) mt <| .ofN <| n_lc (own := [("_law_place", 4)]) rfl nd (blkOk_by (N := nl_moves) (sc := defScope sl_moves) (by decide +kernel)) (gb_nm 4 (fun _ _ _ _ _ => pg_name (i := 4) nd rfl (Or.inl rfl))) (by simp) (i_rng (by rfl) mr <| d_nm 1 rfl ⟨⟨by omega, by omega⟩, ?_⟩)
    rw [Int.toNat_natCast]
    refine LcQ.map (fun d => .int (((natOf d + b) % n : Nat) : Int)) (by rw [rngD_len]; omega) (fun d hd => ?_) ?_
    · rw [rngD_nI] at hd
      obtain ⟨t, ht, rfl⟩ := mem_tk hd
      refine ⟨_, rfl, fun s1 H' C' cl fp => d_mod <| d_intI rfl (by rfl) mi <| d_add <| d_nm 4 rfl <| d_nm 3 rfl ⟨_, rfl, d_nm 1 rfl ⟨by omega, ?_⟩⟩⟩
      show Dt.int (((t : Int) + (b : Int)) % (n : Int)) = Dt.int (((t + b) % n : Nat) : Int)
      rw [Int.natCast_emod, Int.natCast_add]
    · rw [rngD_nI]
      have e : ((nI (List.range n)).map Dt.int).map (fun d => Dt.int (((natOf d + b) % n : Nat) : Int)) = (nI ((List.range n).map fun p => (p + b) % n)).map Dt.int := by
        unfold nI
        rw [List.map_map, List.map_map, List.map_map, List.map_map]; rfl
      rw [e]
      exact h _ (rot_perm n (by omega) b hb)
  refine s_when <| t_eq hr.units <| .of <| d_nm 2 rfl <| .of <| d_int ⟨fun _ => ?_, fun _ => ?_⟩
  · refine s_set 5 (d_own OD (hr.mono (by decide)) (by rfl) <| l_cons <| d_nm 0 rfl <| l_cons <| d_nm 1 rfl <| l_nil ⟨dk, lf, _, rfl, by omega, by omega, fun r2 r0 r1 => ?_⟩) nd
    obtain ⟨c, rfl⟩ : ∃ n : Nat, r2 = (n : Int) := ⟨r2.toNat, by omega⟩
    have hc : c < n := by omega
    refine s_ret <| d_tuple (by rfl) mt <| .ofN <| n_lc (own := [("_law_place", 4)]) rfl nd (blkOk_by (N := nl_moves) (sc := defScope sl_moves) (by decide +kernel)) (gb_nm 4 (fun _ _ _ _ _ => pg_name (i := 4) nd rfl (Or.inl rfl))) (by simp) (i_rng (by rfl) mr <| d_nm 1 rfl ⟨⟨by omega, by omega⟩, ?_⟩)
    rw [Int.toNat_natCast]
    refine LcQ.map (fun d => .int ((if natOf d = b then c else if natOf d = c then b else natOf d : Nat) : Int)) (by rw [rngD_len]; omega) (fun d hd => ?_) ?_
    · rw [rngD_nI] at hd
      obtain ⟨t, ht, rfl⟩ := mem_tk hd
      refine ⟨_, rfl, fun s1 H' C' cl fp => d_if <| t_eq hr.units <| .of <| d_nm 4 rfl <| .of <| d_nm 3 rfl ⟨fun z => ?_, fun z => ?_⟩⟩
      · have z : (t : Int) = (b : Int) := of_decide_eq_true z
        refine d_nm 5 rfl ?_
        show Dt.int (c : Int) = Dt.int ((if t = b then c else if t = c then b else t : Nat) : Int)
        rw [if_pos (by omega)]
      · have z : ¬ (t : Int) = (b : Int) := of_decide_eq_false z
        refine d_if <| t_eq hr.units <| .of <| d_nm 4 rfl <| .of <| d_nm 5 rfl ⟨fun z2 => ?_, fun z2 => ?_⟩
        · have z2 : (t : Int) = (c : Int) := of_decide_eq_true z2
          refine d_nm 3 rfl ?_
          show Dt.int (b : Int) = Dt.int ((if t = b then c else if t = c then b else t : Nat) : Int)
          rw [if_neg (by omega), if_pos (by omega)]
        · have z2 : ¬ (t : Int) = (c : Int) := of_decide_eq_false z2
          refine d_nm 4 rfl ?_
          show Dt.int (t : Int) = Dt.int ((if t = b then c else if t = c then b else t : Nat) : Int)
          rw [if_neg (by omega), if_neg (by omega)]
    · rw [rngD_nI]
      have e : ((nI (List.range n)).map Dt.int).map (fun d => Dt.int ((if natOf d = b then c else if natOf d = c then b else natOf d : Nat) : Int)) = (nI ((List.range n).map fun p => if p = b then c else if p = c then b else p)).map Dt.int := by
        unfold nI
        rw [List.map_map, List.map_map, List.map_map, List.map_map]; rfl
      rw [e]
      exact h _ (swap_perm n (by omega) c hc b hb)
  refine s_ret <| d_if <| t_lt <| .of <| d_nm 2 rfl <| .of <| d_int ⟨fun _ => ?_, fun _ => ?_⟩
  · refine d_tupR rfl (by rfl) mt (by rfl) mr <| d_nm 1 rfl ⟨n, rfl, by omega, ?_⟩
    rw [rngD_nI]
    exact h _ (List.Perm.refl _)
  · refine d_tuple (by rfl) mt <| d_own OS (hr.mono (by decide)) (by rfl) <| l_cons <| d_nm 0 rfl <| l_cons <| .ofN <| n_listR rfl (by rfl) mli (by rfl) mr <| d_nm 1 rfl ⟨n, rfl, by omega, l_nil ⟨dk, lf, _, rfl, by rw [rngD_len]; omega, fun ys hy => ?_⟩⟩
    rw [rngD_nI] at hy
    obtain ⟨l, rfl, hp⟩ := nI_perm hy
    exact h l hp
end
end E5
set_option Elab.async false
set_option linter.all false
set_option maxRecDepth 100000
set_option maxHeartbeats 4000000
/-! x & y of integers; by data -/
namespace Z
open PySem PySem.Spec PyProof.Rows L2 Evl Y
theorem d_bitAnd {X : Cx} {ρ : List Sl} {a b : Expr} {pos : Pos} {Q : Dt → Prop} (h : DE X ρ a fun d1 => DE X ρ b fun d2 => ∃ n m, d1 = .int n ∧ d2 = .int m ∧ Q (.int (Builtin.bitAnd n m))) : DE X ρ (.BinOp a .BitAnd b pos) Q :=
  d_op op_and (W := fun d1 d2 Q => ∃ n m, d1 = .int n ∧ d2 = .int m ∧ Q (.int (Builtin.bitAnd n m))) (fun B H x y d1 d2 Q R s rx ry ⟨n, m, e1, e2, w⟩ k => by
    subst e1 e2
    cases rx; cases ry
    exact ⟨n, m, rfl, rfl, k B _ _ H (Gr.refl s) (.int _) w⟩) h
end Z
set_option Elab.async false
set_option linter.all false
set_option maxRecDepth 100000
set_option maxHeartbeats 8000000
/-! the law's sorts -/
namespace E5
open PySem PySem.Spec PyProof.Rows L2 Y Z
open Evl (Ex st_of sq_of ex_l ex_t fresh_back sz_of sz_lt)
abbrev ks10 : List Str := ["get", "add", "up", "w", "zero", "a", "swap", "bb", "k", "longestwor"]
theorem ks_word : ∀ k ∈ ks10, isWordB (.str k) = true := by decide +kernel
theorem ks_small : ∀ k ∈ ks10, k.length ≤ 10 := by decide +kernel
theorem ks_nodup : ks10.Nodup := by decide +kernel
theorem asc_nd {out : List Str} (h1 : out.Nodup) (h2 : sortedS out = true) : out.Pairwise fun a b => ltB a b = true := (asc_of_sorted (.refl out) h2 h1).imp fun h => ltB_lt.mpr h
theorem strs_perm {ks : List Str} {ys : List Dt} (h : ys.Perm (ks.map Dt.str)) : ∃ l : List Str, ys = l.map Dt.str ∧ l.Perm ks := by
  refine ⟨ys.map strOf, ?_, ?_⟩
  · rw [List.map_map]
    have : ∀ y ∈ ys, (Dt.str ∘ strOf) y = id y := fun y hy => by
      obtain ⟨x, _, rfl⟩ := List.mem_map.mp (h.mem_iff.mp hy)
      rfl
    rw [List.map_congr_left this, List.map_id]
  · have := h.map strOf
    rw [List.map_map] at this
    have e : (strOf ∘ Dt.str) = id := rfl
    rw [e, List.map_id] at this
    exact this
/-- the body of a for that stands third -/
def bodS : List Stmt → List Stmt
  | _ :: _ :: .For _ _ b _ _ :: _ => b
  | _ => []
section
variable {P : Program} {w : World} {K : PySem.W.Frag} {mg : Str → Option Value} {base : Heap}
def dLSort (P : Program) (w : World) : List Dt → (Dt → Prop) → Prop := fun ds Q => ∃ (dk lf : Addr) (n : Nat), ds = [deckD P w dk lf, .int (n : Int)] ∧ 1 ≤ n ∧ n ≤ 12 ∧ ∀ s : Srt, SrtOk s → Q (srtD s)
theorem ownD_lsort (D : Def K mg "_law_sort" sl_sort) (OD : OwnD P w K mg base "_law_draw" psDraw 1 (dDraw P w)) (OP : OwnD P w K mg base "_law_pick" psPick 2 (dPick P w)) (OS : OwnD P w K mg base "_law_shuffled" ["_law_deck_here", "_law_some"] 2 (dShuf P w)) (OM : OwnD P w K mg base "_law_moves" ["_law_deck_here", "_law_size"] 3 (dMoves P w)) (ms : mg "sorted" = none) (mr : mg "range" = none) (mt : mg "tuple" = none) (mi : mg "int" = none) (mli : mg "list" = none) : OwnD P w K mg base "_law_sort" ["_law_deck_here", "_law_most"] 4 (dLSort P w) := by
  refine ownD D cl_sort (fun ds Q Q' k ⟨dk, lf, n, e, a, b, h⟩ => ⟨dk, lf, n, e, a, b, fun m x => k _ (h m x)⟩) (fun ds Q ⟨dk, lf, n, e, _⟩ => by subst e; rfl) (fun _ _ _ _ _ _ us hl => match us, hl with | [_, _], _ => rfl) ?_
  rintro X ds Q ⟨f, cdv, A, outer, s0, H, E, rfl⟩ hr ⟨dk, lf, most, rfl, h1, h12, h⟩
  have nd := cl_sort.nd
  refine s_parFO 2 3 (d_add <| d_int <| d_own OD (hr.mono (by decide)) (by rfl) <| l_cons <| d_nm 0 rfl <| l_cons <| d_nm 1 rfl <| l_nil ⟨dk, lf, _, rfl, by omega, by omega, fun r r0 r1 => ?_⟩) rfl nd (by decide)
  obtain ⟨n, en⟩ : ∃ n : Nat, 1 + r = (n : Int) := ⟨(1 + r).toNat, by omega⟩
  have hn1 : 1 ≤ n := by omega
  have hn12 : n ≤ 12 := by omega
  show DN _ _ _ _
  refine n_lst <| l_cons <| d_str <| l_cons <| d_str <| l_cons <| d_str <| l_cons <| d_str <| l_cons <| d_str <| l_cons <| d_str <| l_cons <| d_str <| l_cons <| d_str <| l_cons <| d_str <| l_cons <| d_sl <| d_str ?_
  show DE _ _ _ _
  refine d_int ⟨by decide, l_nil ⟨?_, ?_⟩⟩
  · show 10 ≤ 100000
    decide
  have ecut : cutS "longestword" none (some 10) = "longestwor" := by decide +kernel
  rw [ecut]
  rw [en]
  refine s_freeze 3 rfl ?_
  refine s_setO 4 (n_lst <| l_nil ⟨Nat.zero_le _, ?_⟩) nd
  refine s_for PassesOwn.never rfl (g_nm 5 nd) <| i_lst <| .ofN <| n_sortS (by rfl) ms <| .ofN <| n_tkL <| d_own OS (hr.mono (by decide)) (by rfl) <| l_cons <| d_nm 0 rfl <| l_cons <| d_nm 3 rfl <| l_nil ⟨dk, lf, ks10.map Dt.str, rfl, by decide, fun ys hy => ?_⟩
  obtain ⟨l, rfl, hl⟩ := strs_perm hy
  refine ⟨_, rfl, d_own OP (hr.mono (by decide)) (by rfl) <| l_cons <| d_nm 0 rfl <| l_cons <| .ofN <| n_lst <| l_cons <| d_int <| l_cons <| d_int <| l_cons <| d_int <| l_cons <| d_int <| l_cons <| d_int <| l_cons <| d_int <| l_nil ⟨by show 6 ≤ 100000; decide, l_nil ⟨dk, lf, _, rfl, .inl ⟨_, rfl, by show 1 ≤ 6; decide, by show 6 < 1000000; decide, fun d hd => ?_⟩⟩⟩⟩
  obtain ⟨p, rfl, hp1, hp8⟩ : ∃ p : Nat, d = .int (p : Int) ∧ 1 ≤ p ∧ p ≤ 8 := by
    simp only [List.mem_cons, List.not_mem_nil, or_false] at hd
    rcases hd with rfl | rfl | rfl | rfl | rfl | rfl
    · exact ⟨3, rfl, by decide, by decide⟩
    · exact ⟨2, rfl, by decide, by decide⟩
    · exact ⟨4, rfl, by decide, by decide⟩
    · exact ⟨1, rfl, by decide, by decide⟩
    · exact ⟨3, rfl, by decide, by decide⟩
    · exact ⟨8, rfl, by decide, by decide⟩
  have hll : l.length = 10 := hl.length_eq
  refine ⟨p, rfl, l.take p, by rw [List.map_take], by rw [List.length_take]; omega, fun out ho hs => ?_⟩
  have hol : out.length = p := by rw [ho.length_eq, List.length_take, hll]; omega
  have hmem : ∀ k ∈ out, k ∈ ks10 := fun k hk => hl.mem_iff.mp (List.mem_of_mem_take (ho.mem_iff.mp hk))
  have hnd : out.Nodup := ho.nodup_iff.mpr ((hl.nodup_iff.mpr ks_nodup).sublist (List.take_sublist _ _))
  have hasc := asc_nd hnd hs
  dsimp only [lstQ]
  refine ⟨fun j ρ => ∃ (ops : List Op) (x5 x6 x7 x8 x9 : Sl), ρ = [.fr (deckD P w dk lf), .fr (.int (most : Int)), .fr (.int (n : Int)), .fr (.lst (ks10.map Dt.str)), .ow (.lst (ops.map opD)), x5, x6, x7, x8, x9] ∧ ops.map (·.k) = out.take j ∧ ∀ o ∈ ops, OpOk n o, ⟨[], _, _, _, _, _, rfl, rfl, fun o ho => nomatch ho⟩, ?_, ?_⟩
  · rintro j d ρ1 hd ⟨ops, x5, x6, x7, x8, x9, rfl, hk, ho⟩
    rw [List.getElem?_map] at hd
    obtain ⟨k, hkk, rfl⟩ := Option.map_eq_some_iff.mp hd
    have hj : j < out.length := (List.getElem?_eq_some_iff.mp hkk).1
    have hkm := hmem k (List.mem_of_getElem? hkk)
    have hopl : ops.length ≤ 8 := by
      have := congrArg List.length hk
      rw [List.length_map, List.length_take] at this
      omega
    refine ⟨_, rfl, ?_⟩
    refine s_par 6 7 (l_cons <| d_own OD (hr.mono (by decide)) (by rfl) <| l_cons <| d_nm 0 rfl <| l_cons <| d_int <| l_nil ⟨dk, lf, 5, rfl, by decide, by decide, fun wy _ _ => l_cons <| d_sub <| d_own OD (hr.mono (by decide)) (by rfl) <| l_cons <| d_nm 0 rfl <| l_cons <| d_int <| l_nil ⟨dk, lf, 4, rfl, by decide, by decide, fun la _ _ => d_int ⟨trivial, l_nil ⟨_, _, rfl, ?_⟩⟩⟩⟩) rfl nd (by decide)
    -- what comes behind the answers
    have fin : ∀ (an : List Int) (x9 : Sl) (E' : DEnds), an.length = n → (∀ o : Op, OpOk n o → o.k = k → E'.nx [.fr (deckD P w dk lf), .fr (.int (most : Int)), .fr (.int (n : Int)), .fr (.lst (ks10.map Dt.str)), .ow (.lst ((ops ++ [o]).map opD)), .fr (.str k), .fr (.int wy), .fr (.int (la - 1)), .fr (.lst (an.map Dt.int)), x9]) →
        DS (cxOf CX0 P w K mg base nl_sort "_law_sort" (defScope sl_sort) f cdv A outer s0 H E).nox [.fr (deckD P w dk lf), .fr (.int (most : Int)), .fr (.int (n : Int)), .fr (.lst (ks10.map Dt.str)), .ow (.lst (ops.map opD)), .fr (.str k), .fr (.int wy), .fr (.int (la - 1)), .fr (.lst (an.map Dt.int)), x9] ((bodS (defBody sl_sort)).drop 3) E' := by
      intro an x9 E' ha hE
      refine s_append 4 rfl <| d_tup <| l_cons <| d_nm 5 rfl <| l_cons <| d_own OM (hr.mono (by decide)) (by rfl) <| l_cons <| d_nm 0 rfl <| l_cons <| d_nm 2 rfl <| l_nil ⟨dk, lf, n, rfl, hn1, hn12, fun m hm => l_cons <| d_tuple (by rfl) mt <| d_nm 8 rfl <| l_nil ⟨by show 3 ≤ 100000; decide, by rw [List.length_map]; omega, s_nil ?_⟩⟩
      have := hE ⟨k, m, an⟩ ⟨ks_word k hkm, ks_small k hkm, hm, ha⟩ rfl
      rw [List.map_append] at this
      exact this
    have nxt : ∀ o : Op, OpOk n o → o.k = k → (ops ++ [o]).map (·.k) = out.take (j + 1) ∧ ∀ o' ∈ ops ++ [o], OpOk n o' := fun o h1 h2 => by
      refine ⟨?_, fun o' h' => ?_⟩
      · rw [List.map_append, hk, List.take_add_one, hkk]
        show _ ++ [o.k] = _
        rw [h2]; rfl
      · rcases List.mem_append.mp h' with h' | h'
        · exact ho o' h'
        · rw [List.mem_singleton.mp h']; exact h1
    have ans : ∀ (an : List Int) (x9 : Sl) (E' : DEnds), an.length = n → (∀ o : Op, OpOk n o → o.k = k → ∀ an : List Int, E'.nx [.fr (deckD P w dk lf), .fr (.int (most : Int)), .fr (.int (n : Int)), .fr (.lst (ks10.map Dt.str)), .ow (.lst ((ops ++ [o]).map opD)), .fr (.str k), .fr (.int wy), .fr (.int (la - 1)), .fr (.lst (an.map Dt.int)), x9]) →
        DS (cxOf CX0 P w K mg base nl_sort "_law_sort" (defScope sl_sort) f cdv A outer s0 H E).nox [.fr (deckD P w dk lf), .fr (.int (most : Int)), .fr (.int (n : Int)), .fr (.lst (ks10.map Dt.str)), .ow (.lst (ops.map opD)), .fr (.str k), .fr (.int wy), .fr (.int (la - 1)), .ow (.lst (an.map Dt.int)), x9] ((bodS (defBody sl_sort)).drop 2) E' := fun an x9 E' ha hE => by
      refine s_freeze 8 rfl ?_
      refine s_when <| t_eq hr.units <| .of <| d_nm 6 rfl <| .of <| d_int ⟨fun _ => ?_, fun _ => ?_⟩
      · refine s_setLc (own := [("_law_place", 9)]) 8 rfl nd (blkOk_by (N := nl_sort) (sc := defScope sl_sort) (by decide +kernel)) (gb_nm 9 (fun _ _ _ _ _ => pg_name (i := 9) nd rfl (Or.inl rfl))) (by simp) (i_rng (by rfl) mr <| d_nm 2 rfl ⟨⟨by omega, by omega⟩, ?_⟩)
        rw [Int.toNat_natCast]
        refine ⟨by rw [rngD_len]; omega, fun j acc => ∃ an : List Int, acc = an.map Dt.int ∧ an.length = j, ⟨[], rfl, rfl⟩, ?_, ?_⟩
        · rintro j d acc hd ⟨an, rfl, hj⟩
          exact ⟨_, rfl, fun s1 H' C' cl fp => d_sub <| d_own OD (hr.mono (by decide)) (by rfl) <| l_cons <| d_nm 0 rfl <| l_cons <| d_int <| l_nil ⟨dk, lf, 3, rfl, by decide, by decide, fun r _ _ => d_int ⟨trivial, an ++ [r - 1], by rw [List.map_append]; rfl, by rw [List.length_append, hj]; rfl⟩⟩⟩
        · rintro acc _ ⟨an, rfl, hj⟩
          rw [rngD_len] at hj
          exact s_freeze 8 rfl <| s_nil <| fin an x9 _ hj fun o h1 h2 => hE o h1 h2 an
      · exact fin an x9 _ ha fun o h1 h2 => hE o h1 h2 an
    refine s_setO 8 (n_if <| t_lt <| .of <| d_nm 6 rfl <| .of <| d_int ⟨fun _ => ?_, fun _ => ?_⟩) nd
    · refine n_repL <| DN.w1 <| n_lst <| l_cons <| d_nm 7 rfl <| l_nil ⟨by show 1 ≤ 100000; decide, d_nm 2 rfl ⟨_, _, rfl, rfl, ⟨by omega, by omega⟩, by show 1 ≤ 1000; decide, ?_⟩⟩
      have e : (List.replicate (n : Int).toNat [Dt.int (la - 1)]).flatten = (List.replicate n (la - 1)).map Dt.int := by
        rw [Int.toNat_natCast, List.map_replicate]
        simp
      rw [e]
      exact ans _ _ _ (List.length_replicate ..) fun o h1 h2 an => ⟨ops ++ [o], _, _, _, _, _, rfl, nxt o h1 h2⟩
    · refine n_if <| t_eq hr.units <| .of <| d_nm 6 rfl <| .of <| d_int ⟨fun _ => ?_, fun _ => ?_⟩
      · refine n_listR rfl (by rfl) mli (by rfl) mr <| d_nm 2 rfl ⟨n, rfl, by omega, ?_⟩
        rw [rngD_nI]
        exact ans _ _ _ (by rw [nI_len, List.length_range]) fun o h1 h2 an => ⟨ops ++ [o], _, _, _, _, _, rfl, nxt o h1 h2⟩
      · refine n_lc (own := [("_law_place", 9)]) rfl nd (blkOk_by (N := nl_sort) (sc := defScope sl_sort) (by decide +kernel)) (gb_nm 9 (fun _ _ _ _ _ => pg_name (i := 9) nd rfl (Or.inl rfl))) (by simp) (i_rng (by rfl) mr <| d_nm 2 rfl ⟨⟨by omega, by omega⟩, ?_⟩)
        rw [Int.toNat_natCast]
        refine LcQ.map (fun d => .int (Builtin.bitAnd (natOf d : Int) 1)) (by rw [rngD_len]; omega) (fun d hd => ?_) ?_
        · rw [rngD_nI] at hd
          obtain ⟨t, ht, rfl⟩ := mem_tk hd
          exact ⟨_, rfl, fun s1 H' C' cl fp => d_intI rfl (by rfl) mi <| d_bitAnd <| d_nm 9 rfl <| d_int ⟨_, _, rfl, rfl, _, rfl, rfl⟩⟩
        · have e : (rngD 0 n).map (fun d => Dt.int (Builtin.bitAnd (natOf d : Int) 1)) = ((List.range n).map fun (t : Nat) => Builtin.bitAnd (t : Int) 1).map Dt.int := by
            rw [rngD_nI]
            unfold nI
            rw [List.map_map, List.map_map, List.map_map]; rfl
          rw [e]
          exact ans _ _ _ (by rw [List.length_map, List.length_range]) fun o h1 h2 an => ⟨ops ++ [o], _, _, _, _, _, rfl, nxt o h1 h2⟩
  · rintro ρ1 ⟨ops, x5, x6, x7, x8, x9, rfl, hk, ho⟩
    rw [List.length_map, List.take_length] at hk
    have hopl : ops.length = p := by
      have := congrArg List.length hk
      rw [List.length_map] at this
      omega
    refine s_freeze 4 rfl <| s_ret <| d_tup <| l_cons <| d_nm 2 rfl <| l_cons <| d_tuple (by rfl) mt <| d_nm 4 rfl <| l_nil ⟨two_le, h ⟨n, ops⟩ ⟨hn1, hn12, by show 1 ≤ ops.length; omega, by show ops.length ≤ 8; omega, ho, ?_⟩⟩
    show (ops.map (·.k)).Pairwise _
    rw [hk]; exact hasc
end
end E5
set_option Elab.async false
set_option linter.all false
set_option maxRecDepth 100000
set_option maxHeartbeats 4000000
/-! (a, b), (c, d), e = x, y, new; by data -/
namespace Z
open PySem PySem.Spec PyProof.Rows L2 Evl Y
section
variable {X : Cx} {ρ : List Sl} {a b c : Expr} {Q : Dt → Prop} {pos : Pos} {rest : List Stmt} {E : DEnds} {σ : L2.St} {i j k l m : Nat}
theorem noslot_fr {p : Addr} {x : Dt} {v : Option V} (hn : ∀ (j : Nat) (e : Dt), ρ[j]? = some (Sl.ow e) → σ[j]? = some (some (V.ref p)) → j = m) :
    ∀ (j : Nat) (e : Dt), (ρ.set i (.fr x))[j]? = some (Sl.ow e) → (σ.set i v)[j]? = some (some (V.ref p)) → j = m := fun j e h1 h2 => by
  by_cases z : i = j
  · subst z
    by_cases hl : i < ρ.length
    · rw [List.getElem?_set_self hl] at h1; cases h1
    · rw [List.getElem?_eq_none (by rw [List.length_set]; omega)] at h1; cases h1
  · rw [List.getElem?_set_ne z] at h1 h2
    exact hn j e h1 h2
theorem s_tup22O {x y z u v : Str} {kt k1 k2 k3 : Nat} {px py pz pu pv pp1 pp2 p3 pt : Pos} (i j k l m : Nat)
    (h : DE X ρ a fun d1 => DE X ρ b fun d2 => DN X ρ c fun d3 => ∃ x y z u, d1 = .tup [x, y] ∧ d2 = .tup [z, u] ∧ DS X (((((ρ.set i (.fr x)).set j (.fr y)).set k (.fr z)).set l (.fr u)).set m (.ow d3)) rest E)
    (hc : X.calm = true) (hN : X.N.Nodup) (hi : X.N[i]? = some x := by rfl) (hj : X.N[j]? = some y := by rfl) (hk : X.N[k]? = some z := by rfl) (hl : X.N[l]? = some u := by rfl) (hm : X.N[m]? = some v := by rfl) (hx : Loc X.env.scope x := by first | exact Or.inl rfl | exact Or.inr rfl) (hy : Loc X.env.scope y := by first | exact Or.inl rfl | exact Or.inr rfl) (hz : Loc X.env.scope z := by first | exact Or.inl rfl | exact Or.inr rfl) (hu : Loc X.env.scope u := by first | exact Or.inl rfl | exact Or.inr rfl) (hv : Loc X.env.scope v := by first | exact Or.inl rfl | exact Or.inr rfl)
    (hf : X.fn x = true ∨ X.env.scope.names.lookup x = some .local := by first | exact .inl rfl | exact .inr rfl) (hf2 : X.fn y = true ∨ X.env.scope.names.lookup y = some .local := by first | exact .inl rfl | exact .inr rfl) (hf3 : X.fn z = true ∨ X.env.scope.names.lookup z = some .local := by first | exact .inl rfl | exact .inr rfl) (hf4 : X.fn u = true ∨ X.env.scope.names.lookup u = some .local := by first | exact .inl rfl | exact .inr rfl) (hf5 : X.fn v = true ∨ X.env.scope.names.lookup v = some .local := by first | exact .inl rfl | exact .inr rfl)
    (hs : swapsWithSole [.Tuple [.Tuple [.Name x px, .Name y py] k1 pp1, .Tuple [.Name z pz, .Name u pu] k2 pp2, .Name v pv] kt pt] (.Tuple [a, b, c] k3 p3) pos.line X.env = pure false := by rfl) (hw : swappedStores [.Tuple [.Tuple [.Name x px, .Name y py] k1 pp1, .Tuple [.Name z pz, .Name u pu] k2 pp2, .Name v pv] kt pt] (.Tuple [a, b, c] k3 p3) X.env = pure none := by rfl)
    (h1 : (assignEach [.Tuple [.Tuple [.Name x px, .Name y py] k1 pp1, .Tuple [.Name z pz, .Name u pu] k2 pp2, .Name v pv] kt pt] X.env).map (·.2) = [assign (.Tuple [.Tuple [.Name x px, .Name y py] k1 pp1, .Tuple [.Name z pz, .Name u pu] k2 pp2, .Name v pv] kt pt) X.env] := by rfl)
    (he : starEach [a, b, c] X.env = (false, eval a X.env) :: starEach [b, c] X.env := by rfl) (he2 : starEach [b, c] X.env = (false, eval b X.env) :: starEach [c] X.env := by rfl) (he3 : starEach [c] X.env = (false, eval c X.env) :: starEach [] X.env := by rfl) :
    DS X ρ (.Assign [.Tuple [.Tuple [.Name x px, .Name y py] k1 pp1, .Tuple [.Name z pz, .Name u pu] k2 pp2, .Name v pv] kt pt] (.Tuple [a, b, c] k3 p3) pos :: rest) E := by
  have pg : PG X (.Tuple [.Tuple [.Name x px, .Name y py] k1 pp1, .Tuple [.Name z pz, .Name u pu] k2 pp2, .Name v pv] kt pt) _ := pg_tup hc (pgs_cons (pg_tup hc (pgs_cons (pg_name hN hi hx hf) (pgs_cons (pg_name hN hj hy hf2) pgs_nil))) (pgs_cons (pg_tup hc (pgs_cons (pg_name hN hk hz hf3) (pgs_cons (pg_name hN hl hu hf4) pgs_nil))) (pgs_cons (pg_name hN hm hv hf5) pgs_nil)))
  refine ⟨fun H0 B0 B σ H D g En L => semS_of (pss_cons (ps_asg (pe_tup (pa_cons pe_sem (pa_cons pe_sem (pa_cons pe_sem pa_nil he3) he2) he)) pg hs hw h1) pss_sem) (h.go En fun B2 v1 d1 H2 g2 E2 r1 q1 => q1.go E2 fun B3 v2 d2 H3 g3 E3 r2 q2 => q2.go E3 fun B4 pn d3 H4 g4 E4 hpn hbn o3 ⟨x, y, z, u, e1, e2, q⟩ => ?_)⟩
  subst e1 e2
  refine ⟨sz_of (by show 3 ≤ 100000; decide), fun t ht => ?_⟩
  have gn := Gr.new (o := .tup [v1, v2, .ref pn]) E4.ex ht
  have E5 := E4.gr gn
  have r1' := ((r1.ex g3.b).ex g4.b).ex gn.b
  have r2' := (r2.ex g4.b).ex gn.b
  obtain ⟨w, hw3, mu⟩ := o3.mut
  have nt : pn ≠ t := fun z => by subst z; rw [ht] at hw3; cases hw3
  have hb5 : upd B4 t (.tup [v1, v2, .ref pn]) pn = none := by rw [upd_ne nt]; exact hbn
  have o3' := o3.ex (H2 := upd H4 t (.tup [v1, v2, .ref pn])) gn.b (upd_ne nt)
  have ns := Z.En.noSlot (i := m) E3 hpn
  cases r1' with
  | tup hb hv1 => cases hv1 with
    | cons r3 t3 => cases t3 with
      | cons r4 t4 =>
        cases t4
        cases r2' with
        | tup hb2 hv2 => cases hv2 with
          | cons r5 t5 => cases t5 with
            | cons r6 t6 =>
              cases t6
              refine ⟨_, _, rfl, st_of upd_same, rfl, _, _, rfl, ⟨_, _, rfl, ex_t E5.ex hb, rfl, _, _, rfl, _, _, rfl, rfl, _, _, rfl, ⟨_, _, rfl, ex_t E5.ex hb2, rfl, _, _, rfl, _, _, rfl, rfl, _, _, rfl, rfl, ?_⟩⟩⟩
              exact q.run H0 B0 _ _ _ D ((((g.trans g2).trans g3).trans g4).trans gn) (((((E5.set r3).set r4).set r5).set r6).setO hb5 (fresh_back ((g.trans g2).trans g3).h hpn) o3' (noslot_fr (noslot_fr (noslot_fr (noslot_fr ns))))) L
end
end Z
set_option Elab.async false
set_option linter.all false
set_option maxRecDepth 100000
set_option maxHeartbeats 8000000
/-! the law's look at two kinds; the law's table of a sort -/
namespace E5
open PySem PySem.Spec PyProof.Rows L2 Y Z
open Evl (Ex st_of sq_of ex_l ex_t fresh_back sz_of sz_lt)
abbrev opsK (s : Srt) : List (Key × Dt) := s.ops.map fun o => ((.inr o.k, opD o) : Key × Dt)
theorem opsK_val {s : Srt} {k : Str} (h : k ∈ kindsS s) : valD (opsK s) (.inr k) = some (opD (opOf s k)) := by
  unfold valD
  rw [List.find?_map]
  have e : ((fun kv : Key × Dt => decide (kv.1 = .inr k)) ∘ fun o : Op => ((.inr o.k, opD o) : Key × Dt)) = fun o : Op => decide (o.k = k) := by
    funext o
    show decide ((Sum.inr o.k : Key) = .inr k) = decide (o.k = k)
    rw [decide_eq_decide]
    exact ⟨fun z => Sum.inr.inj z, fun z => by rw [z]⟩
  rw [e, (opOf_find h).1]; rfl
/-- the block of the if of a for that stands third, the if second in it -/
def appS : List Stmt → List Stmt
  | _ :: _ :: .For _ _ (_ :: .If _ b _ _ :: _) _ _ :: _ => b
  | _ => []
section
variable {P : Program} {w : World} {K : PySem.W.Frag} {mg : Str → Option Value} {base : Heap}
def dApart : List Dt → (Dt → Prop) → Prop := fun ds Q => ∃ (s : Srt) (k l : Str), ds = [srtD s, .str k, .str l] ∧ SrtOk s ∧ k ∈ kindsS s ∧ l ∈ kindsS s ∧ Q (.lst ((nI (apartK s k l)).map Dt.int))
theorem ownD_apart (D : Def K mg "_law_apart" sl_apart) (md : mg "dict" = none) (mr : mg "range" = none) : OwnD P w K mg base "_law_apart" ["_law_sort_here", "_law_one", "_law_other"] 1 dApart := by
  refine ownD D cl_apart (fun ds Q Q' k ⟨s, a, b, e, h1, h2, h3, h⟩ => ⟨s, a, b, e, h1, h2, h3, k _ h⟩) (fun ds Q ⟨s, a, b, e, _⟩ => by subst e; rfl) (fun _ _ _ _ _ _ us hl => match us, hl with | [_, _, _], _ => rfl) ?_
  rintro X ds Q ⟨f, cdv, A, outer, st, H, E, rfl⟩ hr ⟨s, k, l, rfl, hs, hk, hl, h⟩
  have nd := cl_apart.nd
  have hun := Nat.lt_of_le_of_lt (Nat.add_le_add_left (show 1 ≤ 64 by decide) _) hr.units
  have ohi := hs.ohi
  have hhi := hs.hi
  refine s_setO 3 (n_dictL rfl (by rfl) md <| .ofN <| n_lc (own := [("_law_item", 4)]) rfl nd (blkOk_by (N := nl_apart) (sc := defScope sl_apart) (by decide +kernel)) (gb_nm 4 (fun _ _ _ _ _ => pg_name (i := 4) nd rfl (Or.inl rfl))) (by simp) (i_tup <| d_ix <| d_nm 0 rfl <| d_int ⟨_, atI_1, ?_⟩)) nd
  dsimp only [tuQ]
  refine LcQ.map (fun d => match d with | .tup (x :: _) => .tup [x, d] | d => d) (by rw [List.length_map]; omega) (fun d hd => ?_) ⟨opsK s, ?_, ?_, ?_⟩
  · obtain ⟨o, ho, rfl⟩ := List.mem_map.mp hd
    exact ⟨_, rfl, fun s1 H' C' cl fp => d_tup <| l_cons <| d_ix <| d_nm 4 rfl <| d_int ⟨_, atI_0, l_cons <| d_nm 4 rfl <| l_nil ⟨two_le, rfl⟩⟩⟩
  · rw [List.map_map, List.map_map]; rfl
  · have e : (opsK s).map (·.1) = (s.ops.map (·.k)).map (Sum.inr : Str → Key) := by rw [List.map_map, List.map_map]; rfl
    rw [e]
    exact List.Pairwise.map _ (fun a b hab z => hab (Sum.inr.inj z)) hs.nodup
  refine s_freeze 3 rfl ?_
  have ha := hs.op hk
  have hb := hs.op hl
  unfold apartK at h
  generalize ea : opOf s k = a at h ha
  generalize eb : opOf s l = b at h hb
  refine s_tup22O 5 6 7 8 9 (d_tail <| d_dget hun <| d_nm 3 rfl <| d_nm 1 rfl ⟨_, _, rfl, opsK_val hk, _, rfl, d_tail <| d_dget hun <| d_nm 3 rfl <| d_nm 2 rfl ⟨_, _, rfl, opsK_val hl, _, rfl, n_lst <| l_nil ⟨Nat.zero_le _, _, _, _, _, rfl, rfl, ?_⟩⟩⟩) rfl nd
  rw [ea, eb]
  refine s_for PassesOwn.never rfl (g_nm 10 nd) <| i_rng (by rfl) mr <| d_ix <| d_nm 0 rfl <| d_int ⟨_, atI_0, ⟨by omega, by omega⟩, ?_⟩
  rw [Int.toNat_natCast]
  refine ⟨fun j ρ => ∃ (x4 x10 x11 x12 : Sl), ρ = [.fr (srtD s), .fr (.str k), .fr (.str l), .fr (.dic (opsK s)), x4, .fr (tkD a.mv), .fr (anD a.an), .fr (tkD b.mv), .fr (anD b.an), .ow (.lst ((nI ((List.range j).filter fun t => !agreeB a b t)).map Dt.int)), x10, x11, x12], ⟨_, _, _, _, rfl⟩, ?_, ?_⟩
  · rintro j d ρ1 hd ⟨x4, x10, x11, x12, rfl⟩
    have hj := (List.getElem?_eq_some_iff.mp hd).1
    rw [rngD_len] at hj
    obtain rfl : d = .int (j : Int) := by
      rw [rngD_nI, tk_at (by rw [List.length_range]; exact hj)] at hd
      rw [← Option.some.inj hd, List.getD_eq_getElem?_getD, List.getElem?_range hj]; rfl
    have la : j < a.mv.length := by rw [ha.len]; exact hj
    have lb : j < b.mv.length := by rw [hb.len]; exact hj
    have lab : b.mv.getD j 0 < a.mv.length := by rw [ha.len]; exact hb.lt hj
    have lba : a.mv.getD j 0 < b.mv.length := by rw [hb.len]; exact ha.lt hj
    have na : j < a.an.length := by rw [ha.an]; exact hj
    have nb : j < b.an.length := by rw [hb.an]; exact hj
    have nab : b.mv.getD j 0 < a.an.length := by rw [ha.an]; exact hb.lt hj
    have nba : a.mv.getD j 0 < b.an.length := by rw [hb.an]; exact ha.lt hj
    refine ⟨_, rfl, s_par 11 12 (l_cons <| d_ix <| d_nm 5 rfl <| d_nm 10 rfl ⟨_, tk_ix la, l_cons <| d_ix <| d_nm 7 rfl <| d_nm 10 rfl ⟨_, tk_ix lb, l_nil ⟨_, _, rfl, ?_⟩⟩⟩) rfl nd (by decide)⟩
    have eI : decide (((b.mv.getD (a.mv.getD j 0) 0 : Nat) : Int) = ((a.mv.getD (b.mv.getD j 0) 0 : Nat) : Int)) = decide (b.mv.getD (a.mv.getD j 0) 0 = a.mv.getD (b.mv.getD j 0) 0) := by
      rw [decide_eq_decide]; omega
    have tt : agreeB a b j = (decide (b.mv.getD (a.mv.getD j 0) 0 = a.mv.getD (b.mv.getD j 0) 0) && (decide (a.an.getD j 0 = a.an.getD (b.mv.getD j 0) 0) && decide (b.an.getD j 0 = b.an.getD (a.mv.getD j 0) 0))) := rfl
    have yes : agreeB a b j = false → (List.range (j + 1)).filter (fun t => !agreeB a b t) = (List.range j).filter (fun t => !agreeB a b t) ++ [j] := fun z => by
      rw [List.range_succ, List.filter_append, List.filter_cons_of_pos (p := fun t => !agreeB a b t) (by rw [z]; rfl)]; rfl
    have no : agreeB a b j = true → (List.range (j + 1)).filter (fun t => !agreeB a b t) = (List.range j).filter (fun t => !agreeB a b t) := fun z => by
      rw [List.range_succ, List.filter_append, List.filter_cons_of_neg (p := fun t => !agreeB a b t) (by rw [z]; decide)]
      simp
    have fl : ((List.range j).filter fun t => !agreeB a b t).length < 100000 := by
      have := List.length_filter_le (fun t => !agreeB a b t) (List.range j)
      rw [List.length_range] at this
      omega
    have app : ∀ (x9 : DEnds), agreeB a b j = false → x9.nx [.fr (srtD s), .fr (.str k), .fr (.str l), .fr (.dic (opsK s)), x4, .fr (tkD a.mv), .fr (anD a.an), .fr (tkD b.mv), .fr (anD b.an), .ow (.lst ((nI ((List.range (j + 1)).filter fun t => !agreeB a b t)).map Dt.int)), .fr (.int (j : Int)), .fr (.int ((a.mv.getD j 0 : Nat) : Int)), .fr (.int ((b.mv.getD j 0 : Nat) : Int))] →
        DS (cxOf CX0 P w K mg base nl_apart "_law_apart" (defScope sl_apart) f cdv A outer st H E).nox [.fr (srtD s), .fr (.str k), .fr (.str l), .fr (.dic (opsK s)), x4, .fr (tkD a.mv), .fr (anD a.an), .fr (tkD b.mv), .fr (anD b.an), .ow (.lst ((nI ((List.range j).filter fun t => !agreeB a b t)).map Dt.int)), .fr (.int (j : Int)), .fr (.int ((a.mv.getD j 0 : Nat) : Int)), .fr (.int ((b.mv.getD j 0 : Nat) : Int))] (appS (defBody sl_apart)) x9 := fun x9 z hE => by
      refine s_append 9 rfl <| d_nm 10 rfl ⟨by rw [List.length_map, nI_len]; exact fl, s_nil ?_⟩
      rw [yes z] at hE
      unfold nI at hE ⊢
      rw [List.map_append, List.map_append] at hE
      exact hE
    refine s_when <| DW.dt <| w_or <| t_ne hr.units <| .of <| d_ix <| d_nm 7 rfl <| d_nm 11 rfl ⟨_, tk_ix lba, .of <| d_ix <| d_nm 5 rfl <| d_nm 12 rfl ⟨_, tk_ix lab, ?_⟩⟩
    show _ ∧ _
    rw [eI]
    cases z1 : decide (b.mv.getD (a.mv.getD j 0) 0 = a.mv.getD (b.mv.getD j 0) 0) with
    | false =>
      rw [z1] at tt
      exact ⟨fun _ => two_t (app _ tt (s_nil ⟨_, _, _, _, rfl⟩)), nofun⟩
    | true =>
      rw [z1, Bool.true_and] at tt
      refine ⟨nofun, fun _ => w_or <| t_ne hr.units <| .of <| d_ix <| d_nm 6 rfl <| d_nm 10 rfl ⟨_, an_ix na, .of <| d_ix <| d_nm 6 rfl <| d_nm 12 rfl ⟨_, an_ix nab, ?_⟩⟩⟩
      show _ ∧ _
      cases z2 : decide (a.an.getD j 0 = a.an.getD (b.mv.getD j 0) 0) with
      | false =>
        rw [z2] at tt
        exact ⟨fun _ => two_t (app _ tt (s_nil ⟨_, _, _, _, rfl⟩)), nofun⟩
      | true =>
        rw [z2, Bool.true_and] at tt
        refine ⟨nofun, fun _ => w_or1 <| t_ne hr.units <| .of <| d_ix <| d_nm 8 rfl <| d_nm 10 rfl ⟨_, an_ix nb, .of <| d_ix <| d_nm 8 rfl <| d_nm 11 rfl ⟨_, an_ix nba, ?_⟩⟩⟩
        show _ ∧ _
        cases z3 : decide (b.an.getD j 0 = b.an.getD (a.mv.getD j 0) 0) with
        | false =>
          rw [z3] at tt
          exact two_t (app _ tt (s_nil ⟨_, _, _, _, rfl⟩))
        | true =>
          rw [z3] at tt
          refine two_f <| s_nil ⟨x4, .fr (.int (j : Int)), .fr (.int ((a.mv.getD j 0 : Nat) : Int)), .fr (.int ((b.mv.getD j 0 : Nat) : Int)), ?_⟩
          rw [no tt]; rfl
  · rintro ρ1 ⟨x4, x10, x11, x12, rfl⟩
    rw [rngD_len]
    exact s_freeze 9 rfl <| s_ret <| d_nm 9 rfl h
end
end E5
set_option Elab.async false
set_option linter.all false
set_option maxRecDepth 100000
set_option maxHeartbeats 8000000
/-! the law's table of a sort -/
namespace E5
open PySem PySem.Spec PyProof.Rows L2 Y Z
open Evl (Ex st_of sq_of ex_l ex_t fresh_back sz_of sz_lt)
theorem drop_asc : ∀ {ks : List Str} {j : Nat} {a : Str}, (ks.Pairwise fun a b => Z.ltB a b = true) → ks[j]? = some a → (ks.filter fun b => !Z.ltB b a) = ks.drop j
  | [], _, _, _, h => by simp at h
  | k :: r, 0, a, pw, h => by
    obtain rfl : k = a := by simpa using h
    obtain ⟨h1, h2⟩ := List.pairwise_cons.mp pw
    refine List.filter_eq_self.mpr fun x hx => ?_
    rcases List.mem_cons.mp hx with rfl | hx
    · have : Z.ltB x x = false := by
        cases z : Z.ltB x x with
        | false => rfl
        | true => exact absurd (ltB_lt.mp z) (List.lt_irrefl _)
      rw [this]; rfl
    · rw [ltB_asymm (h1 x hx)]; rfl
  | k :: r, j + 1, a, pw, h => by
    obtain ⟨h1, h2⟩ := List.pairwise_cons.mp pw
    have h : r[j]? = some a := by simpa using h
    rw [List.filter_cons_of_neg (p := fun b => !Z.ltB b a) (by rw [h1 a (List.mem_of_getElem? h)]; decide), List.drop_succ_cons]
    exact drop_asc h2 h
/-- the conflicts of the first kinds -/
def confT (s : Srt) (j : Nat) : List (Str × Str) := ((kindsS s).take j).flatMap fun a => (((kindsS s).filter fun b => !Z.ltB b a).filter fun b => !(apartK s a b).isEmpty).map fun b => (a, b)
theorem confT_all (s : Srt) : confT s (kindsS s).length = confS s := by
  unfold confT confS prsK
  rw [List.take_length, List.filter_flatMap]
  refine congrArg (fun f => List.flatMap f (kindsS s)) (funext fun a => ?_)
  rw [List.filter_map]; rfl
theorem confT_succ {s : Srt} (hs : SrtOk s) {j : Nat} {a : Str} (h : (kindsS s)[j]? = some a) : confT s (j + 1) = confT s j ++ (((kindsS s).drop j).filter fun b => !(apartK s a b).isEmpty).map fun b => (a, b) := by
  unfold confT
  rw [List.take_add_one, h]
  show ((kindsS s).take j ++ [a]).flatMap _ = _
  rw [List.flatMap_append, List.flatMap_singleton, drop_asc (ks := kindsS s) hs.asc h]
theorem confT_len {s : Srt} {j : Nat} : (confT s j).length ≤ (kindsS s).length * (kindsS s).length := by
  have h : ∀ ks : List Str, (ks.flatMap fun a => (((kindsS s).filter fun b => !Z.ltB b a).filter fun b => !(apartK s a b).isEmpty).map fun b => (a, b)).length ≤ ks.length * (kindsS s).length := fun ks => by
    induction ks with
    | nil => simp
    | cons a r ih =>
      rw [List.flatMap_cons, List.length_append, List.length_map, List.length_cons, Nat.succ_mul]
      have h1 := List.length_filter_le (fun b => !(apartK s a b).isEmpty) ((kindsS s).filter fun b => !Z.ltB b a)
      have h2 := List.length_filter_le (fun b => !Z.ltB b a) (kindsS s)
      omega
  refine Nat.le_trans (h _) (Nat.mul_le_mul_right _ ?_)
  rw [List.length_take]; omega
section
variable {P : Program} {w : World} {K : PySem.W.Frag} {mg : Str → Option Value} {base : Heap}
theorem ownD_ltab (D : Def K mg "_law_table_of" sl_table_of) (me : mg "enumerate" = none) (mt : mg "tuple" = none) (OA : OwnD P w K mg base "_law_apart" ["_law_sort_here", "_law_one", "_law_other"] 1 dApart) : OwnD P w K mg base "_law_table_of" ["_law_sort_here"] 2 dTab := by
  refine ownD D cl_table_of (fun ds Q Q' k ⟨s, e, a, h⟩ => ⟨s, e, a, k _ h⟩) (fun ds Q ⟨s, e, _⟩ => by subst e; rfl) (fun _ _ _ _ _ _ us hl => match us, hl with | [_], _ => rfl) ?_
  rintro X ds Q ⟨f, cdv, A, outer, st, H, E, rfl⟩ hr ⟨s, rfl, hs, h⟩
  have nd := cl_table_of.nd
  have ohi := hs.ohi
  have hk8 := hs.few.1
  have cl : ∀ j, (confT s j).length ≤ 64 := fun j => Nat.le_trans confT_len (by have := Nat.mul_le_mul hk8 hk8; omega)
  refine s_setLc (own := [("_law_item", 2)]) 1 rfl nd (blkOk_by (N := nl_table_of) (sc := defScope sl_table_of) (by decide +kernel)) (gb_nm 2 (fun _ _ _ _ _ => pg_name (i := 2) nd rfl (Or.inl rfl))) (by simp) (i_tup <| d_ix <| d_nm 0 rfl <| d_int ⟨_, atI_1, ?_⟩)
  dsimp only [tuQ]
  refine LcQ.map (fun d => match d with | .tup (x :: _) => x | d => d) (by rw [List.length_map]; omega) (fun d hd => ?_) ?_
  · obtain ⟨o, ho, rfl⟩ := List.mem_map.mp hd
    exact ⟨_, rfl, fun s1 H' C' cl fp => d_ix <| d_nm 2 rfl <| d_int ⟨_, atI_0, rfl⟩⟩
  have e1 : (s.ops.map opD).map (fun d => match d with | .tup (x :: _) => x | d => d) = (kindsS s).map Dt.str := by
    unfold kindsS
    rw [List.map_map, List.map_map]; rfl
  refine (congrArg (fun z => DS _ (List.set _ 1 (.ow (.lst z))) _ _) e1).mpr ?_
  refine s_freeze 1 rfl ?_
  refine s_setO 3 (n_lst <| l_nil ⟨Nat.zero_le _, ?_⟩) nd
  refine s_for PassesOwn.never rfl (g_tup2 4 5 rfl nd) <| i_enumL (by rfl) me <| d_nm 1 rfl ?_
  dsimp only [lstQ]
  refine ⟨fun j ρ => ∃ x2 x4 x5 x6 : Sl, ρ = [.fr (srtD s), .fr (.lst ((kindsS s).map Dt.str)), x2, .ow (.lst ((confT s j).map pD)), x4, x5, x6], ⟨_, _, _, _, rfl⟩, ?_, ?_⟩
  · rintro j d ρ1 hd ⟨x2, x4, x5, x6, rfl⟩
    have hj := (List.getElem?_eq_some_iff.mp hd).1
    rw [enumD_len, List.length_map] at hj
    have hka : (kindsS s)[j]? = some (kindsS s)[j] := List.getElem?_eq_getElem hj
    generalize (kindsS s)[j] = a at hka
    have ham := List.mem_of_getElem? hka
    have := enumD_at (ds := (kindsS s).map Dt.str) (i := j) (d := .str a) (by rw [List.getElem?_map, hka]; rfl)
    rw [this] at hd
    obtain rfl := Option.some.inj hd
    refine ⟨_, rfl, ?_⟩
    refine s_extend 3 rfl (n_lct (own := [("_law_other", 6)]) rfl nd (blkOk_by (N := nl_table_of) (sc := defScope sl_table_of) (by decide +kernel)) (gb_nm 6 (fun _ _ _ _ _ => pg_name (i := 6) nd rfl (Or.inl rfl))) (by simp) (i_lst <| .ofN <| n_drL <| d_nm 1 rfl ⟨_, rfl, d_nm 4 rfl ⟨j, rfl, ?_⟩⟩))
    dsimp only [lstQ]
    rw [← List.map_drop]
    refine LcQ.filt (fun d => !(apartK s a (strOf d)).isEmpty) (fun d => .tup [.str a, d]) (by rw [List.length_map, List.length_drop]; omega) (fun d hd => ?_) ?_
    · obtain ⟨b, hb, rfl⟩ := List.mem_map.mp hd
      have hbm := List.mem_of_mem_drop hb
      refine ⟨_, rfl, fun s1 H' C' cl fp => t_ne hr.units <| .of <| d_own OA (hr.mono (by decide)) (by rfl) <| l_cons <| d_nm 0 rfl <| l_cons <| d_nm 5 rfl <| l_cons <| d_nm 6 rfl <| l_nil ⟨s, a, b, rfl, hs, ham, hbm, .ofN <| n_lst <| l_nil ⟨Nat.zero_le _, eqQ_intsL (v := []) ?_⟩⟩, fun _ s1 H' C' cl fp => d_tup <| l_cons <| d_nm 5 rfl <| l_cons <| d_nm 6 rfl <| l_nil ⟨two_le, rfl⟩⟩
      show (!decide (nI (apartK s a b) = [])) = !(apartK s a b).isEmpty
      cases apartK s a b <;> rfl
    · have e2 : (((kindsS s).drop j).map Dt.str).filter (fun d => !(apartK s a (strOf d)).isEmpty) = (((kindsS s).drop j).filter fun b => !(apartK s a b).isEmpty).map Dt.str := by
        rw [List.filter_map]; rfl
      refine ⟨_, rfl, ?_, s_nil ⟨x2, .fr (.int (j : Int)), .fr (.str a), x6, ?_⟩⟩
      · rw [List.length_map, List.length_map, e2, List.length_map]
        have h1 := List.length_filter_le (fun b => !(apartK s a b).isEmpty) ((kindsS s).drop j)
        rw [List.length_drop] at h1
        have h2 := cl j
        omega
      · rw [e2, confT_succ hs hka, List.map_append, List.map_map, List.map_map]; rfl
  · rintro ρ1 ⟨x2, x4, x5, x6, rfl⟩
    rw [enumD_len, List.length_map, confT_all]
    exact s_freeze 3 rfl <| s_ret <| d_tup <| l_cons <| d_tuple (by rfl) mt <| d_nm 1 rfl <| l_cons <| d_tuple (by rfl) mt <| d_nm 3 rfl <| l_nil ⟨two_le, h⟩
end
end E5
set_option Elab.async false
set_option linter.all false
set_option maxRecDepth 100000
set_option maxHeartbeats 8000000
/-! the law's numbers, the law's look at certificates, certificates bent -/
namespace E5
open PySem PySem.Spec PyProof.Rows L2 Y Z
open Evl (Ex st_of sq_of ex_l ex_t fresh_back sz_of sz_lt)
def isNatD : Dt → Bool
  | .int n => decide (0 ≤ n)
  | _ => false
/-- values in a small frame -/
structure V1 (d : Dt) : Prop where
  g : gd d = true
  n : noK d = true
  p : dpt d ≤ 1
structure V2 (d : Dt) : Prop where
  g : gd d = true
  n : noK d = true
  p : dpt d ≤ 2
theorem V1.v2 {d : Dt} (h : V1 d) : V2 d := ⟨h.g, h.n, Nat.le_trans h.p (by decide)⟩
theorem dptL_le {ds : List Dt} {n : Nat} (h : ∀ d ∈ ds, dpt d ≤ n) : dptL ds ≤ n := dptL_iff.mpr h
theorem V2.tup {xs : List Dt} (h : ∀ x ∈ xs, V1 x) : V2 (.tup xs) :=
  ⟨by simp only [gd]; exact gdL_iff.mpr fun x hx => (h x hx).g, by simp only [noK]; exact noKL_iff.mpr fun x hx => (h x hx).n, by
    simp only [dpt]
    have := dptL_le fun x hx => (h x hx).p
    omega⟩
theorem V2.lst {xs : List Dt} (h : ∀ x ∈ xs, V1 x) : V2 (.lst xs) :=
  ⟨by simp only [gd]; exact gdL_iff.mpr fun x hx => (h x hx).g, by simp only [noK]; exact noKL_iff.mpr fun x hx => (h x hx).n, by
    simp only [dpt]
    have := dptL_le fun x hx => (h x hx).p
    omega⟩
/-- parts of certificates -/
def Lf (d : Dt) : Prop := (∃ s, d = .str s ∧ leafS s = true) ∨ ∃ n : Nat, d = .int (n : Int) ∧ n ≤ 12
theorem int_leaf {n : Int} (h : n.natAbs ≤ 1000) : leafI n = true := by
  unfold leafI
  exact decide_eq_true (Nat.lt_of_le_of_lt h (by decide +kernel))
theorem Lf.v1 {d : Dt} (h : Lf d) : V1 d := by
  rcases h with ⟨s, rfl, hs⟩ | ⟨n, rfl, hn⟩
  · exact ⟨hs, rfl, Nat.zero_le _⟩
  · exact ⟨int_leaf (by omega), rfl, Nat.zero_le _⟩
theorem v1_bl (b : Bool) : V1 (.bl b) := ⟨rfl, rfl, Nat.zero_le _⟩
section
variable {P : Program} {w : World} {K : PySem.W.Frag} {mg : Str → Option Value} {base : Heap}
theorem ownD_lisint (D : Def K mg "_law_is_integer" sl_is_integer) (B : Blt mg) : OwnD P w K mg base "_law_is_integer" ["_law_thing"] 1 dIsInt := by
  refine ownD D cl_is_integer (fun ds Q Q' k ⟨d, e, p, q⟩ => ⟨d, e, p, k _ q⟩) (fun ds Q ⟨d, e, _⟩ => by subst e; rfl) (fun _ _ _ _ _ _ us hl => match us, hl with | [_], _ => rfl) ?_
  rintro X ds Q ⟨f, cdv, A, outer, s, H, E, rfl⟩ hr ⟨d, rfl, hp, q⟩
  refine s_ret (d_and (d_isi (T := "int") (by rfl) B.isi (by rfl) B.int (by decide +kernel) (.of (d_nm 0 rfl ⟨hp, ?_⟩))))
  cases d with
  | int n => exact ⟨true, kb_int_int, two_t (d_not (d_isi (T := "bool") (by rfl) B.isi (by rfl) B.bool (by decide +kernel) (.of (d_nm 0 rfl ⟨hp, false, kb_int_bool, q⟩))))⟩
  | bl b => exact ⟨true, kb_bool_int, two_t (d_not (d_isi (T := "bool") (by rfl) B.isi (by rfl) B.bool (by decide +kernel) (.of (d_nm 0 rfl ⟨hp, true, kb_bool_bool, q⟩))))⟩
  | non => exact ⟨false, kb_NoneType_int, two_f q⟩
  | str _ => exact ⟨false, kb_str_int, two_f q⟩
  | tup _ => exact ⟨false, kb_tuple_int, two_f q⟩
  | lst _ => exact ⟨false, kb_list_int, two_f q⟩
  | dic _ => exact ⟨false, kb_dict_int, two_f q⟩
  | tz _ => exact ⟨false, kb_tuple_int, two_f q⟩
  | _ => cases hp
def dIsNum : List Dt → (Dt → Prop) → Prop := fun ds Q => ∃ d, ds = [d] ∧ plainD d = true ∧ Q (.bl (isNatD d))
theorem ownD_lisnum (D : Def K mg "_law_is_number" sl_is_number) (O : OwnD P w K mg base "_law_is_integer" ["_law_thing"] 1 dIsInt) : OwnD P w K mg base "_law_is_number" ["_law_thing"] 2 dIsNum := by
  refine ownD D cl_is_number (fun ds Q Q' k ⟨d, e, p, q⟩ => ⟨d, e, p, k _ q⟩) (fun ds Q ⟨d, e, _⟩ => by subst e; rfl) (fun _ _ _ _ _ _ us hl => match us, hl with | [_], _ => rfl) ?_
  rintro X ds Q ⟨f, cdv, A, outer, s, H, E, rfl⟩ hr ⟨d, rfl, hp, q⟩
  refine s_ret <| d_and <| d_own O (hr.mono (by decide)) (by rfl) <| l_cons <| d_nm 0 rfl <| l_nil ⟨d, rfl, hp, ?_⟩
  by_cases z : ∃ n, d = .int n
  case neg =>
    have e1 : isIntD d = false := by cases d <;> first | rfl | exact absurd ⟨_, rfl⟩ z
    have e2 : isNatD d = false := by cases d <;> first | rfl | exact absurd ⟨_, rfl⟩ z
    rw [e1]
    rw [e2] at q
    exact two_f q
  obtain ⟨n, rfl⟩ := z
  exact two_t <| d_ge <| .of <| d_nm 0 rfl <| .of <| d_int q
def dLRight : List Dt → (Dt → Prop) → Prop := fun ds Q => ∃ (ap : List Nat) (d : Dt), ds = [.lst ((nI ap).map Dt.int), d] ∧ gd d = true ∧ noK d = true ∧ dpt d ≤ 60 ∧ Q (.bl (rightB ap d))
theorem ownD_lright (D : Def K mg "_law_is_right" sl_is_right) (B : Blt mg) (ON : OwnD P w K mg base "_law_is_number" ["_law_thing"] 2 dIsNum) : OwnD P w K mg base "_law_is_right" ["_law_apart_here", "_law_thing"] 3 dLRight := by
  refine ownD D cl_is_right (fun ds Q Q' k ⟨ap, d, e, h1, h2, h3, h⟩ => ⟨ap, d, e, h1, h2, h3, k _ h⟩) (fun ds Q ⟨ap, d, e, _⟩ => by subst e; rfl) (fun _ _ _ _ _ _ us hl => match us, hl with | [_, _], _ => rfl) ?_
  rintro X ds Q ⟨f, cdv, A, outer, st, H, E, rfl⟩ hr ⟨ap, d, rfl, hg, hn, hd, h⟩
  have nd := cl_is_right.nd
  have pl := gd_plain hg
  by_cases z : ∃ xs, d = .tup xs
  case neg =>
    have ek : kTup d = false := by cases d <;> first | rfl | exact absurd ⟨_, rfl⟩ z | (simp [gd] at hg)
    have eb : rightB ap d = false := by cases d <;> first | rfl | exact absurd ⟨_, rfl⟩ z
    rw [eb] at h
    refine s_when <| DW.dt <| w_or <| t_not <| t_v <| .of <| d_kTup B.isi B.tuple (by rfl) (by rfl) <| d_nm 1 rfl ⟨pl, ?_⟩
    rw [ek]
    exact two_t <| two_t <| s_ret <| d_bl h
  obtain ⟨xs, rfl⟩ := z
  have hx : ∀ x ∈ xs, gd x = true := gdL_iff.mp (by simpa only [gd] using hg)
  refine s_when <| DW.dt <| w_or <| t_not <| t_v <| .of <| d_kTup B.isi B.tuple (by rfl) (by rfl) <| d_nm 1 rfl ⟨pl, two_f <| w_or <| t_eqT0 hr.units <| .of <| d_nm 1 rfl <| .of <| d_tup <| l_nil ⟨Nat.zero_le _, xs, rfl, rfl, ?_⟩⟩
  cases xs with
  | nil => exact two_t <| two_t <| s_ret <| d_bl h
  | cons a r =>
    have pa := gd_plain (hx a (by simp))
    refine two_f <| w_or1 <| t_not <| t_v <| .of <| d_kStr B.isi B.str (by rfl) (by rfl) <| d_ix <| d_nm 1 rfl <| d_int ⟨_, atI_0, pa, ?_⟩
    by_cases zs : ∃ s, a = .str s
    case neg =>
      have ek : kStr a = false := by
        have := hx a (by simp)
        cases a <;> first | rfl | exact absurd ⟨_, rfl⟩ zs | (simp [gd] at this)
      have eb : rightB ap (.tup (a :: r)) = false := by
        unfold rightB
        split
        · rename_i e; cases e; exact absurd ⟨_, rfl⟩ zs
        · rename_i e; cases e; exact absurd ⟨_, rfl⟩ zs
        · rfl
      rw [eb] at h
      rw [ek]
      exact two_t <| s_ret <| d_bl h
    obtain ⟨s, rfl⟩ := zs
    refine two_f <| s_when <| t_eq hr.units <| .of <| d_ix <| d_nm 1 rfl <| d_int ⟨_, atI_0, .of <| d_str ?_⟩
    show _ ∧ _
    cases zc : decide (s = commS) with
    | true =>
      refine two_t <| s_ret <| d_and <| d_eq hr.units <| .of <| d_len (by rfl) B.len <| .of <| d_nm 1 rfl <| .of <| d_int ?_
      show _ ∧ _
      obtain rfl : s = commS := of_decide_eq_true zc
      cases r with
      | nil =>
        rw [decide_eq_true (show (([Dt.str commS].length : Nat) : Int) = 1 from rfl)]
        refine two_t <| d_eq hr.units <| .of <| d_nm 0 rfl <| .ofN <| n_lst <| l_nil ⟨Nat.zero_le _, eqQ_intsL (v := []) ?_⟩
        have eb : rightB ap (.tup [.str commS]) = ap.isEmpty := rfl
        rw [eb] at h
        have e2 : (id (decide (nI ap = []))) = ap.isEmpty := by cases ap <;> rfl
        show Q (.bl (id (decide (nI ap = []))))
        rw [e2]; exact h
      | cons b r2 =>
        rw [decide_eq_false (show ¬ (((Dt.str commS :: b :: r2).length : Nat) : Int) = 1 by simp only [List.length_cons]; omega)]
        have eb : rightB ap (.tup (.str commS :: b :: r2)) = false := by
          unfold rightB
          split
          · rename_i e; cases e
          · rename_i e; cases e; rfl
          · rfl
        rw [eb] at h
        exact ⟨nofun, fun _ => h⟩
    | false =>
      refine two_f <| s_ret <| d_andN <| d_eq hr.units <| .of <| d_ix <| d_nm 1 rfl <| d_int ⟨_, atI_0, .of <| d_str ?_⟩
      show _ ∧ _
      cases zs2 : decide (s = stateS) with
      | false =>
        have eb : rightB ap (.tup (.str s :: r)) = false := by
          unfold rightB
          split
          · rename_i e; cases e; rw [zc]; rfl
          · rename_i e; cases e; rw [zs2]; rfl
          · rfl
        rw [eb] at h
        exact ⟨nofun, fun _ => h⟩
      | true =>
        obtain rfl : s = stateS := of_decide_eq_true zs2
        refine two_t <| d_andN <| d_eq hr.units <| .of <| d_len (by rfl) B.len <| .of <| d_nm 1 rfl <| .of <| d_int ?_
        show _ ∧ _
        by_cases hl2 : r.length = 1
        case neg =>
          rw [decide_eq_false (show ¬ (((Dt.str stateS :: r).length : Nat) : Int) = 2 by rw [List.length_cons]; omega)]
          have eb : rightB ap (.tup (.str stateS :: r)) = false := by
            unfold rightB
            split
            · rename_i e; cases e; rfl
            · rename_i e; cases e; exact absurd rfl hl2
            · rfl
          rw [eb] at h
          exact ⟨nofun, fun _ => h⟩
        rw [decide_eq_true (show (((Dt.str stateS :: r).length : Nat) : Int) = 2 by rw [List.length_cons]; omega)]
        obtain ⟨b, rfl⟩ : ∃ b, r = [b] := by
          match r, hl2 with
          | [b], _ => exact ⟨b, rfl⟩
        have pb := gd_plain (hx b (by simp))
        refine two_t <| d_andN <| d_own ON (hr.mono (by decide)) (by rfl) <| l_cons <| d_ix <| d_nm 1 rfl <| d_int ⟨_, atI_1, l_nil ⟨b, rfl, pb, ?_⟩⟩
        show _ ∧ _
        by_cases z3 : ∃ n, b = .int n
        case neg =>
          have ei : isNatD b = false := by cases b <;> first | rfl | exact absurd ⟨_, rfl⟩ z3
          have eb : rightB ap (.tup [.str stateS, b]) = false := by cases b <;> first | rfl | exact absurd ⟨_, rfl⟩ z3
          rw [ei]
          rw [eb] at h
          exact ⟨nofun, fun _ => h⟩
        obtain ⟨n, rfl⟩ := z3
        have eb : rightB ap (.tup [.str stateS, .int n]) = (nI ap).any fun a => decide (a = n) := by
          show (decide (stateS = stateS) && _) = _
          rw [decide_eq_true rfl]
          exact Bool.true_and _
        rw [eb] at h
        by_cases hn0 : 0 ≤ n
        · have ei : isNatD (.int n) = true := decide_eq_true hn0
          rw [ei]
          refine two_t <| d_one <| d_in <| .of <| d_ix <| d_nm 1 rfl <| d_int ⟨_, atI_1, .of <| d_nm 0 rfl ⟨⟨rfl, ?_⟩, ?_⟩⟩
          · exact List.all_eq_true.mpr fun d hd => by obtain ⟨x, _, rfl⟩ := mem_tk hd; rfl
          · have e : inD (.int n) ((nI ap).map Dt.int) = (nI ap).any fun a => decide (a = n) := by
              unfold inD
              rw [List.any_map]; rfl
            show Q (.bl (inD (.int n) ((nI ap).map Dt.int)))
            rw [e]; exact h
        · have ei : isNatD (.int n) = false := decide_eq_false hn0
          rw [ei]
          have e : ((nI ap).any fun a => decide (a = n)) = false := by
            refine List.any_eq_false.mpr fun a ha => ?_
            unfold nI at ha
            obtain ⟨x, _, rfl⟩ := List.mem_map.mp ha
            simp only [decide_eq_true_eq]
            omega
          rw [e] at h
          exact ⟨nofun, fun _ => h⟩
end
end E5
set_option Elab.async false
set_option linter.all false
set_option maxRecDepth 100000
set_option maxHeartbeats 8000000
/-! certificates bent -/
namespace E5
open PySem PySem.Spec PyProof.Rows L2 Y Z
open Evl (Ex st_of sq_of ex_l ex_t fresh_back sz_of sz_lt)
/-- the else of what the first block gives back -/
def pickE : List Stmt → Expr
  | .If _ (.Return (some (.IfExp _ _ b _)) _ :: _) _ _ :: _ => b
  | _ => .Constant .none 0 default
section
variable {P : Program} {w : World} {K : PySem.W.Frag} {mg : Str → Option Value} {base : Heap}
def OsOk (os : List Dt) : Prop := 1 ≤ os.length ∧ os.length < 1000 ∧ ∀ o ∈ os, V1 o
def dBentL (P : Program) (w : World) : List Dt → (Dt → Prop) → Prop := fun ds Q => ∃ (dk lf : Addr) (d : Dt) (os : List Dt), ds = [deckD P w dk lf, d, .lst os] ∧ Lf d ∧ OsOk os ∧ ∀ r, V1 r → Q r
theorem ownD_bentL (D : Def K mg "_law_bent" sl_bent) (B : Blt mg) (OD : OwnD P w K mg base "_law_draw" psDraw 1 (dDraw P w)) (OP : OwnD P w K mg base "_law_pick" psPick 2 (dPick P w)) : OwnD P w K mg base "_law_bent" ["_law_deck_here", "_law_thing", "_law_odd"] 3 (dBentL P w) := by
  refine ownD D cl_bent (fun ds Q Q' k ⟨dk, lf, d, os, e, h1, h2, h⟩ => ⟨dk, lf, d, os, e, h1, h2, fun r x => k _ (h r x)⟩) (fun ds Q ⟨dk, lf, d, os, e, _⟩ => by subst e; rfl) (fun _ _ _ _ _ _ us hl => match us, hl with | [_, _, _], _ => rfl) ?_
  rintro X ds Q ⟨f, cdv, A, outer, st, H, E, rfl⟩ hr ⟨dk, lf, d, os, rfl, hL, ⟨o1, o2, o3⟩, h⟩
  have nd := cl_bent.nd
  have pk : ∀ ρ : List Sl, ρ[0]? = some (.fr (deckD P w dk lf)) → ρ[2]? = some (.fr (.lst os)) → DE (cxOf CX0 P w K mg base nl_bent "_law_bent" (defScope sl_bent) f cdv A outer st H E).nox ρ (pickE (defBody sl_bent)) Q := fun ρ e0 e2 =>
    d_own OP (hr.mono (by decide)) (by rfl) <| l_cons <| d_nm 0 e0 <| l_cons <| d_nm 2 e2 <| l_nil ⟨dk, lf, _, rfl, .inl ⟨os, rfl, o1, by omega, fun d hd => h d (o3 d hd)⟩⟩
  refine s_when <| DW.dt <| w_or <| t_not <| t_v <| .of <| d_kTup B.isi B.tuple (by rfl) (by rfl) <| d_nm 1 rfl ⟨gd_plain hL.v1.g, ?_⟩
  rcases hL with ⟨s, rfl, hs⟩ | ⟨n, rfl, hn⟩
  · refine two_t <| two_t <| s_ret <| d_if <| t_and <| t_in <| .of <| d_nm 1 rfl <| .of <| d_tup <| l_cons <| d_int <| l_cons <| d_int <| l_nil ⟨two_le, ⟨rfl, rfl⟩, ?_⟩
    exact two_f <| two_f <| pk _ rfl rfl
  · refine two_t <| two_t <| s_ret <| d_if <| t_and <| t_in <| .of <| d_nm 1 rfl <| .of <| d_tup <| l_cons <| d_int <| l_cons <| d_int <| l_nil ⟨two_le, ⟨rfl, rfl⟩, ?_⟩
    refine (show _ ∧ _ from ⟨fun _ => t_eq hr.units <| .of <| d_own OD (hr.mono (by decide)) (by rfl) <| l_cons <| d_nm 0 rfl <| l_cons <| d_int <| l_nil ⟨dk, lf, 2, rfl, by decide, by decide, fun r _ _ => .of <| d_int (show _ ∧ _ from ⟨fun _ => d_eq hr.units <| .of <| d_nm 1 rfl <| .of <| d_int (h _ (v1_bl _)), fun _ => pk _ rfl rfl⟩)⟩, fun _ => two_f <| pk _ rfl rfl⟩)
def dBentT (P : Program) (w : World) : List Dt → (Dt → Prop) → Prop := fun ds Q => ∃ (dk lf : Addr) (xs : List Dt) (os : List Dt), ds = [deckD P w dk lf, .tup xs, .lst os] ∧ (∀ x ∈ xs, Lf x) ∧ 1 ≤ xs.length ∧ xs.length ≤ 2 ∧ OsOk os ∧ ∀ r, V2 r → Q r
theorem ownD_bentT (D : Def K mg "_law_bent" sl_bent) (B : Blt mg) (ml : mg "list" = none) (OD : OwnD P w K mg base "_law_draw" psDraw 1 (dDraw P w)) (OP : OwnD P w K mg base "_law_pick" psPick 2 (dPick P w)) (OL : OwnD P w K mg base "_law_bent" ["_law_deck_here", "_law_thing", "_law_odd"] 3 (dBentL P w)) : OwnD P w K mg base "_law_bent" ["_law_deck_here", "_law_thing", "_law_odd"] 4 (dBentT P w) := by
  refine ownD D cl_bent (fun ds Q Q' k ⟨dk, lf, d, os, e, h1, h2, h3, h4, h⟩ => ⟨dk, lf, d, os, e, h1, h2, h3, h4, fun r x => k _ (h r x)⟩) (fun ds Q ⟨dk, lf, d, os, e, _⟩ => by subst e; rfl) (fun _ _ _ _ _ _ us hl => match us, hl with | [_, _, _], _ => rfl) ?_
  rintro X ds Q ⟨f, cdv, A, outer, st, H, E, rfl⟩ hr ⟨dk, lf, xs, os, rfl, hx, hl1, hl2, hO, h⟩
  obtain ⟨o1, o2, o3⟩ := hO
  have nd := cl_bent.nd
  have hv : ∀ x ∈ xs, V1 x := fun x m => (hx x m).v1
  have v0 : V2 (.tup xs) := V2.tup hv
  have ap : ∀ {u v : List Dt}, (∀ x ∈ u, V1 x) → (∀ x ∈ v, V1 x) → V2 (.tup (u ++ v)) := fun hu hv => V2.tup fun x m => (List.mem_append.mp m).elim (hu x) (hv x)
  have tk : ∀ n, ∀ x ∈ xs.take n, V1 x := fun n x m => hv x (List.mem_of_mem_take m)
  have dr : ∀ n, ∀ x ∈ xs.drop n, V1 x := fun n x m => hv x (List.mem_of_mem_drop m)
  have lt : ∀ n, (xs.take n).length ≤ 2 := fun n => by rw [List.length_take]; omega
  have ld : ∀ n, (xs.drop n).length ≤ 2 := fun n => by rw [List.length_drop]; omega
  have sz : ∀ {n : Nat}, n ≤ 10 → n ≤ sizeLine := fun hn => Nat.le_trans hn (by decide)
  refine s_when <| DW.dt <| w_or <| t_not <| t_v <| .of <| d_kTup B.isi B.tuple (by rfl) (by rfl) <| d_nm 1 rfl ⟨gd_plain v0.g, two_f <| w_or <| t_eqT0 hr.units <| .of <| d_nm 1 rfl <| .of <| d_tup <| l_nil ⟨Nat.zero_le _, xs, rfl, rfl, ?_⟩⟩
  have hne : xs.isEmpty = false := by cases xs with
    | nil => simp at hl1
    | cons _ _ => rfl
  rw [hne]
  refine two_f <| w_or1 <| t_eq hr.units <| .of <| d_own OD (hr.mono (by decide)) (by rfl) <| l_cons <| d_nm 0 rfl <| l_cons <| d_int <| l_nil ⟨dk, lf, 9, rfl, by decide, by decide, fun r _ _ => .of <| d_int (show _ ∧ _ from ⟨fun _ => ?_, fun _ => ?_⟩)⟩
  · refine s_ret <| d_if <| t_and <| t_inT (u65 (k := 3) hr.un) <| .of <| d_nm 1 rfl <| .of <| d_tup <| l_cons <| d_int <| l_cons <| d_int <| l_nil ⟨two_le, [.int 0, .int 1], rfl, ⟨(isP_of v0.g v0.n).1, by simp [isPL, isP], shaped_of v0.g v0.n (Nat.le_trans v0.p (by decide)), by decide +kernel⟩, ?_⟩
    have e : ((toPL [Dt.int 0, Dt.int 1]).any fun z => PyData.eqv z (toP (.tup xs))) = false := by
      rw [toP_tup]
      simp [toPL, toP, PyData.eqv]
    rw [e]
    exact two_f <| two_f <| d_own OP (hr.mono (by decide)) (by rfl) <| l_cons <| d_nm 0 rfl <| l_cons <| d_nm 2 rfl <| l_nil ⟨dk, lf, _, rfl, .inl ⟨os, rfl, o1, by omega, fun d hd => h d (o3 d hd).v2⟩⟩
  refine s_par 3 4 (l_cons <| d_own OD (hr.mono (by decide)) (by rfl) <| l_cons <| d_nm 0 rfl <| l_cons <| d_len (by rfl) B.len <| .of <| d_nm 1 rfl <| l_nil ⟨dk, lf, _, rfl, by omega, by omega, fun a a0 a1 => l_cons <| d_own OD (hr.mono (by decide)) (by rfl) <| l_cons <| d_nm 0 rfl <| l_cons <| d_int <| l_nil ⟨dk, lf, 10, rfl, by decide, by decide, fun wy _ _ => l_nil ⟨_, _, rfl, ?_⟩⟩⟩) rfl nd (by decide)
  obtain ⟨n, rfl⟩ : ∃ n : Nat, a = (n : Int) := ⟨a.toNat, by omega⟩
  have hn : n < xs.length := by omega
  refine s_when <| t_eq hr.units <| .of <| d_nm 4 rfl <| .of <| d_int (show _ ∧ _ from ⟨fun _ => ?_, fun _ => ?_⟩)
  · exact s_ret <| d_add <| d_tkT <| d_nm 1 rfl ⟨_, rfl, d_nm 3 rfl ⟨n, rfl, d_drT <| d_nm 1 rfl ⟨_, rfl, d_add <| d_nm 3 rfl <| d_int ⟨n + 1, rfl, sz (by have := lt n; have := ld (n + 1); omega), h _ (ap (tk n) (dr (n + 1)))⟩⟩⟩⟩
  refine s_when <| t_eq hr.units <| .of <| d_nm 4 rfl <| .of <| d_int (show _ ∧ _ from ⟨fun _ => ?_, fun _ => ?_⟩)
  · exact s_ret <| d_add <| d_tkT <| d_nm 1 rfl ⟨_, rfl, d_add <| d_nm 3 rfl <| d_int ⟨n + 1, rfl, d_drT <| d_nm 1 rfl ⟨_, rfl, d_nm 3 rfl ⟨n, rfl, sz (by have := lt (n + 1); have := ld n; omega), h _ (ap (tk (n + 1)) (dr n))⟩⟩⟩⟩
  refine s_when <| t_eq hr.units <| .of <| d_nm 4 rfl <| .of <| d_int (show _ ∧ _ from ⟨fun _ => ?_, fun _ => ?_⟩)
  · exact s_ret <| .ofN <| n_list (by rfl) ml <| d_nm 1 rfl ⟨xs, .inr rfl, h _ (V2.lst hv)⟩
  refine s_when <| t_eq hr.units <| .of <| d_nm 4 rfl <| .of <| d_int (show _ ∧ _ from ⟨fun _ => ?_, fun _ => ?_⟩)
  · exact s_ret <| d_add <| d_drT <| d_nm 1 rfl ⟨_, rfl, d_nm 3 rfl ⟨n, rfl, d_tkT <| d_nm 1 rfl ⟨_, rfl, d_nm 3 rfl ⟨n, rfl, sz (by have := lt n; have := ld n; omega), h _ (ap (dr n) (tk n))⟩⟩⟩⟩
  refine s_ret <| d_add <| d_add <| d_tkT <| d_nm 1 rfl ⟨_, rfl, d_nm 3 rfl ⟨n, rfl, d_tup <| l_cons <| d_own OL (hr.mono (by decide)) (by rfl) <| l_cons <| d_nm 0 rfl <| l_cons <| d_ix <| d_nm 1 rfl <| d_nm 3 rfl ⟨xs[n], atI_nat (List.getElem?_eq_getElem hn), l_cons <| d_nm 2 rfl <| l_nil ⟨dk, lf, _, os, rfl, hx _ (List.getElem_mem hn), ⟨o1, o2, o3⟩, fun b hb => l_nil ⟨by show 1 ≤ 100000; decide, sz (by have := lt n; simp only [List.length_cons, List.length_nil]; omega), d_drT <| d_nm 1 rfl ⟨_, rfl, d_add <| d_nm 3 rfl <| d_int ⟨n + 1, rfl, sz (by have := lt n; have := ld (n + 1); simp only [List.length_append, List.length_cons, List.length_nil]; omega), h _ (ap ?_ (dr (n + 1)))⟩⟩⟩⟩⟩⟩⟩
  intro x m
  rcases List.mem_append.mp m with m | m
  · exact tk n x m
  · rw [List.mem_singleton.mp m]; exact hb
end
end E5
set_option Elab.async false
set_option linter.all false
set_option maxRecDepth 100000
set_option maxHeartbeats 8000000
/-! the law -/
namespace E5
open PySem PySem.Spec PyProof.Rows L2 Y Z
open Evl (Ex st_of sq_of ex_l ex_t fresh_back sz_of sz_lt)
theorem rng_at {lo : Int} {n i : Nat} {d : Dt} (h : (rngD lo n)[i]? = some d) : d = .int (lo + (i : Int)) ∧ i < n := by
  have hi := (List.getElem?_eq_some_iff.mp h).1
  rw [rngD_len] at hi
  unfold rngD at h
  rw [List.getElem?_map, List.getElem?_range hi] at h
  exact ⟨(Option.some.inj h).symm, hi⟩
theorem ga_bl (b : Bool) : Ga (.bl b) := ⟨rfl, .inl rfl, Nat.zero_le _, by show 42 ≤ 16000000; decide⟩
theorem wtL_le {ds : List Dt} {n : Nat} (h : ∀ d ∈ ds, wt d ≤ n) : wtL ds ≤ ds.length * (n + 2) := by
  induction ds with
  | nil => simp [wtL]
  | cons d r ih =>
    have h1 := h d (by simp)
    have h2 := ih fun x hx => h x (List.mem_cons_of_mem _ hx)
    rw [List.length_cons, Nat.succ_mul]
    simp only [wtL]
    omega
theorem word_wt {s : Str} (h : isWordB (.str s) = true) : wt (.str s) ≤ 102 := by
  have h : (decide (1 ≤ s.length ∧ s.length ≤ 10) && s.cps.toList.all fun c => decide (c ∈ abcS.cps.toList)) = true := h
  rw [Bool.and_eq_true, decide_eq_true_eq] at h
  show 10 * s.length + 2 ≤ 102
  omega
theorem SrtOk.ga {s : Srt} (h : SrtOk s) : Ga (tabS s) := by
  have k1 : ∀ k ∈ kindsS s, V1 (.str k) := fun k hk => ⟨leaf_word (h.word hk), rfl, Nat.zero_le _⟩
  have kw : ∀ k ∈ kindsS s, wt (.str k) ≤ 102 := fun k hk => word_wt (h.word hk)
  have pm : ∀ p ∈ confS s, p.1 ∈ kindsS s ∧ p.2 ∈ kindsS s := fun p hp => ⟨(prs_mem (List.mem_filter.mp hp).1).1, (prs_mem (List.mem_filter.mp hp).1).2.1⟩
  have a : V2 (.tup ((kindsS s).map Dt.str)) := V2.tup fun x hx => by
    obtain ⟨k, hk, rfl⟩ := List.mem_map.mp hx
    exact k1 k hk
  have b : ∀ p ∈ confS s, V2 (pD p) := fun p hp => V2.tup fun x hx => by
    obtain ⟨h1, h2⟩ := pm p hp
    simp only [List.mem_cons, List.not_mem_nil, or_false] at hx
    rcases hx with rfl | rfl
    · exact k1 _ h1
    · exact k1 _ h2
  have hf := h.few
  have bg : gdL ((confS s).map pD) = true := gdL_iff.mpr fun d hd => by
    obtain ⟨p, hp, rfl⟩ := List.mem_map.mp hd
    exact (b p hp).g
  have bn : noKL ((confS s).map pD) = true := noKL_iff.mpr fun d hd => by
    obtain ⟨p, hp, rfl⟩ := List.mem_map.mp hd
    exact (b p hp).n
  have bp : dptL ((confS s).map pD) ≤ 2 := dptL_le fun d hd => by
    obtain ⟨p, hp, rfl⟩ := List.mem_map.mp hd
    exact (b p hp).p
  have w1 : wtL ((kindsS s).map Dt.str) ≤ 8 * 104 := by
    have := wtL_le (ds := (kindsS s).map Dt.str) (n := 102) fun d hd => by
      obtain ⟨k, hk, rfl⟩ := List.mem_map.mp hd
      exact kw k hk
    rw [List.length_map] at this
    exact Nat.le_trans this (Nat.mul_le_mul_right _ hf.1)
  have w2 : wtL ((confS s).map pD) ≤ 64 * 213 := by
    have := wtL_le (ds := (confS s).map pD) (n := 211) fun d hd => by
      obtain ⟨p, hp, rfl⟩ := List.mem_map.mp hd
      obtain ⟨h1, h2⟩ := pm p hp
      have := kw _ h1
      have := kw _ h2
      show wt (.str p.1) + 2 + (wt (.str p.2) + 2 + 0) + 3 ≤ 211
      omega
    rw [List.length_map] at this
    exact Nat.le_trans this (Nat.mul_le_mul_right _ hf.2)
  refine ⟨?_, .inr ?_, ?_, ?_⟩
  · have ag := a.g
    simp only [gd] at ag
    simp only [gd, gdL, ag, bg, Bool.and_self]
  · have an := a.n
    simp only [noK] at an
    simp only [noK, noKL, an, bn, Bool.and_self]
  · have ap := a.p
    simp only [dpt, dptL] at ap ⊢
    omega
  · simp only [wt, wtL]
    omega
theorem right_jud (ap : List Nat) : rightB ap (judD ap) = true := by
  cases ap with
  | nil => rfl
  | cons a r =>
    show (decide (stateS = stateS) && (nI (a :: r)).any fun x => decide (x = (a : Int))) = true
    rw [decide_eq_true rfl]
    show ((nI (a :: r)).any fun x => decide (x = (a : Int))) = true
    exact List.any_eq_true.mpr ⟨(a : Int), by unfold nI; simp, decide_eq_true rfl⟩
theorem jud_parts {n : Nat} {ap : List Nat} (h : ∀ a ∈ ap, a < n) (hn : n ≤ 12) : ∃ xs, judD ap = .tup xs ∧ (∀ x ∈ xs, Lf x) ∧ 1 ≤ xs.length ∧ xs.length ≤ 2 := by
  have c1 : Lf (.str commS) := .inl ⟨_, rfl, by decide +kernel⟩
  have c2 : Lf (.str stateS) := .inl ⟨_, rfl, by decide +kernel⟩
  cases ap with
  | nil => exact ⟨[.str commS], rfl, fun x hx => by rw [List.mem_singleton.mp hx]; exact c1, by decide, by decide⟩
  | cons a r =>
    refine ⟨[.str stateS, .int (a : Int)], rfl, fun x hx => ?_, by show 1 ≤ 2; decide, by show 2 ≤ 2; decide⟩
    simp only [List.mem_cons, List.not_mem_nil, or_false] at hx
    rcases hx with rfl | rfl
    · exact c2
    · exact .inr ⟨a, rfl, by have := h a (by simp); omega⟩
theorem apart_lt {s : Srt} {k l : Str} : ∀ a ∈ apartK s k l, a < s.n := fun a h => List.mem_range.mp (List.mem_filter.mp h).1
section
variable {P : Program} {w : World} {K : PySem.W.Frag} {mg : Str → Option Value} {base : Heap}
def dSame : List Dt → (Dt → Prop) → Prop := fun ds Q => ∃ a b, ds = [a, b] ∧ a = b ∧ Ga a ∧ Q (.bl true)
theorem ownG_same (D : Def K mg "_law_same" sl_same) (mrp : mg "repr" = none) : OwnDG P w K mg base "_law_same" ["_law_told", "_law_due"] 1 dSame := by
  refine ownDG D cl_same (fun ds Q Q' k ⟨a, b, e, h1, h2, h⟩ => ⟨a, b, e, h1, h2, k _ h⟩) (fun ds Q ⟨a, b, e, _⟩ => by subst e; rfl) (fun _ _ _ _ _ _ us hl => match us, hl with | [_, _], _ => rfl) ?_
  rintro X ds Q ⟨f, cdv, A, outer, s, H, E, rfl⟩ hgu hr ⟨a, b, rfl, rfl, ga, h⟩
  refine s_ret <| d_eq hr.units <| .of <| d_rpA hgu hr.units (by rfl) mrp <| d_nm 0 rfl ⟨ga, .of <| d_rpA hgu hr.units (by rfl) mrp <| d_nm 1 rfl ⟨ga, ?_⟩⟩
  show Q (.bl (id (decide ((toA a).shown = (toA a).shown))))
  rw [decide_eq_true rfl]; exact h
structure LawO (P : Program) (w : World) (K : PySem.W.Frag) (mg : Str → Option Value) (base : Heap) : Prop where
  deck : OwnD P w K mg base "_law_deck" ["_law_script"] 1 (dDealt P w)
  draw : OwnD P w K mg base "_law_draw" psDraw 1 (dDraw P w)
  pick : OwnD P w K mg base "_law_pick" psPick 2 (dPick P w)
  sort : OwnD P w K mg base "_law_sort" ["_law_deck_here", "_law_most"] 4 (dLSort P w)
  shuf : OwnD P w K mg base "_law_shuffled" ["_law_deck_here", "_law_some"] 2 (dShuf P w)
  bent : OwnD P w K mg base "_law_bent" ["_law_deck_here", "_law_thing", "_law_odd"] 4 (dBentT P w)
  tab : OwnD P w K mg base "table_of" ["sort"] 6 dTab ∧ OwnDK P w K mg base "table_of" ["sort"] ["sort"] [0] 6 dTab
  ltab : OwnD P w K mg base "_law_table_of" ["_law_sort_here"] 2 dTab
  ista : OwnD P w K mg base "is_table" ["thing"] 3 dTableA
  same : OwnDG P w K mg base "_law_same" ["_law_told", "_law_due"] 1 dSame
  apart : OwnD P w K mg base "_law_apart" ["_law_sort_here", "_law_one", "_law_other"] 1 dApart
  judge : OwnD P w K mg base "judge_pair" ["sort", "one", "other"] 7 dJudge ∧ OwnDK P w K mg base "judge_pair" ["sort", "one", "other"] ["other", "one", "sort"] [2, 1, 0] 7 dJudge
  right : OwnD P w K mg base "_law_is_right" ["_law_apart_here", "_law_thing"] 3 dLRight
  confl : OwnD P w K mg base "does_conflict" ["table", "one", "other"] 6 dConfl
  holds : OwnD P w K mg base "pair_holds" ["sort", "one", "other", "thing"] 7 dHolds
  range : mg "range" = none
  list : mg "list" = none
  str : mg "str" = none
theorem str_leaf : ∀ n : Nat, n ≤ 12 → leafS (Str.ofString (toString (n : Int))) = true := by
  intro n h
  have : n = 0 ∨ n = 1 ∨ n = 2 ∨ n = 3 ∨ n = 4 ∨ n = 5 ∨ n = 6 ∨ n = 7 ∨ n = 8 ∨ n = 9 ∨ n = 10 ∨ n = 11 ∨ n = 12 := by omega
  rcases this with rfl | rfl | rfl | rfl | rfl | rfl | rfl | rfl | rfl | rfl | rfl | rfl | rfl <;> decide +kernel
theorem v1_str {s : Str} (h : leafS s = true) : V1 (.str s) := ⟨h, rfl, Nat.zero_le _⟩
theorem v1_int {n : Int} (h : n.natAbs ≤ 1000) : V1 (.int n) := ⟨int_leaf h, rfl, Nat.zero_le _⟩
theorem v1_non : V1 .non := ⟨rfl, rfl, Nat.zero_le _⟩
theorem v2_1 {a : Dt} (h : V1 a) : V2 (.tup [a]) := V2.tup fun x hx => by rw [List.mem_singleton.mp hx]; exact h
theorem v2_2 {a b : Dt} (h : V1 a) (g : V1 b) : V2 (.tup [a, b]) := V2.tup fun x hx => by
  simp only [List.mem_cons, List.not_mem_nil, or_false] at hx
  rcases hx with rfl | rfl
  · exact h
  · exact g
theorem v2_3 {a b c : Dt} (h : V1 a) (g : V1 b) (i : V1 c) : V2 (.tup [a, b, c]) := V2.tup fun x hx => by
  simp only [List.mem_cons, List.not_mem_nil, or_false] at hx
  rcases hx with rfl | rfl | rfl
  · exact h
  · exact g
  · exact i
def lBod : List Stmt → List Stmt
  | _ :: r => lBod' r
  | [] => []
where lBod' : List Stmt → List Stmt
  | .For _ _ b _ _ :: _ => b
  | _ :: r => lBod' r
  | [] => []
theorem ok_law {lf : Addr} {fd : FuncData} (D : Fun K "law" "law" sp_law lf fd) (O : LawO P w K mg base) : FnG P w K mg base 10 lf fd ["_law_script"] (Z.spLaw K) := by
  refine law_D D cp_law ?_
  rintro X ns ⟨f, cdv, A0, outer, s0, H, E, rfl⟩ hgu hr hlen
  have nd := cp_law.nd
  refine s_set 1 (d_own O.deck (hr.mono (by decide)) (by rfl) <| l_cons <| d_nm 0 rfl <| l_nil ⟨ns, rfl, hlen, fun dk lf => ?_⟩) nd
  refine s_set 2 (d_own O.sort (hr.mono (by decide)) (by rfl) <| l_cons <| d_nm 1 rfl <| l_cons <| d_own O.pick (hr.mono (by decide)) (by rfl) <| l_cons <| d_nm 1 rfl <| l_cons <| .ofN <| n_lst <| l_cons <| d_int <| l_cons <| d_int <| l_cons <| d_int <| l_cons <| d_int <| l_nil ⟨by show 4 ≤ 100000; decide, l_nil ⟨dk, lf, _, rfl, .inl ⟨_, rfl, by show 1 ≤ 4; decide, by show 4 < 1000000; decide, fun d hd => ?_⟩⟩⟩) nd
  obtain ⟨p, rfl, hp1, hp2⟩ : ∃ p : Nat, d = .int (p : Int) ∧ 1 ≤ p ∧ p ≤ 12 := by
    simp only [List.mem_cons, List.not_mem_nil, or_false] at hd
    rcases hd with rfl | rfl | rfl | rfl
    · exact ⟨5, rfl, by decide, by decide⟩
    · exact ⟨3, rfl, by decide, by decide⟩
    · exact ⟨12, rfl, by decide, by decide⟩
    · exact ⟨2, rfl, by decide, by decide⟩
  refine l_nil ⟨dk, lf, p, rfl, hp1, hp2, fun s hs => ?_⟩
  have hf := hs.few
  have hhi := hs.hi
  have hlo := hs.lo
  have hk1 : 1 ≤ (kindsS s).length := by unfold kindsS; rw [List.length_map]; exact hs.olo
  -- the table
  suffices c3 : ∀ (E' : DEnds), E' = { nx := fun _ => False, rt := fun d => d = .bl true } → DS (cxOf CX0 P w K mg base np_law "law" (defScope sp_law) f cdv A0 outer s0 H E).nox [.fr (.lst (ns.map Dt.int)), .fr (deckD P w dk lf), .fr (srtD s), .fr (tabS s), .un, .un, .un, .un, .un, .un, .un, .un, .un] ((defBody sp_law).drop 3) E' by
    refine s_set 3 (d_if <| t_eq hr.units <| .of <| d_own O.draw (hr.mono (by decide)) (by rfl) <| l_cons <| d_nm 1 rfl <| l_cons <| d_int <| l_nil ⟨dk, lf, 2, rfl, by decide, by decide, fun r _ _ => .of <| d_int (show _ ∧ _ from ⟨fun _ => ?_, fun _ => ?_⟩)⟩) nd
    · exact d_own O.tab.1 (hr.mono (by decide)) (by rfl) <| l_cons <| d_nm 2 rfl <| l_nil ⟨s, rfl, hs, c3 _ rfl⟩
    · exact d_ownK O.tab.2 (hr.mono (by decide)) (by rfl) <| k_cons <| d_nm 2 rfl <| k_nil ⟨rfl, s, rfl, hs, c3 _ rfl⟩
  rintro _ rfl
  refine s_when <| t_or <| t_not <| t_v <| .of <| d_ownG O.same hgu (hr.mono (by decide)) (by rfl) <| l_cons <| d_nm 3 rfl <| l_cons <| d_own O.ltab (hr.mono (by decide)) (by rfl) <| l_cons <| d_nm 2 rfl <| l_nil ⟨s, rfl, hs, l_nil ⟨_, _, rfl, rfl, hs.ga, two_f ?_⟩⟩
  refine t_not <| t_v <| .of <| d_ownG O.same hgu (hr.mono (by decide)) (by rfl) <| l_cons <| d_own O.ista (hr.mono (by decide)) (by rfl) <| l_cons <| d_nm 3 rfl <| l_nil ⟨_, 0, rfl, hs.cl, tab_few hs, l_cons <| d_bl <| l_nil ⟨_, _, rfl, by rw [hs.table], ga_bl _, two_f ?_⟩⟩
  refine s_setO 4 (n_list (by rfl) O.list <| d_ix <| d_nm 3 rfl <| d_int ⟨_, atI_0, _, .inr rfl, ?_⟩) nd
  refine s_freeze 4 rfl ?_
  refine s_for PassesOwn.never rfl (g_nm 5 nd) <| i_rng (by rfl) O.range <| d_int ⟨⟨by decide, by decide⟩, ?_⟩
  refine ⟨fun n ρ => ∃ x5 x6 x7 x8 x9 x10 x11 x12 : Sl, ρ = [.fr (.lst (ns.map Dt.int)), .fr (deckD P w dk lf), .fr (srtD s), .fr (tabS s), .fr (.lst ((kindsS s).map Dt.str)), x5, x6, x7, x8, x9, x10, x11, x12], ⟨_, _, _, _, _, _, _, _, rfl⟩, ?_, ?_⟩
  rotate_left
  · rintro ρ1 ⟨x5, x6, x7, x8, x9, x10, x11, x12, rfl⟩
    exact s_ret <| d_bl rfl
  rintro turn d0 ρ1 hd ⟨x5, x6, x7, x8, x9, x10, x11, x12, rfl⟩
  obtain ⟨rfl, ht⟩ := rng_at hd
  rw [Int.zero_add]
  refine ⟨_, rfl, ?_⟩
  refine s_par 6 7 (l_cons <| d_own O.pick (hr.mono (by decide)) (by rfl) <| l_cons <| d_nm 1 rfl <| l_cons <| d_nm 4 rfl <| l_nil ⟨dk, lf, _, rfl, .inl ⟨_, rfl, by rw [List.length_map]; omega, by rw [List.length_map]; omega, fun d1 hd1 => l_cons <| d_own O.pick (hr.mono (by decide)) (by rfl) <| l_cons <| d_nm 1 rfl <| l_cons <| d_nm 4 rfl <| l_nil ⟨dk, lf, _, rfl, .inl ⟨_, rfl, by rw [List.length_map]; omega, by rw [List.length_map]; omega, fun d2 hd2 => l_nil ⟨_, _, rfl, ?_⟩⟩⟩⟩⟩) rfl nd (by decide)
  obtain ⟨k, hk, rfl⟩ := List.mem_map.mp hd1
  obtain ⟨l, hl, rfl⟩ := List.mem_map.mp hd2
  refine s_set 8 (d_own O.apart (hr.mono (by decide)) (by rfl) <| l_cons <| d_nm 2 rfl <| l_cons <| d_nm 6 rfl <| l_cons <| d_nm 7 rfl <| l_nil ⟨s, k, l, rfl, hs, hk, hl, ?_⟩) nd
  have hal := apart_lt (s := s) (k := k) (l := l)
  have hsym := apart_symm (s := s) (k := l) (l := k)
  have e0 : (!(apartK s l k).isEmpty) = !decide (nI (apartK s k l) = []) := by
    rw [hsym]
    cases apartK s k l <;> rfl
  generalize eap : apartK s k l = ap at hal e0
  obtain ⟨xs, exs, hxs, hx1, hx2⟩ := jud_parts hal hhi
  have vj : V2 (judD ap) := by
    rw [exs]
    exact V2.tup fun x hx => (hxs x hx).v1
  -- what is told of the two kinds
  suffices c9 : ∀ (E' : DEnds), (∀ x6 x7 x8 x9 x10 x11 x12 : Sl, E'.nx [.fr (.lst (ns.map Dt.int)), .fr (deckD P w dk lf), .fr (srtD s), .fr (tabS s), .fr (.lst ((kindsS s).map Dt.str)), .fr (.int (turn : Int)), x6, x7, x8, x9, x10, x11, x12]) → DS (cxOf CX0 P w K mg base np_law "law" (defScope sp_law) f cdv A0 outer s0 H E).nox [.fr (.lst (ns.map Dt.int)), .fr (deckD P w dk lf), .fr (srtD s), .fr (tabS s), .fr (.lst ((kindsS s).map Dt.str)), .fr (.int (turn : Int)), .fr (.str k), .fr (.str l), .fr (.lst ((nI ap).map Dt.int)), .fr (judD ap), x10, x11, x12] ((lBod (defBody sp_law)).drop 3) E' by
    refine s_set 9 (d_if <| t_lt <| .of <| d_nm 5 rfl <| .of <| d_int (show _ ∧ _ from ⟨fun _ => ?_, fun _ => ?_⟩)) nd
    · exact d_own O.judge.1 (hr.mono (by decide)) (by rfl) <| l_cons <| d_nm 2 rfl <| l_cons <| d_nm 6 rfl <| l_cons <| d_nm 7 rfl <| l_nil ⟨s, k, l, rfl, hs, hk, hl, by rw [eap]; exact c9 _ fun _ _ _ _ _ _ _ => ⟨_, _, _, _, _, _, _, _, rfl⟩⟩
    · exact d_ownK O.judge.2 (hr.mono (by decide)) (by rfl) <| k_cons <| d_nm 7 rfl <| k_cons <| d_nm 6 rfl <| k_cons <| d_nm 2 rfl <| k_nil ⟨rfl, s, k, l, rfl, hs, hk, hl, by rw [eap]; exact c9 _ fun _ _ _ _ _ _ _ => ⟨_, _, _, _, _, _, _, _, rfl⟩⟩
  intro E' hE
  refine s_when <| t_or <| t_not <| t_v <| .of <| d_own O.right (hr.mono (by decide)) (by rfl) <| l_cons <| d_nm 8 rfl <| l_cons <| d_nm 9 rfl <| l_nil ⟨ap, _, rfl, vj.g, vj.n, Nat.le_trans vj.p (by decide), ?_⟩
  rw [right_jud]
  refine two_f <| t_not <| t_v <| .of <| d_ownG O.same hgu (hr.mono (by decide)) (by rfl) <| l_cons <| d_own O.confl (hr.mono (by decide)) (by rfl) <| l_cons <| d_nm 3 rfl <| l_cons <| d_nm 7 rfl <| l_cons <| d_nm 6 rfl <| l_nil ⟨s, l, k, rfl, hs, hl, hk, l_cons <| d_ne hr.units <| .of <| d_nm 8 rfl <| .ofN <| n_lst <| l_nil ⟨Nat.zero_le _, eqQ_intsL (v := []) (l_nil ⟨_, _, rfl, congrArg Dt.bl e0, ga_bl _, two_f ?_⟩)⟩⟩
  refine s_set 10 (d_own O.draw (hr.mono (by decide)) (by rfl) <| l_cons <| d_nm 1 rfl <| l_cons <| d_add <| d_ix <| d_nm 2 rfl <| d_int ⟨_, atI_0, d_int <| l_nil ⟨dk, lf, _, rfl, by omega, by omega, fun st st0 st1 => ?_⟩⟩) nd
  obtain ⟨m, rfl⟩ : ∃ n : Nat, st = (n : Int) := ⟨st.toNat, by omega⟩
  have hm : m ≤ 12 := by omega
  have vc : V1 (.str commS) := v1_str (by decide +kernel)
  have vs : V1 (.str stateS) := v1_str (by decide +kernel)
  have vm : V1 (.int (m : Int)) := v1_int (by omega)
  refine s_setO 11 (n_lst <| l_cons <| d_nm 9 rfl <| l_cons <| d_tup <| l_cons <| d_str <| l_nil ⟨by show 1 ≤ 100000; decide, l_cons <| d_tup <| l_cons <| d_str <| l_cons <| d_nm 10 rfl <| l_nil ⟨two_le, l_cons <| d_tup <| l_cons <| d_str <| l_cons <| d_eq hr.units <| .of <| d_nm 10 rfl <| .of <| d_int <| l_nil ⟨two_le, l_cons <| d_tup <| l_cons <| d_str <| l_cons <| d_neg <| d_int <| l_nil ⟨two_le, l_cons <| d_tup <| l_cons <| d_str <| l_nil ⟨by show 1 ≤ 100000; decide, l_cons <| .ofN <| n_lst <| l_cons <| d_str <| l_nil ⟨by show 1 ≤ 100000; decide, l_cons <| d_str <| l_cons <| d_non <| l_nil ⟨by show 9 ≤ 100000; decide, ?_⟩⟩⟩⟩⟩⟩⟩) nd
  refine s_extend 11 rfl (n_lst <| l_cons <| d_tup <| l_cons <| d_str <| l_cons <| d_nm 10 rfl <| l_nil ⟨two_le, l_cons <| d_tup <| l_cons <| d_str <| l_cons <| d_nm 10 rfl <| l_cons <| d_nm 10 rfl <| l_nil ⟨by show 3 ≤ 100000; decide, l_cons <| d_tup <| l_cons <| d_str <| l_cons <| d_nm 10 rfl <| l_nil ⟨two_le, l_cons <| d_tup <| l_cons <| d_str <| l_cons <| d_strI (by rfl) O.str <| d_nm 10 rfl ⟨_, rfl, ?_, l_nil ⟨two_le, l_cons <| d_tup <| l_nil ⟨Nat.zero_le _, l_cons <| d_tup <| l_cons <| d_str <| l_cons <| d_ix <| d_nm 2 rfl <| d_int ⟨_, atI_0, l_nil ⟨two_le, l_nil ⟨by show 6 ≤ 100000; decide, _, rfl, by show 15 ≤ 100000; decide, ?_⟩⟩⟩⟩⟩⟩⟩⟩⟩)
  · have hm' : m < 2 ^ 4 := by omega
    show m.log2 < 1920
    have : m.log2 ≤ m := Nat.log2_le_self m
    omega
  have vS : V1 (.int (s.n : Int)) := v1_int (by omega)
  have hall : ∀ x ∈ ([judD ap, .tup [.str commS], .tup [.str stateS, .int (m : Int)], .tup [.str stateS, .bl (decide ((m : Int) = 1))], .tup [.str stateS, .int (-1)], .tup [.str stateS], .lst [.str commS], .str commS, .non] : List Dt) ++ [.tup [.str commS, .int (m : Int)], .tup [.str stateS, .int (m : Int), .int (m : Int)], .tup [.str "states", .int (m : Int)], .tup [.str stateS, .str (Str.ofString (toString (m : Int)))], .tup [], .tup [.str stateS, .int (s.n : Int)]], V2 x := fun x hx => by
    simp only [List.cons_append, List.nil_append, List.mem_cons, List.not_mem_nil, or_false] at hx
    rcases hx with rfl | rfl | rfl | rfl | rfl | rfl | rfl | rfl | rfl | rfl | rfl | rfl | rfl | rfl | rfl
    · exact vj
    · exact v2_1 vc
    · exact v2_2 vs vm
    · exact v2_2 vs (v1_bl _)
    · exact v2_2 vs (v1_int (by decide))
    · exact v2_1 vs
    · exact V2.lst fun y hy => by rw [List.mem_singleton.mp hy]; exact vc
    · exact vc.v2
    · exact v1_non.v2
    · exact v2_2 vc vm
    · exact v2_3 vs vm vm
    · exact v2_2 (v1_str (by decide +kernel)) vm
    · exact v2_2 vs (v1_str (str_leaf m hm))
    · exact V2.tup fun y hy => nomatch hy
    · exact v2_2 vs vS
  have hos : OsOk [.int 0, .int 1, .str stateS, .str commS, .tup [], .non] := ⟨by show 1 ≤ 6; decide, by show 6 < 1000; decide, fun x hx => by
    simp only [List.mem_cons, List.not_mem_nil, or_false] at hx
    rcases hx with rfl | rfl | rfl | rfl | rfl | rfl
    · exact v1_int (by decide)
    · exact v1_int (by decide)
    · exact vs
    · exact vc
    · exact ⟨rfl, rfl, by decide⟩
    · exact v1_non⟩
  refine s_freeze 11 rfl ?_
  refine s_for PassesOwn.never rfl (g_nm 12 nd) <| i_lst <| .ofN <| n_cat <| DN.w1 <| n_cat <| DN.w1 <| n_lst <| l_cons <| d_nm 9 rfl <| l_nil ⟨by show 1 ≤ 100000; decide, DN.w1 <| n_tkL <| d_own O.shuf (hr.mono (by decide)) (by rfl) <| l_cons <| d_nm 1 rfl <| l_cons <| d_nm 11 rfl <| l_nil ⟨dk, lf, _, rfl, by show 15 ≤ 10000; decide, fun ys hy => ⟨_, rfl, d_int ⟨5, rfl, _, _, rfl, rfl, by rw [List.length_take]; show 1 + _ ≤ _; omega, DN.w1 <| n_lst <| l_cons <| d_own O.bent (hr.mono (by decide)) (by rfl) <| l_cons <| d_nm 1 rfl <| l_cons <| d_nm 9 rfl <| l_cons <| .ofN <| n_lst <| l_cons <| d_int <| l_cons <| d_int <| l_cons <| d_str <| l_cons <| d_str <| l_cons <| d_tup <| l_nil ⟨Nat.zero_le _, l_cons <| d_non <| l_nil ⟨by show 6 ≤ 100000; decide, l_nil ⟨dk, lf, xs, _, by rw [exs], hxs, hx1, hx2, hos, fun r hr2 => l_nil ⟨by show 1 ≤ 100000; decide, _, _, rfl, rfl, by simp only [List.length_append, List.length_cons, List.length_nil, List.length_take]; omega, ?_⟩⟩⟩⟩⟩⟩⟩⟩
  dsimp only [lstQ]
  have hys : ∀ y ∈ ys, V2 y := fun y h1 => hall y (hy.mem_iff.mp h1)
  have hin : ∀ x ∈ ([judD ap] ++ ys.take 5 ++ [r]), V2 x := fun x hx => by
    rcases List.mem_append.mp hx with hx | hx
    · rcases List.mem_append.mp hx with hx | hx
      · rw [List.mem_singleton.mp hx]; exact vj
      · exact hys x (List.mem_of_mem_take hx)
    · rw [List.mem_singleton.mp hx]; exact hr2
  refine ⟨fun n ρ => ∃ x11 x12 : Sl, ρ = [.fr (.lst (ns.map Dt.int)), .fr (deckD P w dk lf), .fr (srtD s), .fr (tabS s), .fr (.lst ((kindsS s).map Dt.str)), .fr (.int (turn : Int)), .fr (.str k), .fr (.str l), .fr (.lst ((nI ap).map Dt.int)), .fr (judD ap), .fr (.int (m : Int)), x11, x12], ⟨_, _, rfl⟩, ?_, ?_⟩
  · rintro j d ρ1 hd ⟨x11, x12, rfl⟩
    have hv := hin d (List.mem_of_getElem? hd)
    have h60 : dpt d ≤ 60 := Nat.le_trans hv.p (by decide)
    refine ⟨_, rfl, s_when <| t_not <| t_v <| .of <| d_ownG O.same hgu (hr.mono (by decide)) (by rfl) <| l_cons <| d_own O.holds (hr.mono (by decide)) (by rfl) <| l_cons <| d_nm 2 rfl <| l_cons <| d_nm 6 rfl <| l_cons <| d_nm 7 rfl <| l_cons <| d_nm 12 rfl <| l_nil ⟨s, k, l, d, rfl, hs, hk, hl, hv.g, hv.n, h60, l_cons <| d_own O.right (hr.mono (by decide)) (by rfl) <| l_cons <| d_nm 8 rfl <| l_cons <| d_nm 12 rfl <| l_nil ⟨ap, d, rfl, hv.g, hv.n, h60, l_nil ⟨_, _, rfl, by rw [eap], ga_bl _, two_f (s_nil ⟨_, _, rfl⟩)⟩⟩⟩⟩
  · rintro ρ1 ⟨x11, x12, rfl⟩
    exact s_nil (hE _ _ _ _ _ _ _)
end
end E5
set_option Elab.async false
set_option linter.all false
set_option maxRecDepth 100000
set_option maxHeartbeats 4000000
namespace E5
open PySem PySem.Spec PyProof.Rows L2 Y Z
section
variable {P : Program} {w : World} {K : PySem.W.Frag} {mg : Str → Option Value} {h : Heap}
theorem defOf {nm : Str} {st : Stmt} {f : Addr} {od an : Option Addr} {sl : Array (Option Value)} {oc kV dc pm cd ct : Value} (X : K.In h) (G : h.Ns mainGlobals mg) (a : PySem.W.nsIn K mainGlobals nm = some (some (.ref f)))
    (l : K.lookup f = some ⟨oc, od, .func (PySem.W.fnOf nm nm (defArgs st) (defBody st) (defScope st) .none kV dc pm an cd ct), sl⟩) (c : PySem.W.codeIn K cd nm = true) (k : PySem.W.keepIn K (.ref f) = true) : Def K mg nm st :=
  ⟨f, _, fun_mk l c k, PySem.W.mg_of X G a⟩
structure Left (K : PySem.W.Frag) (mg : Str → Option Value) : Prop where
  d3 : Def K mg "is_integer" (topS 3)
  d4 : Def K mg "is_plain_word" (topS 4)
  d5 : Def K mg "is_ascending" (topS 5)
  d6 : Def K mg "is_permutation" (topS 6)
  d13 : Def K mg "is_table" (topS 13)
  d14 : Def K mg "are_kinds" (topS 14)
  d15 : Def K mg "are_conflicts" (topS 15)
  d16 : Def K mg "is_pair" (topS 16)
  d17 : Def K mg "check_table" (topS 17)
  d18 : Def K mg "pair_in" (topS 18)
  d19 : Def K mg "does_conflict" (topS 19)
  d23 : Def K mg "do_answer" (topS 23)
  d24 : Def K mg "does_act" (topS 24)
  d25 : Def K mg "is_sort" (topS 25)
  d26 : Def K mg "acts_of" (topS 26)
  d27 : Def K mg "do_agree" (topS 27)
  d28 : Def K mg "quarrels" (topS 28)
  d29 : Def K mg "table_of" (topS 29)
  d30 : Def K mg "quarrels_of" (topS 30)
  d31 : Def K mg "judge_pair" (topS 31)
  d32 : Def K mg "pair_holds" (topS 32)
  d34 : Def K mg "_law_deck" (topS 34)
  d35 : Def K mg "_law_draw" (topS 35)
  d36 : Def K mg "_law_pick" (topS 36)
  d37 : Def K mg "_law_same" (topS 37)
  d38 : Def K mg "_law_is_integer" (topS 38)
  d39 : Def K mg "_law_is_number" (topS 39)
  d40 : Def K mg "_law_shuffled" (topS 40)
  d41 : Def K mg "_law_moves" (topS 41)
  d42 : Def K mg "_law_sort" (topS 42)
  d43 : Def K mg "_law_apart" (topS 43)
  d44 : Def K mg "_law_table_of" (topS 44)
  d45 : Def K mg "_law_bent" (topS 45)
  d46 : Def K mg "_law_is_right" (topS 46)
  d47 : Def K mg "law" (topS 47)
  z_isinstance : mg "isinstance" = none
  z_int : mg "int" = none
  z_bool : mg "bool" = none
  z_str : mg "str" = none
  z_tuple : mg "tuple" = none
  z_len : mg "len" = none
  z_all : mg "all" = none
  z_zip : mg "zip" = none
  z_max : mg "max" = none
  z_range : mg "range" = none
  z_sorted : mg "sorted" = none
  z_enumerate : mg "enumerate" = none
  z_list : mg "list" = none
  z_repr : mg "repr" = none
  z_dict : mg "dict" = none
  g_LETTERS : ∃ u, mg "LETTERS" = some u ∧ RelV (.str "abcdefghijklmnopqrstuvwxyz") u
  g_MOST_LETTERS : ∃ u, mg "MOST_LETTERS" = some u ∧ RelV (.int 10) u
  g_MOST_STATES : ∃ u, mg "MOST_STATES" = some u ∧ RelV (.int 12) u
  g_MOST_OPERATIONS : ∃ u, mg "MOST_OPERATIONS" = some u ∧ RelV (.int 8) u
theorem Left.law (L : Left K mg) {fa : Addr} (hfa : mg "law" = some (.ref fa)) :
    ∃ fd : FuncData, (∀ (s : Shared) (v : Value), BindsTo s fd ⟨[v], []⟩ [("_law_script", v)]) ∧ ∀ base : Heap, FnG P w K mg base 10 fa fd ["_law_script"] (Z.spLaw K) := by
  obtain ⟨f, fd, F, m⟩ := L.d47.ex
  have e := hfa.symm.trans m
  cases e
  refine ⟨fd, fun s v => ?_, fun base => ?_⟩
  · obtain ⟨oc, od, kV, doc, pm, an, cdv, ct, osl, rfl, lk, hcd⟩ := F.ex
    exact .of_eq rfl
  have B : Blt mg := ⟨L.z_isinstance, L.z_int, L.z_bool, L.z_str, L.z_tuple, L.z_len, L.z_all, L.z_zip⟩
  obtain ⟨u_LETTERS, m_LETTERS, r_LETTERS⟩ := L.g_LETTERS
  obtain ⟨u_MOST_LETTERS, m_MOST_LETTERS, r_MOST_LETTERS⟩ := L.g_MOST_LETTERS
  obtain ⟨u_MOST_STATES, m_MOST_STATES, r_MOST_STATES⟩ := L.g_MOST_STATES
  obtain ⟨u_MOST_OPERATIONS, m_MOST_OPERATIONS, r_MOST_OPERATIONS⟩ := L.g_MOST_OPERATIONS
  have dI : OwnD P w K mg base "is_integer" ["thing"] 1 dIsInt := ownD_isint L.d3 B
  have dW := ownA_isword (P := P) (w := w) (base := base) L.d4 B m_MOST_LETTERS r_MOST_LETTERS m_LETTERS r_LETTERS
  have dAs : OwnD P w K mg base "is_ascending" ["things"] 1 dAscA := ownA_isasc L.d5 B
  have dAl : OwnD P w K mg base "is_ascending" ["things"] 1 dAscS := ownS_isasc L.d5 B
  have dPm := ownD_perm L.d6 B L.z_sorted L.z_list L.z_range dI
  have dAn := ownD_answer L.d23 B dI
  have dAc := ownD_act L.d24 B dW dPm dAn
  have dSo := ownD_sort L.d25 B m_MOST_STATES r_MOST_STATES m_MOST_OPERATIONS r_MOST_OPERATIONS dI dAc dAl
  have dAo := own1_acts L.d26 dSo
  have dAg := ownD_agree (P := P) (w := w) (base := base) L.d27
  have dQ := own1_quarrels L.d28 B L.z_range dAg
  have dT := ownD_tableof L.d29 L.z_tuple L.z_list dAo dQ
  have dQo := own1_qof L.d30 L.z_tuple L.z_list dAo dQ
  have dJu := ownD_judge L.d31 dQo
  have dHo := ownD_holds L.d32 B dI dQo
  have dIp := ownA_ispair (P := P) (w := w) (base := base) L.d16 B
  have dAk := ownA_arekinds L.d14 B dW dAs
  have dCf := ownA_areconf L.d15 B dIp dAs
  have dIt := ownA_istable L.d13 B dAk dCf
  have dCk := ownD_check L.d17 dIt.1
  have dPi := ownD_pairin L.d18 dCk
  have dCn := ownD_confl L.d19 dPi
  have dDe : OwnD P w K mg base "_law_deck" ["_law_script"] 1 (dDealt P w) := ownD_dealt (own_deck L.d34 L.z_int L.z_list)
  have dDr : OwnD P w K mg base "_law_draw" psDraw 1 (dDraw P w) := ownD_draw (own_draw L.d35 L.z_int L.z_max)
  have dPk := ownD_pick L.d36 dDr L.z_len
  have dSh := ownD_shuf L.d40 dDr L.z_range L.z_len L.z_list
  have dMo := ownD_moves L.d41 dDr dSh L.z_range L.z_tuple L.z_int L.z_list
  have dLs := ownD_lsort L.d42 dDr dPk dSh dMo L.z_sorted L.z_range L.z_tuple L.z_int L.z_list
  have dAp := ownD_apart (P := P) (w := w) (base := base) L.d43 L.z_dict L.z_range
  have dLt := ownD_ltab L.d44 L.z_enumerate L.z_tuple dAp
  have dLi : OwnD P w K mg base "_law_is_integer" ["_law_thing"] 1 dIsInt := ownD_lisint L.d38 B
  have dLn := ownD_lisnum L.d39 dLi
  have dLr := ownD_lright L.d46 B dLn
  have dBl := ownD_bentL L.d45 B dDr dPk
  have dBt := ownD_bentT L.d45 B L.z_list dDr dPk dBl
  have dSm := ownG_same (P := P) (w := w) (base := base) L.d37 L.z_repr
  exact ok_law F ⟨dDe, dDr, dPk, dLs, dSh, dBt, dT, dLt, dIt.1, dSm, dAp, dJu, dLr, dCn, dHo, L.z_range, L.z_list, L.z_str⟩
theorem all_mk {l : PySem.W.OpenLaw} {fa : Addr} (X : K.In h) (G : h.Ns mainGlobals mg) (hfa : mg "law" = some (.ref fa))
    (d3 : Def K mg "is_integer" (topS 3))
    (d4 : Def K mg "is_plain_word" (topS 4))
    (d5 : Def K mg "is_ascending" (topS 5))
    (d6 : Def K mg "is_permutation" (topS 6))
    (d13 : Def K mg "is_table" (topS 13))
    (d14 : Def K mg "are_kinds" (topS 14))
    (d15 : Def K mg "are_conflicts" (topS 15))
    (d16 : Def K mg "is_pair" (topS 16))
    (d17 : Def K mg "check_table" (topS 17))
    (d18 : Def K mg "pair_in" (topS 18))
    (d19 : Def K mg "does_conflict" (topS 19))
    (d23 : Def K mg "do_answer" (topS 23))
    (d24 : Def K mg "does_act" (topS 24))
    (d25 : Def K mg "is_sort" (topS 25))
    (d26 : Def K mg "acts_of" (topS 26))
    (d27 : Def K mg "do_agree" (topS 27))
    (d28 : Def K mg "quarrels" (topS 28))
    (d29 : Def K mg "table_of" (topS 29))
    (d30 : Def K mg "quarrels_of" (topS 30))
    (d31 : Def K mg "judge_pair" (topS 31))
    (d32 : Def K mg "pair_holds" (topS 32))
    (d34 : Def K mg "_law_deck" (topS 34))
    (d35 : Def K mg "_law_draw" (topS 35))
    (d36 : Def K mg "_law_pick" (topS 36))
    (d37 : Def K mg "_law_same" (topS 37))
    (d38 : Def K mg "_law_is_integer" (topS 38))
    (d39 : Def K mg "_law_is_number" (topS 39))
    (d40 : Def K mg "_law_shuffled" (topS 40))
    (d41 : Def K mg "_law_moves" (topS 41))
    (d42 : Def K mg "_law_sort" (topS 42))
    (d43 : Def K mg "_law_apart" (topS 43))
    (d44 : Def K mg "_law_table_of" (topS 44))
    (d45 : Def K mg "_law_bent" (topS 45))
    (d46 : Def K mg "_law_is_right" (topS 46))
    (d47 : Def K mg "law" (topS 47))
    (z_isinstance : PySem.W.nsIn K mainGlobals "isinstance" = some none)
    (z_int : PySem.W.nsIn K mainGlobals "int" = some none)
    (z_bool : PySem.W.nsIn K mainGlobals "bool" = some none)
    (z_str : PySem.W.nsIn K mainGlobals "str" = some none)
    (z_tuple : PySem.W.nsIn K mainGlobals "tuple" = some none)
    (z_len : PySem.W.nsIn K mainGlobals "len" = some none)
    (z_all : PySem.W.nsIn K mainGlobals "all" = some none)
    (z_zip : PySem.W.nsIn K mainGlobals "zip" = some none)
    (z_max : PySem.W.nsIn K mainGlobals "max" = some none)
    (z_range : PySem.W.nsIn K mainGlobals "range" = some none)
    (z_sorted : PySem.W.nsIn K mainGlobals "sorted" = some none)
    (z_enumerate : PySem.W.nsIn K mainGlobals "enumerate" = some none)
    (z_list : PySem.W.nsIn K mainGlobals "list" = some none)
    (z_repr : PySem.W.nsIn K mainGlobals "repr" = some none)
    (z_dict : PySem.W.nsIn K mainGlobals "dict" = some none)
    (g_LETTERS : ∃ u, mg "LETTERS" = some u ∧ RelV (.str "abcdefghijklmnopqrstuvwxyz") u)
    (g_MOST_LETTERS : ∃ u, mg "MOST_LETTERS" = some u ∧ RelV (.int 10) u)
    (g_MOST_STATES : ∃ u, mg "MOST_STATES" = some u ∧ RelV (.int 12) u)
    (g_MOST_OPERATIONS : ∃ u, mg "MOST_OPERATIONS" = some u ∧ RelV (.int 8) u) :
    ∃ fd : FuncData, (∀ (s : Shared) (v : Value), BindsTo s fd ⟨[v], []⟩ [("_law_script", v)]) ∧ ∀ base : Heap, K.In base → base.Ns mainGlobals mg → FnG l.prog w K mg base 10 fa fd ["_law_script"] (Z.spLaw K) := by
  have L : Left K mg := ⟨d3, d4, d5, d6, d13, d14, d15, d16, d17, d18, d19, d23, d24, d25, d26, d27, d28, d29, d30, d31, d32, d34, d35, d36, d37, d38, d39, d40, d41, d42, d43, d44, d45, d46, d47, PySem.W.mg_none_of X G z_isinstance, PySem.W.mg_none_of X G z_int, PySem.W.mg_none_of X G z_bool, PySem.W.mg_none_of X G z_str, PySem.W.mg_none_of X G z_tuple, PySem.W.mg_none_of X G z_len, PySem.W.mg_none_of X G z_all, PySem.W.mg_none_of X G z_zip, PySem.W.mg_none_of X G z_max, PySem.W.mg_none_of X G z_range, PySem.W.mg_none_of X G z_sorted, PySem.W.mg_none_of X G z_enumerate, PySem.W.mg_none_of X G z_list, PySem.W.mg_none_of X G z_repr, PySem.W.mg_none_of X G z_dict, g_LETTERS, g_MOST_LETTERS, g_MOST_STATES, g_MOST_OPERATIONS⟩
  obtain ⟨fd, h1, h2⟩ := L.law (P := l.prog) (w := w) hfa
  exact ⟨fd, h1, fun base _ _ => h2 base⟩
end
end E5
open PySem PySem.W PyProof.Rows
set_option maxHeartbeats 0 in
theorem PySem.Challenge.cw_eachcut_k47_whole_tables_of_sorts_holds : PySem.Challenge.rw_eachcut_k47_whole_tables_of_sorts.Holds := by
  w_on; o_law; k_head; (case hw => w_witness2)
  k_fill
  refine Y.walk_G (l := PySem.Challenge.rw_eachcut_k47_whole_tables_of_sorts) (n := 63) (k := 10) (x := "_law_script") (sp := fun w => Z.spLaw _) rfl (by decide) rfl ⟨rfl, by decide, by decide⟩ (fun w h Y => PySem.W.kIn_of Y) ?F (fun _ _ a ns hl _ hS => ⟨a, ns, rfl, hS, hl, fun _ _ => rfl⟩)
  case F =>
    intro w mg fa h KX G hmg
    refine' E5.all_mk KX G hmg ?d3 ?d4 ?d5 ?d6 ?d13 ?d14 ?d15 ?d16 ?d17 ?d18 ?d19 ?d23 ?d24 ?d25 ?d26 ?d27 ?d28 ?d29 ?d30 ?d31 ?d32 ?d34 ?d35 ?d36 ?d37 ?d38 ?d39 ?d40 ?d41 ?d42 ?d43 ?d44 ?d45 ?d46 ?d47 ?z_isinstance ?z_int ?z_bool ?z_str ?z_tuple ?z_len ?z_all ?z_zip ?z_max ?z_range ?z_sorted ?z_enumerate ?z_list ?z_repr ?z_dict ?g_LETTERS ?g_MOST_LETTERS ?g_MOST_STATES ?g_MOST_OPERATIONS 
    (case d3 => (refine' E5.defOf KX G ?a ?l ?c ?k; (case a => k_is); (case l => k_is); (case c => k_is); (case k => k_is)))
    (case d4 => (refine' E5.defOf KX G ?a ?l ?c ?k; (case a => k_is); (case l => k_is); (case c => k_is); (case k => k_is)))
    (case d5 => (refine' E5.defOf KX G ?a ?l ?c ?k; (case a => k_is); (case l => k_is); (case c => k_is); (case k => k_is)))
    (case d6 => (refine' E5.defOf KX G ?a ?l ?c ?k; (case a => k_is); (case l => k_is); (case c => k_is); (case k => k_is)))
    (case d13 => (refine' E5.defOf KX G ?a ?l ?c ?k; (case a => k_is); (case l => k_is); (case c => k_is); (case k => k_is)))
    (case d14 => (refine' E5.defOf KX G ?a ?l ?c ?k; (case a => k_is); (case l => k_is); (case c => k_is); (case k => k_is)))
    (case d15 => (refine' E5.defOf KX G ?a ?l ?c ?k; (case a => k_is); (case l => k_is); (case c => k_is); (case k => k_is)))
    (case d16 => (refine' E5.defOf KX G ?a ?l ?c ?k; (case a => k_is); (case l => k_is); (case c => k_is); (case k => k_is)))
    (case d17 => (refine' E5.defOf KX G ?a ?l ?c ?k; (case a => k_is); (case l => k_is); (case c => k_is); (case k => k_is)))
    (case d18 => (refine' E5.defOf KX G ?a ?l ?c ?k; (case a => k_is); (case l => k_is); (case c => k_is); (case k => k_is)))
    (case d19 => (refine' E5.defOf KX G ?a ?l ?c ?k; (case a => k_is); (case l => k_is); (case c => k_is); (case k => k_is)))
    (case d23 => (refine' E5.defOf KX G ?a ?l ?c ?k; (case a => k_is); (case l => k_is); (case c => k_is); (case k => k_is)))
    (case d24 => (refine' E5.defOf KX G ?a ?l ?c ?k; (case a => k_is); (case l => k_is); (case c => k_is); (case k => k_is)))
    (case d25 => (refine' E5.defOf KX G ?a ?l ?c ?k; (case a => k_is); (case l => k_is); (case c => k_is); (case k => k_is)))
    (case d26 => (refine' E5.defOf KX G ?a ?l ?c ?k; (case a => k_is); (case l => k_is); (case c => k_is); (case k => k_is)))
    (case d27 => (refine' E5.defOf KX G ?a ?l ?c ?k; (case a => k_is); (case l => k_is); (case c => k_is); (case k => k_is)))
    (case d28 => (refine' E5.defOf KX G ?a ?l ?c ?k; (case a => k_is); (case l => k_is); (case c => k_is); (case k => k_is)))
    (case d29 => (refine' E5.defOf KX G ?a ?l ?c ?k; (case a => k_is); (case l => k_is); (case c => k_is); (case k => k_is)))
    (case d30 => (refine' E5.defOf KX G ?a ?l ?c ?k; (case a => k_is); (case l => k_is); (case c => k_is); (case k => k_is)))
    (case d31 => (refine' E5.defOf KX G ?a ?l ?c ?k; (case a => k_is); (case l => k_is); (case c => k_is); (case k => k_is)))
    (case d32 => (refine' E5.defOf KX G ?a ?l ?c ?k; (case a => k_is); (case l => k_is); (case c => k_is); (case k => k_is)))
    (case d34 => (refine' E5.defOf KX G ?a ?l ?c ?k; (case a => k_is); (case l => k_is); (case c => k_is); (case k => k_is)))
    (case d35 => (refine' E5.defOf KX G ?a ?l ?c ?k; (case a => k_is); (case l => k_is); (case c => k_is); (case k => k_is)))
    (case d36 => (refine' E5.defOf KX G ?a ?l ?c ?k; (case a => k_is); (case l => k_is); (case c => k_is); (case k => k_is)))
    (case d37 => (refine' E5.defOf KX G ?a ?l ?c ?k; (case a => k_is); (case l => k_is); (case c => k_is); (case k => k_is)))
    (case d38 => (refine' E5.defOf KX G ?a ?l ?c ?k; (case a => k_is); (case l => k_is); (case c => k_is); (case k => k_is)))
    (case d39 => (refine' E5.defOf KX G ?a ?l ?c ?k; (case a => k_is); (case l => k_is); (case c => k_is); (case k => k_is)))
    (case d40 => (refine' E5.defOf KX G ?a ?l ?c ?k; (case a => k_is); (case l => k_is); (case c => k_is); (case k => k_is)))
    (case d41 => (refine' E5.defOf KX G ?a ?l ?c ?k; (case a => k_is); (case l => k_is); (case c => k_is); (case k => k_is)))
    (case d42 => (refine' E5.defOf KX G ?a ?l ?c ?k; (case a => k_is); (case l => k_is); (case c => k_is); (case k => k_is)))
    (case d43 => (refine' E5.defOf KX G ?a ?l ?c ?k; (case a => k_is); (case l => k_is); (case c => k_is); (case k => k_is)))
    (case d44 => (refine' E5.defOf KX G ?a ?l ?c ?k; (case a => k_is); (case l => k_is); (case c => k_is); (case k => k_is)))
    (case d45 => (refine' E5.defOf KX G ?a ?l ?c ?k; (case a => k_is); (case l => k_is); (case c => k_is); (case k => k_is)))
    (case d46 => (refine' E5.defOf KX G ?a ?l ?c ?k; (case a => k_is); (case l => k_is); (case c => k_is); (case k => k_is)))
    (case d47 => (refine' E5.defOf KX G ?a ?l ?c ?k; (case a => k_is); (case l => k_is); (case c => k_is); (case k => k_is)))
    (case z_isinstance => k_is)
    (case z_int => k_is)
    (case z_bool => k_is)
    (case z_str => k_is)
    (case z_tuple => k_is)
    (case z_len => k_is)
    (case z_all => k_is)
    (case z_zip => k_is)
    (case z_max => k_is)
    (case z_range => k_is)
    (case z_sorted => k_is)
    (case z_enumerate => k_is)
    (case z_list => k_is)
    (case z_repr => k_is)
    (case z_dict => k_is)
    case g_LETTERS =>
      refine' ⟨_, PySem.W.mg_of KX G ?z, ?r⟩
      (case z => k_is)
      (case r => exact ⟨_, rfl⟩)
    case g_MOST_LETTERS =>
      refine' ⟨_, PySem.W.mg_of KX G ?z, ?r⟩
      (case z => k_is)
      (case r => exact ⟨_, rfl⟩)
    case g_MOST_STATES =>
      refine' ⟨_, PySem.W.mg_of KX G ?z, ?r⟩
      (case z => k_is)
      (case r => exact ⟨_, rfl⟩)
    case g_MOST_OPERATIONS =>
      refine' ⟨_, PySem.W.mg_of KX G ?z, ?r⟩
      (case z => k_is)
      (case r => exact ⟨_, rfl⟩)
